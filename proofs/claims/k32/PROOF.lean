import PyProof.Rows.All
import Wide.All
import OpenK.AllK
import Wide.FinOn
import Lean
import PyProof.EqAt
import PyProof.EqKinds
import PyProof.TupleCall
import PySem.Challenge.RW_oneglance_k32_a_keeper_call_by_call
local macro_rules|`(tactic|trivial)=>`(tactic|exact Or.inl rfl)
local macro_rules|`(tactic|trivial)=>`(tactic|exact Or.inr rfl)
set_option maxHeartbeats 4000000
set_option Elab.async false
set_option linter.all false
set_option maxRecDepth 100000
noncomputable section
open Option renaming bind_eq_some_iff→Q0, bind_some→QZ, map_eq_some_iff→Z0, isSome_iff_exists→ZQ, isSome_some→ZU, map_some→ZF, getD_some→Zq
open PySem.W renaming Frag→Q1
open PySem renaming wpAny_bind→Q2, Value→Q3, Shared→Q4, wpAny_pure→QJ, starEach→QR, sizeLine→QB, Expr→QH, model→Qz, Program→Qx, World→Qg, Around→Qd, bootBuiltins→Qc, Stmt→Qm, wpAny_mono→Z6, backTo→Z9, FuncData→ZP, swapsWith→ZT, Scope→Zr
open PySem.Heap renaming get?_push_of_some→Q5, lt_size→QK, get?_push_size→QM, size_push→Zc
open Bool renaming false_ne_true→Q6, false_eq_true→Qh, eq_iff_iff→ZK, and_eq_true→Zx, not_true→Zw, false_or→Ze, not_eq_true'→Za
open List renaming getElem?_eq_getElem→Q7, length_map→Q8, getElem?_eq_some_iff→Q9, mem_cons_of_mem→QX, length_cons→QV, replicate→QY, mem_cons_self→QU, size_toArray→QD, map_cons→QF, length_append→QC, mem_append_right→QN, mem_cons→Qq, getD_eq_getElem?_getD→Qv, mem_singleton→Qy, append_assoc→Qw, getElem?_map→Qr, map_map→Qu, getElem?_set_ne→Qb, mem_append→Qe, range→Qa, mem_map→Qn, length_set→Qt, find?_cons→Ql, getElem?_append_right→Qi, getElem?_append_left→Qo, nil_append→Qs, getElem?_set→Z7, map_congr_left→ZX, mem_range→ZJ, append_nil→ZV, map_nil→ZY, length_eq_zero_iff→ZG, cons_append→ZH, any_cons→ZE, lookup_cons→ZC, getElem?_replicate→ZL, getElem?_cons_succ→ZI, replicate_succ→ZO, any_eq_true→Zz, getElem?_eq_none→Zj, nodup_cons→Zk, set_append_left→Zy, not_mem_nil→Zu, getElem_mem→Zb, map_append→Zg, length_nil→Zh, flatten_cons→Zf
open Nat renaming le_refl→QQ, lt_of_lt_of_le→QL, ne_of_lt→Qj, le_trans→Qp, zero_le→ZZ, le_of_ble_eq_true→ZR, lt_irrefl→ZN
open Array renaming length_toList→Qk, getElem?_eq_getElem→Z8, getD_eq_getD_getElem?→ZS, getElem?_toList→Zv
open Int renaming toNat_natCast→ZD
namespace L2
open PySem PySem.Spec PyProof.Rows
abbrev Key:=Sum Int Str
def oX:Key->Q3->Bool
 |.inl k,v=>Value.isInt k v
 |.inr x,v=>Value.isStrOf x v
def M7(w:Qg):Key->Int
 |.inl k=>hashInt k
 |.inr x=>hashStr w x
theorem bE:∀{k:Key} {v:Q3},oX k v=true->(∃i t,k=Sum.inl i/\v=Value.int i t)\/(∃x t,k=Sum.inr x/\v=Value.str x t)
 |.inl i,v,h=>by
  obtain⟨t,e⟩:=Value.isInt_shape (k:=i) (v:=v) h;exact .inl ⟨i,t,rfl,e⟩
 |.inr x,v,h=>by
  obtain⟨t,e⟩:=Value.isStrOf_shape (x:=x) (v:=v) h;exact .inr ⟨x,t,rfl,e⟩
def yD(i:Int)(t:Tok):oX (.inl i) (.int i t)=true:=by simp[oX,Value.isInt]
def yC(x:Str)(t:Tok):oX (.inr x) (.str x t)=true:=by simp[oX,Value.isStrOf]
theorem Im(a b:Int):decide ((Sum.inl a:Key)=Sum.inl b)=(a == b):=by
 by_cases e:a=b
 ·subst e;simp
 ·have h:¬(Sum.inl a:Key)=Sum.inl b:=fun q=>e (Sum.inl.inj q);rw[decide_eq_false h];exact(beq_eq_false_iff_ne.mpr e).symm
theorem Ih(a b:Str):decide ((Sum.inr a:Key)=Sum.inr b)=decide (a=b):=by
 by_cases e:a=b
 ·subst e;simp
 ·have h:¬(Sum.inr a:Key)=Sum.inr b:=fun q=>e (Sum.inr.inj q);rw[decide_eq_false h,decide_eq_false e]
def Il(a:Int)(b:Str):decide ((Sum.inl a:Key)=Sum.inr b)=false:=decide_eq_false (fun q=>nomatch q)
def Ik(a:Str)(b:Int):decide ((Sum.inr a:Key)=Sum.inl b)=false:=decide_eq_false (fun q=>nomatch q)
def bC(prog:Qx)(w:Qg):PySem.KeyKind prog w Key where
 is:=oX
 hash:=M7 w
 inj:=fun v a b ha hb=>by
  rcases bE ha with⟨i,t,rfl,rfl⟩|⟨x,t,rfl,rfl⟩
  ·rcases bE hb with⟨j,u,rfl,e⟩|⟨y,u,rfl,e⟩
   ·injection e with e1 _;rw[e1]
   ·exact nomatch e
  ·rcases bE hb with⟨j,u,rfl,e⟩|⟨y,u,rfl,e⟩
   ·exact nomatch e
   ·injection e with e1 _;rw[e1]
 byValue:=fun k v h=>by
  rcases bE h with⟨i,t,rfl,rfl⟩|⟨x,t,rfl,rfl⟩<;>rfl
 pyHash:=fun hv h=>by
  rcases bE hv with⟨i,t,rfl,rfl⟩|⟨x,t,rfl,rfl⟩
  ·exact wpAny_pyHash_int h
  ·exact wpAny_pyHash_str h
 eqBool:=fun hu hv h=>by
  rcases bE hu with⟨i,t,rfl,rfl⟩|⟨x,t,rfl,rfl⟩
  ·rcases bE hv with⟨j,u,rfl,rfl⟩|⟨y,u,rfl,rfl⟩
   ·rw[Im]at h;exact wpAny_eqBool_int h
   ·rw[Il]at h;exact SeqAt.EqAt.int_str i t y u _ _ _ _ h
  ·rcases bE hv with⟨j,u,rfl,rfl⟩|⟨y,u,rfl,rfl⟩
   ·rw[Ik]at h;exact SeqAt.EqAt.str_int x t j u _ _ _ _ h
   ·rw[Ih]at h;exact wpAny_eqBool_str h
 «strs»:=fun k x t v h=>by
  rcases bE h with⟨i,u,rfl,e⟩|⟨y,u,rfl,e⟩
  ·exact nomatch e
  ·injection e with e1 _;subst e1;cases v<;>rfl
def sM(prog:Qx)(w:Qg)(i:Int)(t:Tok):(bC prog w).is (.inl i) (.int i t)=true:=yD i t
def sL(prog:Qx)(w:Qg)(x:Str)(t:Tok):(bC prog w).is (.inr x) (.str x t)=true:=yC x t
inductive V where
 |non|bl (b:Bool)|int (i:Int)|str (x:Str)|byt (b:Array UInt8)|flt (b:UInt64)|ref (a:Addr)|ty (n:String)
 deriving DecidableEq
def cE:V->Q3->Prop
 |.non,u=>u=Value.none
 |.bl b,u=>u=Value.bool b
 |.int i,u=>∃t,u=Value.int i t
 |.str x,u=>∃t,u=Value.str x t
 |.byt b,u=>∃t,u=Value.bytes b t
 |.flt b,u=>∃t,u=Value.float b t
 |.ref a,u=>u=Value.ref a
 |.ty n,u=>u=Value.type n
abbrev bR:List V->List Q3->Prop:=Paired cE
def bR.length{xs:List V}{us:List Q3}(r:bR xs us):xs.length=us.length:=Paired.length r
theorem bR.get:∀{xs:List V} {us:List Q3} {i:Nat} {x:V},bR xs us->xs[i]?=some x->∃u,us[i]?=some u/\cE x u
 |_,_,_,_,.nil,e=>by simp at e
 |_,_,0,_,.cons r _,e=>by simp at e;subst e;exact⟨_,rfl,r⟩
 |_,_,i+1,x,.cons _ t,e=>by
  obtain⟨u,h1,h2⟩:=bR.get (i:=i) (x:=x) t (by simpa using e);exact⟨u,by simpa using h1,h2⟩
theorem bR.set{x:V}{u:Q3}(r:cE x u):∀{xs:List V} {us:List Q3} (i:Nat),bR xs us->bR (xs.set i x) (us.set i u)
 |_,_,_,.nil=>.nil
 |_,_,0,.cons _ t=>.cons r t
 |_,_,i+1,.cons q t=>.cons q (bR.set r i t)
theorem bR.append:∀{xs ys:List V} {us ws:List Q3},bR xs us->bR ys ws->bR (xs++ys) (us++ws)
 |_,_,_,_,.nil,s=>s
 |_,_,_,_,.cons r t,s=>.cons r (bR.append t s)
theorem bR.take:∀{xs:List V} {us:List Q3} (n:Nat),bR xs us->bR (xs.take n) (us.take n)
 |_,_,0,_=>.nil
 |_,_,_+1,.nil=>.nil
 |_,_,n+1,.cons r t=>.cons r (bR.take n t)
theorem bR.drop:∀{xs:List V} {us:List Q3} (n:Nat),bR xs us->bR (xs.drop n) (us.drop n)
 |_,_,0,r=>r
 |_,_,_+1,.nil=>.nil
 |_,_,n+1,.cons _ t=>bR.drop n t
def pX:Option V->Option Q3->Prop
 |some v,some u=>cE v u
 |none,none=>True
 |_,_=>False
def KV{κ:Type}:List (κ×V)->List (κ×Q3)->Prop:=Paired fun(p:κ×V) (q:κ×Q3)=>p.1=q.1/\cE p.2 q.2
def kV:Key->V
 |.inl i=>.int i
 |.inr x=>.str x
inductive HO where
 |lst (xs:List V)
 |tup (xs:List V)
 |dK (kvs:List (Key×V))|dT (kvs:List (List Key×V))
 |set (S:Int->Bool) (n:Nat)
 |ins (C dx:Addr) (fs:List (Str×V))
 |own (x:Addr)
 |xd (fs:List (Str×V))
 |met (f x:Addr)
 |rng (lo hi:Int)
 |frz (o:Obj) (u:HO)
 |tbl (ps:Array Q3)
 |ext (φ:Heap->Prop)
abbrev Hp:=Addr->Option HO
def upd(H:Hp)(a:Addr)(o:HO):Hp:=fun b=>if b=a then some o else H b
def aL{H:Hp}{a:Addr}{o:HO}:upd H a o a=some o:=by unfold upd;rw[if_pos rfl]
def aP{H:Hp}{a b:Addr}{o:HO}(h:b≠a):upd H a o b=H b:=by unfold upd;rw[if_neg h]
theorem Lc{H:Hp}{a b:Addr}{o u:HO}(h:H a=some o)(h':H b=some u)(d:o≠u):a≠b:=by
 intro e;subst e;rw[h]at h';exact d (Option.some.inj h')
theorem dQ{H:Hp}{a b:Addr}{o:HO}(h:H a=some o)(h':H b=none):a≠b:=by
 intro e;subst e;rw[h]at h';cases h'
section
variable(P:Qx)(w:Qg)
def dr(H:Hp)(h:Heap)(a:Addr):HO->Prop
 |.lst xs=>xs.length<=QB/\∃(its:List Q3) (n:Nat),bR xs its/\h.get? a=some { cls:=.type "list",data:=.seq its.toArray n }
 |.tup xs=>xs.length<=QB/\∃its:List Q3,bR xs its/\IsTup h a its.toArray
 |.dK kvs=>kvs.length<=QB/\(a == sysModules)=false/\∃vs,KV kvs vs/\h.DictOf (bC P w) a vs
 | .dT kvs=>kvs.length<=QB/\(a == sysModules)=false/\∃xs:List (List Key×Addr×Q3),
   Paired (fun(p:List Key×V) (q:List Key×Addr×Q3)=>p.1=q.1/\H q.2.1=some (.tup (p.1.map kV))/\cE p.2 q.2.2) kvs xs/\
   ∃o es ep,h.get? a=some o/\o.ExactDict/\o.data=.dict es ep/\es.toList=xs.map (entryOfKey (tupleKind (bC P w)))/\(xs.map (·.1)).Nodup
 |.set S n=>h.SetOf (intKind P w) a S n
 | .ins C dx fs=>H dx=some (.own a)/\fs.length<=1000/\dx≠a/\h.get? a=some (PySem.W.instObj C dx)/\
   ∃mA,h.Ns1 dx mA/\(∀f,pX (fs.lookup f) (mA f))/\PySem.Within mA (fs.map (·.1))
 |.own _=>∃o,h.get? a=some o
 |.xd fs=>∃mA,h.Ns1 a mA/\∀f,pX (fs.lookup f) (mA f)
 |.rng lo hi=>∃t u v,h.get? a=some { cls:=.type "range",data:=.fields #[.int lo t,.int hi u,.int 1 v] }
 |.frz o u=>h.get? a=some o/\dr H h a u
 |.tbl ps=>h.get? a=some { cls:=.none,data:=.fields ps }
 |.met f x=>h.get? a=some (PySem.W.methodObj (.ref f) (.ref x))
 |.ext φ=>φ h/\(∃o,h.get? a=some o)/\∀h1 h2:Heap,φ h1->(∀o,h1.get? a=some o->h2.get? a=some o)->φ h2
def HOk(H:Hp)(h:Heap):Prop:=∀a o,H a=some o->dr P w H h a o
end
section
variable{P:Qx}{w:Qg}{H H':Hp}{h h':Heap}{a:Addr}{o:HO}
theorem dr.lt(x:dr P w H h a o):a<h.objs.size:=by
 cases o with
 |lst xs=>obtain⟨_,_,_,_,e⟩:=x;exact QK e
 |tup xs=>obtain⟨_,_,_,p⟩:=x;exact p.lt
 |dK kvs=>obtain⟨_,_,_,_,o,_,_,e,_⟩:=x;exact QK e
 |dT kvs=>obtain⟨_,_,_,_,o,_,_,e,_⟩:=x;exact QK e
 |set S n=>obtain⟨o,_,_,_,e,_⟩:=x;exact QK e
 |ins C dx fs=>obtain⟨_,_,_,e,_⟩:=x;exact QK e
 |own y=>obtain⟨_,e⟩:=x;exact QK e
 |xd fs=>obtain⟨_,⟨_,_,_,e,_⟩,_⟩:=x;exact QK e
 |rng lo hi=>obtain⟨_,_,_,e⟩:=x;exact QK e
 |frz ob u=>obtain⟨e,_⟩:=x;exact QK e
 |tbl ps=>exact QK (show h.get? a=some _ from x)
 |met f y=>exact QK (show h.get? a=some _ from x)
 |ext φ=>obtain⟨_,⟨_,e⟩,_⟩:=x;exact QK e
theorem Paired.mapP{α β:Type}{F G:α->β->Prop}:∀{l₁:List α} {l₂:List β},Paired F l₁ l₂->(∀a b,F a b->G a b)->Paired G l₁ l₂
 |_,_,.nil,_=>.nil
 |_,_,.cons r t,f=>.cons (f _ _ r) (Paired.mapP t f)
theorem dr.stay(x:dr P w H h a o)(k:∀b u,(b=a\/H b=some (.own a))->h.get? b=some u->h'.get? b=some u)
  (ho:∀b,H b=some (.own a)->H' b=some (.own a)) (ht:∀b xs,H b=some (.tup xs)->H' b=some (.tup xs)):dr P w H' h' a o:=by
 induction o with
 |lst xs=>obtain⟨z,its,n,r,e⟩:=x;exact⟨z,its,n,r,k _ _ (.inl rfl) e⟩
 |tup xs=>obtain⟨z,its,r,ob,e,c⟩:=x;exact⟨z,its,r,ob,k _ _ (.inl rfl) e,c⟩
 |dK kvs=>obtain⟨z,y,vs,r,ob,es,ep,e,c⟩:=x;exact⟨z,y,vs,r,ob,es,ep,k _ _ (.inl rfl) e,c⟩
 |dT kvs=>
  obtain⟨z,y,xs,r,ob,es,ep,e,c⟩:=x;exact⟨z,y,xs,Paired.mapP r fun p q z=>⟨z.1,ht _ _ z.2.1,z.2.2⟩,ob,es,ep,k _ _ (.inl rfl) e,c⟩
 |set S n=>obtain⟨ob,es,ep,t,e,c⟩:=x;exact⟨ob,es,ep,t,k _ _ (.inl rfl) e,c⟩
 |ins C dx fs=>
  obtain⟨d,z,ne,e,mA,⟨od,es,ep,e2,c⟩,r⟩:=x;exact⟨ho _ d,z,ne,k _ _ (.inl rfl) e,mA,⟨od,es,ep,k _ _ (.inr d) e2,c⟩,r⟩
 |own y=>obtain⟨ob,e⟩:=x;exact⟨ob,k _ _ (.inl rfl) e⟩
 |xd fs=>obtain⟨mA,⟨od,es,ep,e,c⟩,r⟩:=x;exact⟨mA,⟨od,es,ep,k _ _ (.inl rfl) e,c⟩,r⟩
 |rng lo hi=>obtain⟨t,u,v,e⟩:=x;exact⟨t,u,v,k _ _ (.inl rfl) e⟩
 |frz ob u ih=>obtain⟨e,q⟩:=x;exact⟨k _ _ (.inl rfl) e,ih q⟩
 |tbl ps=>
  have e:h.get? a=some { cls:=.none,data:=.fields ps }:=x;show h'.get? a=some { cls:=.none,data:=.fields ps };exact k a _ (.inl rfl) e
 |met f y=>
  have e:h.get? a=some (PySem.W.methodObj (.ref f) (.ref y)):=x;show h'.get? a=some (PySem.W.methodObj (.ref f) (.ref y));exact k a _ (.inl rfl) e
 |ext φ=>obtain⟨p,⟨o,e⟩,st⟩:=x;exact⟨st _ _ p fun o q=>k _ _ (.inl rfl) q,⟨o,k _ _ (.inl rfl) e⟩,st⟩
def HOk.lt(x:HOk P w H h)(e:H a=some o):a<h.objs.size:=(x a o e).lt
theorem HOk.fresh(x:HOk P w H h)(e:h.objs.size<=a):H a=none:=by
 cases q:H a with
 |none=>rfl
 |some u=>exact absurd (QL (x.lt q) e) (ZN _)
theorem HOk.kept(x:HOk P w H h)(k:∀b u,h.get? b=some u->h'.get? b=some u):HOk P w H h':=fun a o e=>
 (x a o e).stay (fun b u _ q=>k b u q) (fun _ q=>q) fun _ _ q=>q
theorem HOk.laid(x:HOk P w H h)(k:∀b u,h.get? b=some u->h'.get? b=some u)(hp:h.objs.size<=a)(new:dr P w (upd H a o) h' a o):HOk P w (upd H a o) h':=fun b u e=>by
 have hn:=x.fresh hp;by_cases hb:b=a
 ·subst hb;rw[aL]at e;cases e;exact new
 ·rw[aP hb]at e;exact(x b u e).stay (fun c v _ q=>k c v q) (fun c q=>by rw[aP (dQ q hn)];exact q) fun c xs q=>by rw[aP (dQ q hn)];exact q
end
def Rd(H:Hp)(a:Addr)(u:HO):Prop:=H a=some u\/∃o,H a=some (.frz o u)
theorem Rd.ok{P:Qx}{w:Qg}{H:Hp}{h:Heap}{a:Addr}{u:HO}(r:Rd H a u)(x:HOk P w H h):dr P w H h a u:=by
 rcases r with r|⟨o,r⟩
 ·exact x a u r
 ·obtain⟨_,q⟩:=x a _ r;exact q
def Mut:Option HO->Prop
 |some (.lst _)=>True
 |some (.dK _)=>True
 |some (.dT _)=>True
 |some (.set _ _)=>True
 |some (.ins _ _ _)=>True
 |some (.ext _)=>True
 |_=>False
section
variable{P:Qx}{w:Qg}{H:Hp}{h h':Heap}{x e:Addr}{o':HO}
theorem HOk.write(ok:HOk P w H h)(mu:Mut (H x))(he:e=x\/H e=some (.own x))(k:∀b u,b≠e->h.get? b=some u->h'.get? b=some u)(heo:∃u,h'.get? e=some u)
  (new:dr P w (upd H x o') h' x o'):HOk P w (upd H x o') h':=fun b u q=>by
 have nown:∀c y,H c=some (.own y)->c≠x:=fun c y r z=>by subst z;rw[r]at mu;exact mu
 have ntup:∀c xs,H c=some (.tup xs)->c≠x:=fun c xs r z=>by subst z;rw[r]at mu;exact mu
 by_cases hb:b=x
 ·subst hb;rw[aL]at q;cases q;exact new
 ·rw[aP hb]at q;by_cases hbe:b=e
  ·have q':H b=some (.own x):=by
    rcases he with z|z
    ·exact absurd (hbe.trans z) hb
    ·rw[hbe];exact z
   rw[q]at q';cases q';obtain⟨v,hv⟩:=heo;exact⟨v,by rw[hbe];exact hv⟩
  ·refine(ok b u q).stay (fun c v hc r=>k c v ?_ r) (fun c r=>by rw[aP (nown c b r)];exact r) fun c xs r=>by rw[aP (ntup c xs r)];exact r
   rcases hc with rfl|hc
   ·exact hbe
   ·rintro rfl;rcases he with z|z
    ·exact nown c b hc z
    ·rw[hc]at z;cases z;exact hb rfl
end
structure Un(fs ex:List Addr)(H H':Hp)(h h':Heap):Prop where
 keep:∀b o,h.get? b=some o->H b=none->b∉fs->b∉ex->h'.get? b=some o
 slot:∀b o,h.get? b=some o->H b=none->b∈fs->b∉ex->∃sl,h'.get? b=some { o with slots:=sl }
 free:∀b o,h.get? b=some o->H b=none->b∉ex->H' b=none
 there:∀b o,h.get? b=some o->b∉ex->∃o',h'.get? b=some o'
 tups:∀b xs,H b=some (.tup xs)->H' b=some (.tup xs)
 frzs:∀b o u,H b=some (.frz o u)->H' b=some (.frz o u)
 tbls:∀b ps,H b=some (.tbl ps)->∃more,H' b=some (.tbl (ps++more))
section
variable{fs ex:List Addr}{H H1:Hp}{h h1 h':Heap}{a x e:Addr}{o:HO}
theorem Un.any(u:Un fs ex H H1 h h1){b:Addr}{ob:Obj}(q:h.get? b=some ob)(n:H b=none)(hx:b∉ex):∃sl,h1.get? b=some { ob with slots:=sl }:=by
 by_cases hb:b∈fs
 ·exact u.slot b ob q n hb hx
 ·exact⟨ob.slots,u.keep b ob q n hb hx⟩
theorem Un.kept(k:∀b u,h.get? b=some u->h'.get? b=some u):Un fs ex H H h h':=
 ⟨fun b ob q _ _ _=>k b ob q,fun b ob q _ _ _=>⟨ob.slots,k b ob q⟩,fun _ _ _ n _=>n,fun b ob q _=>⟨ob,k b ob q⟩,fun _ _ q=>q,fun _ _ _ q=>q,fun _ ps q=>⟨#[],by rw[q];simp⟩⟩
def Un.refl:Un fs ex H H h h:=Un.kept fun _ _ q=>q
theorem Un.laid(k:∀b u,h.get? b=some u->h'.get? b=some u)(hp:h.objs.size<=a)(hn:H a=none):Un fs ex H (upd H a o) h h' where
 keep:=fun b u q _ _ _=>k b u q
 slot:=fun b u q _ _ _=>⟨u.slots,k b u q⟩
 free:=fun b u q n _=>by rw[aP (Qj (QL (QK q) hp))];exact n
 there:=fun b u q _=>⟨u,k b u q⟩
 tups:=fun b xs q=>by rw[aP (dQ q hn)];exact q
 frzs:=fun b u xs q=>by rw[aP (dQ q hn)];exact q
 tbls:=fun b ps q=>⟨#[],by rw[aP (dQ q hn),q];simp⟩
theorem Un.write(mu:Mut (H x))(he:e=x\/H e=some (.own x))(k:∀b u,b≠e->h.get? b=some u->h'.get? b=some u)(heo:∃u,h'.get? e=some u):Un fs ex H (upd H x o) h h':=by
 have hx:∀b,H b=none->b≠x:=fun b n z=>by subst z;rw[n]at mu;exact mu
 have hb:∀b,H b=none->b≠e:=fun b n z=>by
  subst z;rcases he with r|r
  ·exact hx b n r
  ·rw[n]at r;cases r
 have hm:∀b u,H b=some u->¬Mut (some u)->b≠x:=fun b u q nm z=>by subst z;rw[q]at mu;exact nm mu
 refine⟨fun b u q n _ _=>k b u (hb b n) q,fun b u q n _ _=>⟨u.slots,k b u (hb b n) q⟩,fun b u q n _=>by rw[aP (hx b n)];exact n,fun b u q _=>?_,
  fun b xs q=>by rw[aP (hm b _ q fun z=>z)];exact q,fun b u xs q=>by rw[aP (hm b _ q fun z=>z)];exact q,fun b ps q=>⟨#[],by rw[aP (hm b _ q fun z=>z),q];simp⟩⟩
 by_cases hbe:b=e
 ·subst hbe;exact heo
 ·exact⟨u,k b u hbe q⟩
end
def trk(h:Heap)(H:Hp):List Addr:=(Qa h.objs.size).filter fun a=>(H a).isSome
def Bz(h:Heap)(H:Hp):Heap:=PySem.W.hideAll h (trk h H)
def yQ(h:Heap)(H:Hp):(Bz h H).objs.size=h.objs.size:=PySem.W.hideAll_size _ _
theorem o8{h:Heap}{H:Hp}{b:Addr}{o:Obj}(e:h.get? b=some o)(n:H b=none):(Bz h H).get? b=some o:=
 PySem.W.hideAll_get _ e fun hm=>by
  have q:(H b).isSome=true:=(List.mem_filter.mp hm).2;rw[n]at q;simp at q
theorem EZ{h:Heap}{H:Hp}{b:Addr}{o:Obj}(e:(Bz h H).get? b=some o):h.get? b=some o/\H b=none:=by
 have e':h.get? b=some o:=PySem.W.of_hideAll (trk h H) e;refine⟨e',?_⟩;cases q:H b with
 |none=>rfl
 |some x=>
  have hm:b∈trk h H:=List.mem_filter.mpr ⟨ZJ.mpr (QK e'),by simp[q]⟩;have z:(Bz h H).get? b=none:=PySem.W.hideAll_none (trk h H) hm;rw[z]at e;cases e
structure Mod(K:Q1)(mg:Str->Option Q3)(base:Heap):Prop where
 kin:K.In base
 glob:base.Ns mainGlobals mg
 blt:∃mb,base.Ns builtinsNs mb/\∀x:Str,x≠"__name__"->mb x=Qc x
 nolimit:base.NoLimit
structure Cx where
 prog:Qx
 w:Qg
 K:Q1
 mg:Str->Option Q3
 base:Heap
 A:Qd
 N:List Str
 s₀:Q4
 H₀:Hp
 env:Env
 outer:List Env
 stack:List Env
 ex:List Addr
 fn:Str->Bool
 calm:Bool
 pn:List (Addr×Obj)
 xe:Q3->Q4->Prop
def frs(l:List Env):List Addr:=l.filterMap (·.frame)
abbrev Cx.fs(X:Cx):List Addr:=frs X.outer
def Vis(sc:Zr)(x:Str):Prop:=sc.names.lookup x=some .local\/sc.names.lookup x=some .cell\/sc.names.lookup x=some .free
def Loc(sc:Zr)(x:Str):Prop:=sc.names.lookup x=some .local\/sc.names.lookup x=some .cell
def Nq(env:Env)(h:Heap)(m:Str->Option Q3)(x:Str)(u:Q3):Prop:=
 (env.kindOf x=some .local/\m x=some u)\/((env.kindOf x=some .cell\/env.kindOf x=some .free)/\∃c,env.cells.lookup x=some c/\h.IsCell c (some u))
structure Cx.Ok(X:Cx):Prop where
 mod:Mod X.K X.mg X.base
 kind:X.env.scope.kind=.function
 glob:X.env.globals=mainGlobals
 blt:X.env.builtins=builtinsNs
 above:X.s₀.heap.objs.size<=X.env.locals
 inj:∀x y c,X.env.cells.lookup x=some c->X.env.cells.lookup y=some c->x=y
 has:∀x,(X.env.kindOf x=some .cell\/X.env.kindOf x=some .free)->∃c,X.env.cells.lookup x=some c
 cab:∀x c,X.fn x=true->X.env.cells.lookup x=some c->X.s₀.heap.objs.size<=c
 hd:X.calm=true->X.A.handled=none
 frames:X.A.frames=some X.stack
 stk:X.stack=X.outer\/(X.stack=X.env::X.outer/\X.env.frame=some X.env.locals)
 exf:∀b∈X.ex,b≠X.env.locals/\∀x c,X.env.cells.lookup x=some c->c≠b
 bs:∀b o,X.base.get? b=some o->X.s₀.heap.get? b=some o/\X.H₀ b=none
 bsz:X.base.objs.size<=X.s₀.heap.objs.size
 noex:∀b o,X.base.get? b=some o->b∉X.ex
 exfs:∀b∈X.ex,b∉X.fs
 funs:X.s₀.heap.FunFrames X.base X.outer
 frf:∀b∈X.fs,X.H₀ b=none
structure Inv(X:Cx)(pins:List (Addr×Obj))(σ:List (Option V))(H:Hp)(s:Q4):Prop where
 ok:X.Ok
 os:s.os=X.s₀.os
 bare:AllBare s.gens
 base:Un X.fs X.ex X.H₀ H X.s₀.heap s.heap
 loc:∃m,s.heap.Ns X.env.locals m/\∀(i:Nat) (x:Str) (v:V),X.N[i]?=some x->σ[i]?=some (some v)->Vis X.env.scope x->∃u,cE v u/\Nq X.env s.heap m x u
 cell:∀x c,X.env.cells.lookup x=some c->∃v,s.heap.IsCell c v
 free:H X.env.locals=none
 freeC:∀x c,X.env.cells.lookup x=some c->H c=none
 pin:∀p∈X.pn++pins,s.heap.get? p.1=some p.2/\H p.1=none/\p.1≠X.env.locals/\p.1∉X.fs/\∀v,p.2.data≠.cell v
 hok:HOk X.prog X.w H s.heap
 len:σ.length=X.N.length
section
variable{X:Cx}{pins:List (Addr×Obj)}{σ:List (Option V)}{H H':Hp}{s:Q4}{h':Heap}
theorem Cx.Ok.nofr(ok:X.Ok){b:Addr}{o:Obj}(e:X.base.get? b=some o):b∉X.fs:=fun hb=>by
 have:=(ok.funs.mem hb).1;rw[e]at this;cases this
theorem Inv.bs(I:Inv X pins σ H s):∀b o,X.base.get? b=some o->s.heap.get? b=some o/\H b=none:=fun b o e=>
 ⟨I.base.keep b o (I.ok.bs b o e).1 (I.ok.bs b o e).2 (I.ok.nofr e) (I.ok.noex b o e),I.base.free b o (I.ok.bs b o e).1 (I.ok.bs b o e).2 (I.ok.noex b o e)⟩
def Inv.bk(I:Inv X pins σ H s):∀b o,X.base.get? b=some o->s.heap.get? b=some o:=fun b o e=>(I.bs b o e).1
def Inv.mod(I:Inv X pins σ H s):Mod X.K X.mg X.base:=I.ok.mod
def Inv.kIn(I:Inv X pins σ H s):X.K.In s.heap:=I.ok.mod.kin.keeps I.bk
def Inv.lt(I:Inv X pins σ H s):X.env.locals<s.heap.objs.size:=let ⟨_,hn,_⟩:=I.loc;hn.lt
def Inv.sz(I:Inv X pins σ H s):X.s₀.heap.objs.size<=s.heap.objs.size:=Qp I.ok.above (Nat.le_of_lt I.lt)
theorem Inv.nofs(I:Inv X pins σ H s){a:Addr}(h:s.heap.objs.size<=a):a∉X.fs:=fun hb=>by
 obtain⟨_,o,ho,_⟩:=I.ok.funs.mem hb;exact absurd (QL (QK ho) (Qp I.sz h)) (ZN _)
theorem Inv.cne(I:Inv X pins σ H s):∀x c,X.env.cells.lookup x=some c->c≠X.env.locals:=fun x c e z=>by
 obtain⟨v,o,ho,hd⟩:=I.cell x c e;obtain⟨m,⟨o',es,ep,ho',hd',_⟩,_⟩:=I.loc;rw[z,ho']at ho;cases ho;rw[hd']at hd;cases hd
theorem Inv.funs(I:Inv X pins σ H s):s.heap.FunFrames X.base X.outer:=by
 have all:∀(l:List Env),(∀b∈frs l,b∈X.fs)->X.s₀.heap.FunFrames X.base l->s.heap.FunFrames X.base l:=by
  intro l;induction l with
  |nil=>intro _ _;trivial
  |cons env r ih=>
   intro hs hl;obtain⟨hk,⟨L,o,hf,hn,ho,hd⟩,hr⟩:=hl;have hL:L∈X.fs:=hs L (by unfold frs;rw[List.filterMap_cons,hf];exact QU);obtain⟨sl,e⟩:=I.base.slot L o ho (I.ok.frf L hL) hL fun z=>I.ok.exfs L z hL;exact⟨hk,⟨L,_,hf,hn,e,hd⟩,ih (fun b hb=>hs b (by unfold frs;rw[List.filterMap_cons,hf];exact QX _ hb)) hr⟩
 exact all X.outer (fun _ hb=>hb) I.ok.funs
theorem Inv.stack(I:Inv X pins σ H s):s.heap.FunFrames X.base X.stack:=by
 rcases I.ok.stk with e|⟨e,hf⟩
 ·rw[e];exact I.funs
 ·rw[e];obtain⟨m,hn,_⟩:=I.loc;refine .cons (by rw[I.ok.kind];decide) hf hn ?_ I.funs;exact Heap.get?_none_of_le (Qp I.ok.bsz I.ok.above)
theorem Inv.stkSub(I:Inv X pins σ H s):∀b∈frs X.stack,b∈X.env.locals::X.fs:=fun b hb=>by
 rcases I.ok.stk with e|⟨e,hf⟩
 ·rw[e]at hb;exact QX _ hb
 ·rw[e]at hb;unfold frs at hb;rw[List.filterMap_cons,hf]at hb;exact hb
theorem Inv.stkFree(I:Inv X pins σ H s):∀b∈frs X.stack,H b=none:=fun b hb=>by
 rcases Qq.mp (I.stkSub b hb)with e|hb
 ·rw[e];exact I.free
 ·obtain⟨_,o,ho,_⟩:=I.ok.funs.mem hb;exact I.base.free b o ho (I.ok.frf b hb) fun z=>I.ok.exfs b z hb
theorem Inv.step{g':Array GenState}{t':Nat}{d':Drawn}{ch:List Addr}(I:Inv X pins σ H s)
  (hch:∀b∈ch,(b∈X.ex\/X.s₀.heap.objs.size<=b)/\b≠X.env.locals/\(∀x c,X.env.cells.lookup x=some c->c≠b)/\∀p∈X.pn++pins,p.1≠b)
  (keep:∀b o,b≠X.env.locals->b∉X.fs->b∉ch->s.heap.get? b=some o->H b=none->h'.get? b=some o)
  (slot:∀b o,b≠X.env.locals->b∈X.fs->b∉ch->s.heap.get? b=some o->H b=none->∃sl,h'.get? b=some { o with slots:=sl }) (free:∀b o,b∉ch->s.heap.get? b=some o->H b=none->H' b=none)
  (there:∀b o,b∉ch->s.heap.get? b=some o->∃o',h'.get? b=some o')
  (tups:∀b xs,H b=some (.tup xs)->H' b=some (.tup xs)) (frzs:∀b o u,H b=some (.frz o u)->H' b=some (.frz o u)) (tbls:∀b ps,H b=some (.tbl ps)->∃more,H' b=some (.tbl (ps++more)))
  (ns:∀m,s.heap.Ns X.env.locals m->h'.Ns X.env.locals m) (hok:HOk X.prog X.w H' h') (hg:AllBare g') :
  Inv X pins σ H' { s with heap:=h',gens:=g',drawn:=d',toks:=t' }:=by
 have neL:∀b o,X.s₀.heap.get? b=some o->b≠X.env.locals:=fun b o e=>Qj (QL (QK e) I.ok.above);have neC:∀b o,X.s₀.heap.get? b=some o->b∉X.ex->b∉ch:=fun b o e hx hb=>by
  rcases(hch b hb).1 with z|z
  ·exact hx z
  ·exact absurd (QL (QK e) z) (ZN _)
 have cellK:∀x c,X.env.cells.lookup x=some c->∀v,s.heap.IsCell c v->h'.IsCell c v:=fun x c e v ⟨o,ho,hd⟩=>by
  have nch:c∉ch:=fun z=>(hch c z).2.2.1 x c e rfl;by_cases hc:c∈X.fs
  ·obtain⟨sl,q⟩:=slot c o (I.cne x c e) hc nch ho (I.freeC x c e);exact⟨_,q,hd⟩
  ·exact⟨o,keep c o (I.cne x c e) hc nch ho (I.freeC x c e),hd⟩
 refine⟨I.ok,I.os,hg,⟨fun b o e n hb hx=>?_,fun b o e n hb hx=>?_,fun b o e n hx=>?_,fun b o e hx=>?_,fun b xs e=>tups b xs (I.base.tups b xs e),fun b o xs e=>frzs b o xs (I.base.frzs b o xs e),fun b ps e=>?_⟩,?_,fun x c e=>?_,?_,fun x c e=>?_,fun p hp=>?_,hok,I.len⟩
 ·exact keep b o (neL b o e) hb (neC b o e hx) (I.base.keep b o e n hb hx) (I.base.free b o e n hx)
 ·obtain⟨sl,e1⟩:=I.base.slot b o e n hb hx;obtain⟨sl',e2⟩:=slot b _ (neL b o e) hb (neC b o e hx) e1 (I.base.free b o e n hx);exact⟨sl',e2⟩
 ·obtain⟨o',e1⟩:=I.base.there b o e hx;exact free b o' (neC b o e hx) e1 (I.base.free b o e n hx)
 ·obtain⟨o',e1⟩:=I.base.there b o e hx;exact there b o' (neC b o e hx) e1
 ·obtain⟨m1,e1⟩:=I.base.tbls b ps e;obtain⟨m2,e2⟩:=tbls b _ e1;exact⟨m1++m2,by rw[e2,Array.append_assoc]⟩
 ·obtain⟨m,hn,hl⟩:=I.loc;refine⟨m,ns m hn,fun i x v e1 e2 e3=>?_⟩;obtain⟨u,r,l⟩:=hl i x v e1 e2 e3;refine⟨u,r,?_⟩;rcases l with l|⟨k,c,e,z⟩
  ·exact .inl l
  ·exact .inr ⟨k,c,e,cellK x c e _ z⟩
 ·obtain⟨v,z⟩:=I.cell x c e;exact⟨v,cellK x c e v z⟩
 ·obtain⟨m,⟨o,_,_,ho,_⟩,_⟩:=I.loc;exact free _ o (fun z=>(hch _ z).2.1 rfl) ho I.free
 ·obtain⟨v,o,ho,hd⟩:=I.cell x c e;exact free c o (fun z=>(hch c z).2.2.1 x c e rfl) ho (I.freeC x c e)
 ·obtain⟨e,n,ne,nf,d⟩:=I.pin p hp;have nch:p.1∉ch:=fun z=>(hch p.1 z).2.2.2 p hp rfl;exact⟨keep p.1 p.2 ne nf nch e n,free p.1 p.2 nch e n,ne,nf,d⟩
theorem Inv.un{t':Nat}(I:Inv X pins σ H s)(u:Un X.fs [] H H' s.heap h')(hok:HOk X.prog X.w H' h'):Inv X pins σ H' { s with heap:=h',toks:=t' }:=by
 obtain⟨m,⟨o,es,ep,ho,r⟩,_⟩:=id I.loc;obtain⟨sl,hL⟩:=u.any ho I.free (by simp);exact I.step (g':=s.gens) (d':=s.drawn) (ch:=[]) (fun _ z=>nomatch z) (fun b o _ hb _ e n=>u.keep b o e n hb (by simp)) (fun b o _ hb _ e n=>u.slot b o e n hb (by simp)) (fun b o _ e n=>u.free b o e n (by simp)) (fun b o _ e=>u.there b o e (by simp)) u.tups u.frzs u.tbls (fun m' hm=>by
  obtain⟨o',es',ep',ho',r'⟩:=hm;rw[ho]at ho';cases ho';exact⟨_,es',ep',hL,r'⟩) hok I.bare
theorem Inv.call{g':Array GenState}{t':Nat}{d':Drawn}{ch:List Addr}(I:Inv X pins σ H s)(u:Un (frs X.stack) ch H H' s.heap h')(hok:HOk X.prog X.w H' h')(hg:AllBare g')
  (hch:∀b∈ch,(b∈X.ex\/X.s₀.heap.objs.size<=b)/\b≠X.env.locals/\(∀x c,X.env.cells.lookup x=some c->c≠b)/\∀p∈X.pn++pins,p.1≠b) :
  Inv X pins σ H' { s with heap:=h',gens:=g',drawn:=d',toks:=t' }:=by
 obtain⟨m,⟨o,es,ep,ho,r⟩,_⟩:=id I.loc;obtain⟨sl,hL⟩:=u.any ho I.free fun z=>(hch _ z).2.1 rfl;exact I.step (ch:=ch) hch (fun b o hL hb hc e n=>u.keep b o e n (fun z=>(Qq.mp (I.stkSub b z)).elim hL hb) hc) (fun b o _ _ hc e n=>u.any e n hc) (fun b o hc e n=>u.free b o e n hc) (fun b o hc e=>u.there b o e hc) u.tups u.frzs u.tbls (fun m' hm=>by
  obtain⟨o',es',ep',ho',r'⟩:=hm;rw[ho]at ho';cases ho';exact⟨_,es',ep',hL,r'⟩) hok hg
theorem Inv.turned{t':Nat}{it:Addr}(I:Inv X pins σ H s)(k:∀b o,b≠it->s.heap.get? b=some o->h'.get? b=some o)(hn:H it=none)(hL:it≠X.env.locals)
  (h1:it∈X.ex\/X.s₀.heap.objs.size<=it) (h2:∀x c,X.env.cells.lookup x=some c->c≠it) (h3:∀p∈X.pn++pins,p.1≠it):Inv X pins σ H { s with heap:=h',toks:=t' }:=by
 have nit:∀b u,H b=some u->b≠it:=fun b u e z=>by rw[z,hn]at e;cases e
 refine I.step (g':=s.gens) (d':=s.drawn) (ch:=[it]) (fun b hb=>?_) (fun b o _ _ hc e _=>k b o (fun z=>hc (by simp[z])) e) (fun b o _ _ hc e _=>⟨o.slots,k b o (fun z=>hc (by simp[z])) e⟩) (fun _ _ _ _ n=>n)
  (fun b o hc e=>⟨o,k b o (fun z=>hc (by simp[z])) e⟩) (fun _ _ e=>e) (fun _ _ _ e=>e) (fun b ps e=>⟨#[],by rw[e];simp⟩) (fun m hm=>?_) (fun b u e=>?_) I.bare
 ·have e:b=it:=by simpa using hb
  subst e;exact⟨h1,hL,h2,h3⟩
 ·obtain⟨o,es,ep,ho,r⟩:=hm;exact⟨o,es,ep,k _ o (Ne.symm hL) ho,r⟩
 ·refine(I.hok b u e).stay (fun c v hc q=>k c v ?_ q) (fun _ q=>q) fun _ _ q=>q;rcases hc with z|z
  ·rw[z];exact nit b u e
  ·exact nit c _ z
def Inv.tok(I:Inv X pins σ H s)(t:Nat):Inv X pins σ H { s with toks:=t }:=I.un (h':=s.heap) (t':=t) Un.refl I.hok
theorem Inv.kept{t':Nat}(I:Inv X pins σ H s)(k:∀b u,s.heap.get? b=some u->h'.get? b=some u):Inv X pins σ H { s with heap:=h',toks:=t' }:=I.un (Un.kept k) (I.hok.kept k)
theorem Inv.laid{a:Addr}{o:HO}{t':Nat}(I:Inv X pins σ H s)(k:∀b u,s.heap.get? b=some u->h'.get? b=some u)(hp:s.heap.objs.size<=a)(new:dr X.prog X.w (upd H a o) h' a o) :
  Inv X pins σ (upd H a o) { s with heap:=h',toks:=t' }:=I.un (Un.laid k hp (I.hok.fresh hp)) (I.hok.laid k hp new)
theorem Inv.write{x e:Addr}{o:HO}{t':Nat}(I:Inv X pins σ H s)(mu:Mut (H x))(he:e=x\/H e=some (.own x))(k:∀b u,b≠e->s.heap.get? b=some u->h'.get? b=some u)(heo:∃u,h'.get? e=some u)
  (new:dr X.prog X.w (upd H x o) h' x o):Inv X pins σ (upd H x o) { s with heap:=h',toks:=t' }:=I.un (Un.write mu he k heo) (I.hok.write mu he k heo new)
theorem Inv.pins_of{pins':List (Addr×Obj)}(I:Inv X pins σ H s)(h:∀p∈pins',s.heap.get? p.1=some p.2/\H p.1=none/\p.1≠X.env.locals/\p.1∉X.fs/\∀v,p.2.data≠.cell v):Inv X pins' σ H s:=
 ⟨I.ok,I.os,I.bare,I.base,I.loc,I.cell,I.free,I.freeC,fun p hp=>(Qe.mp hp).elim (fun z=>I.pin p (List.mem_append_left _ z)) (h p),I.hok,I.len⟩
theorem uO{N:List Str}(hN:N.Nodup){i j:Nat}{x:Str}(a:N[i]?=some x)(b:N[j]?=some x):i=j:=by
 obtain⟨h1,e1⟩:=Q9.mp a;obtain⟨h2,e2⟩:=Q9.mp b;exact(List.getElem_inj hN).mp (e1.trans e2.symm)
theorem l8{M:Model}{A:Qd}{E:Q3->Q4->Prop}{i:Nat}{x:Str}{v:V}{u:Q3}{Q:Unit->Q4->Prop}(I:Inv X pins σ H s)(hN:X.N.Nodup)(hi:X.N[i]?=some x)(hx:Loc X.env.scope x)(r:cE v u)
  (h:∀s',Inv X pins (σ.set i (some v)) H s'->(∃a,Heap.SameBut a s.heap s'.heap/\(a=X.env.locals\/X.env.cells.lookup x=some a))->Q () s') (hf:X.fn x=true\/X.env.scope.names.lookup x=some .local:=by first|exact .inl rfl|exact .inr rfl|assumption):wpAny M A (storeName X.env x u) Q E s:=by
 obtain⟨m,hn,hl⟩:=id I.loc;have hcls:(X.env.scope.kind == .class||(X.env.scope.kind == .module&&X.env.locals !=X.env.globals))=false:=by rw[I.ok.kind];rfl
 have hiσ:i < σ.length:=by rw[I.len];exact(Q9.mp hi).1
 have cne:=I.cne;have tracked:∀{a:Addr} {h':Heap},(∃o,s.heap.get? a=some o/\H a=none)->Heap.SameBut a s.heap h'->HOk X.prog X.w H h':=fun{a h'} ha hs b ob e=>by
  obtain⟨_,_,hfree⟩:=ha;refine(I.hok b ob e).stay (fun c w' hc q=>(hs.2 c ?_).trans q) (fun _ q=>q) fun _ _ q=>q;rintro rfl;rcases hc with rfl|hc
  ·rw[hfree]at e;cases e
  ·rw[hfree]at hc;cases hc
 rcases hx with hk|hk
 ·refine wpAny_storeName_local hk hn (fun h' hn' hs=>?_) hcls;obtain⟨oL,_,_,hoL,_⟩:=id hn;refine h _ ⟨I.ok,I.os,I.bare,⟨fun b o e n hb hx=>?_,fun b o e n hb hx=>?_,I.base.free,fun b o e hx=>?_,I.base.tups,I.base.frzs,I.base.tbls⟩,⟨_,hn',fun j y v' e1 e2 e3=>?_⟩,fun y c e=>?_,I.free,I.freeC,fun p hp=>?_,tracked ⟨oL,hoL,I.free⟩ hs,by simpa using I.len⟩ ⟨_,hs,.inl rfl⟩
  ·exact(hs.2 b (Qj (QL (QK e) I.ok.above))).trans (I.base.keep b o e n hb hx)
  ·obtain⟨sl,e1⟩:=I.base.slot b o e n hb hx;exact⟨sl,(hs.2 b (Qj (QL (QK e) I.ok.above))).trans e1⟩
  ·obtain⟨o',e1⟩:=I.base.there b o e hx;exact⟨o',(hs.2 b (Qj (QL (QK e) I.ok.above))).trans e1⟩
  ·by_cases hj:j=i
   ·subst hj;rw[hi]at e1;cases e1;rw[List.getElem?_set_self hiσ]at e2;cases e2;exact⟨u,r,.inl ⟨hk,by simp⟩⟩
   ·rw[Qb (Ne.symm hj)]at e2;obtain⟨u',r',q⟩:=hl j y v' e1 e2 e3;refine⟨u',r',?_⟩;rcases q with⟨k,e⟩|⟨k,c,e,z⟩
    ·refine .inl ⟨k,?_⟩;have:y≠x:=fun e=>hj (uO hN e1 (e▸hi));simp[this,e]
    ·exact .inr ⟨k,c,e,z.sameBut hs (cne y c e)⟩
  ·obtain⟨w',z⟩:=I.cell y c e;exact⟨w',z.sameBut hs (cne y c e)⟩
  ·obtain⟨e,n,ne,nf,d⟩:=I.pin p hp;exact⟨(hs.2 p.1 ne).trans e,n,ne,nf,d⟩
 ·have hfn:X.fn x=true:=by
   rcases hf with z|z
   ·exact z
   ·rw[z]at hk;cases hk
  obtain⟨c,hc⟩:=I.ok.has x (.inl hk);obtain⟨w',z⟩:=I.cell x c hc;refine wpAny_storeName_cell I.ok.kind hk hc z (fun h' hc' hs=>?_);obtain⟨oc,hoc,hocd⟩:=id z;refine h { s with heap:=h' } ⟨I.ok,I.os,I.bare,⟨fun b o e n hb hx=>?_,fun b o e n hb hx=>?_,I.base.free,fun b o e hx=>?_,I.base.tups,I.base.frzs,I.base.tbls⟩,⟨m,hn.sameBut hs (Ne.symm (cne x c hc)),fun j y v' e1 e2 e3=>?_⟩,fun y c' e=>?_,I.free,I.freeC,fun p hp=>?_,tracked ⟨oc,hoc,I.freeC x c hc⟩ hs,by simpa using I.len⟩ ⟨c,hs,.inr hc⟩
  ·exact(hs.2 b (Qj (QL (QK e) (I.ok.cab x c hfn hc)))).trans (I.base.keep b o e n hb hx)
  ·obtain⟨sl,e1⟩:=I.base.slot b o e n hb hx;exact⟨sl,(hs.2 b (Qj (QL (QK e) (I.ok.cab x c hfn hc)))).trans e1⟩
  ·obtain⟨o',e1⟩:=I.base.there b o e hx;exact⟨o',(hs.2 b (Qj (QL (QK e) (I.ok.cab x c hfn hc)))).trans e1⟩
  ·by_cases hj:j=i
   ·subst hj;rw[hi]at e1;cases e1;rw[List.getElem?_set_self hiσ]at e2;cases e2;exact⟨u,r,.inr ⟨.inl hk,c,hc,hc'⟩⟩
   ·rw[Qb (Ne.symm hj)]at e2;obtain⟨u',r',q⟩:=hl j y v' e1 e2 e3;refine⟨u',r',?_⟩;rcases q with q|⟨k,c',e,z'⟩
    ·exact .inl q
    ·refine .inr ⟨k,c',e,z'.sameBut hs ?_⟩;rintro rfl;exact hj (uO hN e1 (I.ok.inj _ _ _ e hc▸hi))
  ·by_cases hcc:c'=c
   ·subst hcc;exact⟨_,hc'⟩
   ·obtain⟨w2,z2⟩:=I.cell y c' e;exact⟨w2,z2.sameBut hs hcc⟩
  ·obtain⟨e,n,ne,nf,d⟩:=I.pin p hp;refine⟨(hs.2 p.1 ?_).trans e,n,ne,nf,d⟩;intro q;rw[q,hoc]at e;have q':oc=p.2:=Option.some.inj e;exact d w' (by rw[<-q'];exact hocd)
theorem uj{M:Model}{A:Qd}{E:Q3->Q4->Prop}{i:Nat}{x:Str}{v:V}{u:Q3}{Q:Unit->Q4->Prop}(I:Inv X pins σ H s)(hN:X.N.Nodup)(hi:X.N[i]?=some x)(hx:Loc X.env.scope x)(r:cE v u)
  (h:∀s',Inv X pins (σ.set i (some v)) H s'->Q () s') (hf:X.fn x=true\/X.env.scope.names.lookup x=some .local:=by first|exact .inl rfl|exact .inr rfl|assumption):wpAny M A (storeName X.env x u) Q E s:=
 l8 I hN hi hx r (fun s' I' _=>h s' I') hf
theorem Inv.call'{s':Q4}{ch:List Addr}(I:Inv X pins σ H s)(ho:s'.os=s.os)(u:Un (frs X.stack) ch H H' s.heap s'.heap)(hok:HOk X.prog X.w H' s'.heap)(hg:AllBare s'.gens)
  (hch:∀b∈ch,(b∈X.ex\/X.s₀.heap.objs.size<=b)/\b≠X.env.locals/\(∀x c,X.env.cells.lookup x=some c->c≠b)/\∀p∈X.pn++pins,p.1≠b):Inv X pins σ H' s':=by
 obtain⟨h',g',d',t',o'⟩:=s';have e:o'=s.os:=ho;subst e;exact I.call (g':=g') (t':=t') (d':=d') u hok hg hch
end
abbrev XK:=Q3->Option Addr->Hp->Prop
abbrev St:=List (Option V)
abbrev VK:=V->Hp->Prop
abbrev TE:=St->Hp->VK->Prop
abbrev TT:=St->Hp->(Bool->Hp->Prop)->Prop
abbrev TA:=St->Hp->(List V->Hp->Prop)->Prop
structure zR where
 nx:St->Hp->Prop
 rt:VK
 bk:St->Hp->Prop:=fun _ _=>False
 ct:St->Hp->Prop:=fun _ _=>False
abbrev TS:=zR->St->Hp->Prop
def EP(X:Cx)(pins:List (Addr×Obj))(σ:St)(Q:VK)(u:Q3)(s':Q4):Prop:=∃v H',Inv X pins σ H' s'/\cE v u/\Q v H'
def TP(X:Cx)(pins:List (Addr×Obj))(σ:St)(Q:Bool->Hp->Prop)(b:Bool)(s':Q4):Prop:=∃H',Inv X pins σ H' s'/\Q b H'
def AP(X:Cx)(pins:List (Addr×Obj))(σ:St)(Q:List V->Hp->Prop)(us:List Q3)(s':Q4):Prop:=∃vs H',Inv X pins σ H' s'/\bR vs us/\Q vs H'
def SP(X:Cx)(pins:List (Addr×Obj))(D:zR)(f:Flow)(s':Q4):Prop:=
 match f with
 |.next=>∃σ' H',Inv X pins σ' H' s'/\D.nx σ' H'
 |.brk=>∃σ' H',Inv X pins σ' H' s'/\D.bk σ' H'
 |.cont=>∃σ' H',Inv X pins σ' H' s'/\D.ct σ' H'
 |.ret u=>∃v σ' H',Inv X pins σ' H' s'/\cE v u/\D.rt v H'
def PE(X:Cx)(e:QH)(t:TE):Prop:=
 ∀(pins:List (Addr×Obj)) (s:Q4) (σ:St) (H:Hp) (Q:VK),Inv X pins σ H s->t σ H Q->wpAny (Qz X.prog X.w) X.A (eval e X.env) (EP X pins σ Q) X.xe s
def PT(X:Cx)(e:QH)(t:TT):Prop:=
 ∀(pins:List (Addr×Obj)) (s:Q4) (σ:St) (H:Hp) (Q:Bool->Hp->Prop),Inv X pins σ H s->t σ H Q->wpAny (Qz X.prog X.w) X.A (isTrue e X.env (eval e X.env)) (TP X pins σ Q) X.xe s
def PW(X:Cx)(e:QH)(t:TT):Prop:=
 ∀(whole:Sem Q3) (pins:List (Addr×Obj)) (s:Q4) (σ:St) (H:Hp) (Q:Bool->Hp->Prop),Inv X pins σ H s->t σ H Q->wpAny (Qz X.prog X.w) X.A (isTrue e X.env whole) (TP X pins σ Q) X.xe s
def PW.pt{X:Cx}{e:QH}{t:TT}(h:PW X e t):PT X e t:=h _
def PA(X:Cx)(es:List QH)(t:TA):Prop:=
 ∀(pos:Pos) (pins:List (Addr×Obj)) (s:Q4) (σ:St) (H:Hp) (Q:List V->Hp->Prop),Inv X pins σ H s->t σ H Q->wpAny (Qz X.prog X.w) X.A (spliced (Z9 pos (QR es X.env))) (AP X pins σ Q) X.xe s
def PS(X:Cx)(st:Qm)(t:TS):Prop:=
 ∀(pins:List (Addr×Obj)) (s:Q4) (σ:St) (H:Hp) (D:zR),Inv X pins σ H s->t D σ H->wpAny (Qz X.prog X.w) X.A (exec st X.env) (SP X pins D) X.xe s
def PSs(X:Cx)(st:List Qm)(t:TS):Prop:=
 ∀(pins:List (Addr×Obj)) (s:Q4) (σ:St) (H:Hp) (D:zR),Inv X pins σ H s->t D σ H->wpAny (Qz X.prog X.w) X.A (execs st X.env) (SP X pins D) X.xe s
theorem thn{α:Type}{t:Sem α}{Q Q':α->Q4->Prop}{M:Model}{A:Qd}{E:Q3->Q4->Prop}{s:Q4}(h:wpAny M A t Q E s)(hQ:∀a s,Q a s->Q' a s):wpAny M A t Q' E s:=Z6 h hQ fun _ _ x=>x
section
variable{X:Cx}
def Ji(i:Nat):TE:=fun σ H Q=>∃v,σ[i]?=some (some v)/\Q v H
def tC(v:V):TE:=fun _ H Q=>Q v H
theorem HD{i:Nat}{x:Str}{pos:Pos}(hN:X.N[i]?=some x)(hv:Vis X.env.scope x)(hd:(x == ("__debug__":Str))=false:=by decide)(hcd:(x == ("__classdict__":Str))=false:=by decide):PE X (.Name x pos) (Ji i):=by
 intro pins s σ H Q I h;obtain⟨v,e,h⟩:=h;obtain⟨m,hn,hl⟩:=I.loc;obtain⟨u,r,l⟩:=hl i x v hN e hv;have fin:EP X pins σ Q u s:=⟨v,H,I,r,h⟩;rcases l with⟨hk,hm⟩|⟨hk,c,hc,hcell⟩
 ·exact wpAny_Name (wpAny_loadName_local I.ok.kind hk hn hm fin) hd
 ·rcases hk with hk|hk
  ·exact wpAny_Name (wpAny_loadName_cell I.ok.kind hk hc hcell fin) hd
  ·exact wpAny_Name (wpAny_loadName_free I.ok.kind hk hc hcell fin hcd) hd
theorem HK{i j pos}:PE X (.Constant (.int i) j pos) (tC (.int i)):=fun _ _ _ H _ I h=>wpAny_Constant_int ⟨.int i,H,I.tok _,⟨_,rfl⟩,h⟩
def K2{b j pos}:PE X (.Constant (.bool b) j pos) (tC (.bl b)):=fun _ _ _ H _ I h=>Constant_bool ⟨.bl b,H,I,rfl,h⟩
def HI{j pos}:PE X (.Constant .none j pos) (tC .non):=fun _ _ _ H _ I h=>Constant_none ⟨.non,H,I,rfl,h⟩
theorem HF{x j pos}:PE X (.Constant (.str x) j pos) (tC (.str x)):=fun _ _ _ H _ I h=>Calls.Constant_str ⟨.str x,H,I.tok _,⟨_,rfl⟩,h⟩
def Gl(X:Cx)(x:Str):Prop:=X.env.kindOf x=some .globalImplicit
theorem yx{E:Q3->Q4->Prop}{pins:List (Addr×Obj)}{s:Q4}{σ:St}{H:Hp}{x:Str}{u:Q3}{pos:Pos}{Q:Q3->Q4->Prop}(I:Inv X pins σ H s)(hg:Gl X x)(hm:X.mg x=some u)(h:Q u s)
  (hd:(x == ("__debug__":Str))=false:=by decide):wpAny (Qz X.prog X.w) X.A (eval (.Name x pos) X.env) Q E s:=
 Calls.Name_function_global I.ok.kind hg (Calls.loadGlobal_global (by rw[I.ok.glob];exact I.mod.glob.keeps I.bk) hm h) hd
theorem nZ{E:Q3->Q4->Prop}{pins:List (Addr×Obj)}{s:Q4}{σ:St}{H:Hp}{x:Str}{u:Q3}{pos:Pos}{Q:Q3->Q4->Prop}(I:Inv X pins σ H s)(hg:Gl X x)(hm:X.mg x=none)(hv:Qc x=some u)(h:Q u s)
  (hn:x≠"__name__":=by decide) (hd:(x == ("__debug__":Str))=false:=by decide):wpAny (Qz X.prog X.w) X.A (eval (.Name x pos) X.env) Q E s:=by
 obtain⟨mb,h1,h2⟩:=I.mod.blt;exact Calls.Name_function_global I.ok.kind hg (Calls.loadGlobal_builtin (by rw[I.ok.glob];exact I.mod.glob.keeps I.bk) hm (by rw[I.ok.blt];exact h1.keeps I.bk) ((h2 x hn).trans hv) h) hd
theorem EM{x:Str}{v:V}{u:Q3}{pos:Pos}(hg:Gl X x)(hm:X.mg x=none)(hv:Qc x=some u)(r:cE v u)(hn:x≠"__name__":=by decide)(hd:(x == ("__debug__":Str))=false:=by decide):PE X (.Name x pos) (tC v):=
 fun _ _ _ H _ I h=>nZ I hg hm hv ⟨v,H,I,r,h⟩ hn hd
variable{a b:QH}{ta tb:TE}{pos:Pos}
def PC(X:Cx)(op:CmpOp)(a b:QH)(t:TE):Prop:=
 ∀(pins:List (Addr×Obj)) (s:Q4) (σ:St) (H:Hp) (Q:VK),Inv X pins σ H s->t σ H Q->
  wpAny (Qz X.prog X.w) X.A (eval a X.env) (fun v s₁=>wpAny (Qz X.prog X.w) X.A (eval b X.env) (fun u s₂=>wpAny (Qz X.prog X.w) X.A (compareOp op v u) (EP X pins σ Q) X.xe s₂) X.xe s₁) X.xe s
def tB(t:TE):TT:=fun σ H Q=>t σ H fun x H1=>∃c,x=.bl c/\Q c H1
theorem Ht{op:CmpOp}{t:TE}(h:PC X op a b t)(h1:behindInMarks op b=false:=by first|exact nobehind _ (by decide) (by decide)|rfl):PT X (.Compare a [op] [b] pos) (tB t):=by
 intro pins s σ H Q I hw;refine wpAny_isTrue_Compare1 (thn (h pins s σ H _ I hw) fun v s1 h1=>thn h1 fun u s2 h2=>thn h2 fun c s3 hz=>?_) h1;obtain⟨x,H1,I1,r1,q1⟩:=hz;obtain⟨d,rfl,q⟩:=q1;cases r1;exact wpAny_truthy_bool ⟨H1,I1,q⟩
theorem Hr{e:QH}{t:TE}(h:PE X e t)(he:∀whole,isTrue e X.env whole=(do let v <-whole;standAt e.pos;holding [v] (truthy v)):=by intro _;rfl):PT X e (tB t):=by
 intro pins s σ H Q I hw;refine isTrue_plain (thn (h pins s σ H _ I hw) fun v s1 ⟨x,H1,I1,r1,q1⟩=>?_) (he _);obtain⟨d,rfl,q⟩:=q1;cases r1;exact wpAny_truthy_bool ⟨H1,I1,q⟩
variable{tA tB':TT}{rest:List QH}
def LU(t u:TT):TT:=fun σ H Q=>t σ H fun c H1=>if c=true then u σ H1 Q else Q false H1
def tOr(t u:TT):TT:=fun σ H Q=>t σ H fun c H1=>if c=true then Q true H1 else u σ H1 Q
def LP(t:TT):TT:=fun σ H Q=>t σ H fun c H1=>Q (!c) H1
theorem Es(ha:PT X a tA):PW X (.BoolOp .And [a] pos) tA:=by
 intro wh pins s σ H Q I h;refine isTrue_and (thn (ha pins s σ H Q I h) fun c s1 e=>?_);cases c with
 |true=>exact isTrue_and_nil e
 |false=>exact e
theorem Ho(ha:PT X a tA):PW X (.BoolOp .Or [a] pos) tA:=by
 intro wh pins s σ H Q I h;refine isTrue_or (thn (ha pins s σ H Q I h) fun c s1 e=>?_);cases c with
 |false=>exact isTrue_or_nil e
 |true=>exact e
theorem Hq(ha:PT X a tA)(hb:PW X (.BoolOp .And (b::rest) pos) tB'):PW X (.BoolOp .And (a::b::rest) pos) (LU tA tB'):=by
 intro wh pins s σ H Q I h;refine isTrue_and (thn (ha pins s σ H _ I h) fun c s1 ⟨H1,I1,q1⟩=>?_);cases c with
 |true=>exact hb wh pins s1 σ H1 Q I1 q1
 |false=>exact⟨H1,I1,q1⟩
theorem KS(ha:PT X a tA)(hb:PW X (.BoolOp .Or (b::rest) pos) tB'):PW X (.BoolOp .Or (a::b::rest) pos) (tOr tA tB'):=by
 intro wh pins s σ H Q I h;refine isTrue_or (thn (ha pins s σ H _ I h) fun c s1 ⟨H1,I1,q1⟩=>?_);cases c with
 |true=>exact⟨H1,I1,q1⟩
 |false=>exact hb wh pins s1 σ H1 Q I1 q1
theorem Hs(ha:PT X a tA):PT X (.UnaryOp .Not a pos) (LP tA):=by
 intro pins s σ H Q I h;exact isTrue_not (ha pins s σ H (fun c H1=>Q (!c) H1) I h)
def Ha(ta tb:TE):TE:=fun σ H Q=>ta σ H fun x H1=>∃c,x=.bl c/\if c=true then tb σ H1 Q else Q (.bl false) H1
def LO(ta tb:TE):TE:=fun σ H Q=>ta σ H fun x H1=>∃c,x=.bl c/\if c=true then Q (.bl true) H1 else tb σ H1 Q
def GY(ta:TE):TE:=fun σ H Q=>ta σ H fun x H1=>∃c,x=.bl c/\Q (.bl (!c)) H1
def HG{op}{t:TE}(h:PE X a t):PE X (.BoolOp op [a] pos) t:=fun pins s σ H Q I hw=>BoolOp_one (h pins s σ H Q I hw)
theorem HM(ha:PE X a ta)(hb:PE X (.BoolOp .And (b::rest) pos) tb):PE X (.BoolOp .And (a::b::rest) pos) (Ha ta tb):=by
 intro pins s σ H Q I h;refine BoolOp_and (thn (ha pins s σ H _ I h) fun v s1 hz=>?_);obtain⟨x,H1,I1,r1,q1⟩:=hz;obtain⟨c,rfl,q1⟩:=q1;cases r1;refine wpAny_truthy_bool ?_;cases c with
 |true=>exact hb pins s1 σ H1 Q I1 q1
 |false=>exact⟨.bl false,H1,I1,rfl,q1⟩
theorem KY(ha:PE X a ta)(hb:PE X (.BoolOp .Or (b::rest) pos) tb):PE X (.BoolOp .Or (a::b::rest) pos) (LO ta tb):=by
 intro pins s σ H Q I h;refine BoolOp_or (thn (ha pins s σ H _ I h) fun v s1 hz=>?_);obtain⟨x,H1,I1,r1,q1⟩:=hz;obtain⟨c,rfl,q1⟩:=q1;cases r1;refine wpAny_truthy_bool ?_;cases c with
 |false=>exact hb pins s1 σ H1 Q I1 q1
 |true=>exact⟨.bl true,H1,I1,rfl,q1⟩
theorem HH(ha:PE X a ta):PE X (.UnaryOp .Not a pos) (GY ta):=by
 intro pins s σ H Q I h;refine UnaryOp_ (thn (ha pins s σ H _ I h) fun v s1 hz=>?_);obtain⟨x,H1,I1,r1,q1⟩:=hz;obtain⟨c,rfl,q1⟩:=q1;cases r1;exact not_of (wpAny_truthy_bool ⟨.bl (!c),H1,I1,rfl,q1⟩)
end
def SqL(K:Q1)(H:Hp)(a:Addr)(xs:List V):Prop:=
 Rd H a (.lst xs)\/
  ∃(o:Obj) (its:Array Q3) (n:Nat),K.lookup a=some o/\o.cls=.type "list"/\o.dict=none/\o.data=.seq its n/\its.size<=QB/\bR xs its.toList
def SqT(K:Q1)(H:Hp)(a:Addr)(xs:List V):Prop:=
 Rd H a (.tup xs)\/
  ∃(o:Obj) (its:Array Q3) (n:Nat),K.lookup a=some o/\o.cls=.type "tuple"/\o.data=.seq its n/\its.size<=QB/\bR xs its.toList
def Np:Q3->Option V
 |.none=>some .non
 |.bool b=>some (.bl b)
 |.int i _=>some (.int i)
 |.str x _=>some (.str x)
 |.bytes b _=>some (.byt b)
 |.float b _=>some (.flt b)
 |.ref a=>some (.ref a)
 |.type n=>some (.ty n)
 |_=>none
theorem cE.abs{x:V}{u:Q3}(r:cE x u):Np u=some x:=by
 cases x with
 |non=>cases r;rfl
 |bl _=>cases r;rfl
 |int _=>obtain⟨t,rfl⟩:=r;rfl
 |str _=>obtain⟨t,rfl⟩:=r;rfl
 |byt _=>obtain⟨t,rfl⟩:=r;rfl
 |flt _=>obtain⟨t,rfl⟩:=r;rfl
 |ref _=>cases r;rfl
 |ty _=>cases r;rfl
def cE.inj{x y:V}{u:Q3}(r:cE x u)(q:cE y u):x=y:=Option.some.inj (r.abs.symm.trans q.abs)
theorem bR.inj:∀{xs ys:List V} {us:List Q3},bR xs us->bR ys us->xs=ys
 |_,_,_,.nil,.nil=>rfl
 |_,_,_,.cons r t,.cons r' t'=>by rw[r.inj r',bR.inj t t']
section
variable{X:Cx}{pins:List (Addr×Obj)}{σ:St}{H:Hp}{s:Q4}{a:Addr}{xs ys:List V}
def SqL.of{K:Q1}(h:H a=some (.lst xs)):SqL K H a xs:=.inl (.inl h)
def SqT.of{K:Q1}(h:H a=some (.tup xs)):SqT K H a xs:=.inl (.inl h)
theorem Inv.list(I:Inv X pins σ H s)(h:SqL X.K H a xs):∃its:List Q3,bR xs its/\PlainL s.heap a its.toArray/\xs.length<=QB:=by
 rcases h with h|⟨o,its,n,hk,hc,hd,hs,hz,r⟩
 ·obtain⟨z,its,n,r,e⟩:=h.ok I.hok;exact⟨its,r,⟨_,n,e,rfl,rfl,rfl⟩,z⟩
 ·refine⟨its.toList,r,⟨o,n,I.kIn a o hk,hc,hd,by simpa using hs⟩,?_⟩;have e:=r.length;simp only[Qk]at e;omega
theorem Inv.tuple(I:Inv X pins σ H s)(h:SqT X.K H a xs):∃its:List Q3,bR xs its/\IsTup s.heap a its.toArray/\xs.length<=QB:=by
 rcases h with h|⟨o,its,n,hk,hc,hs,hz,r⟩
 ·obtain⟨z,its,r,p⟩:=h.ok I.hok;exact⟨its,r,p,z⟩
 ·refine⟨its.toList,r,⟨o,I.kIn a o hk,hc,n,by simpa using hs⟩,?_⟩;have e:=r.length;simp only[Qk]at e;omega
theorem Inv.list_inj(I:Inv X pins σ H s)(h:SqL X.K H a xs)(h':SqL X.K H a ys):xs=ys:=by
 obtain⟨its,r,⟨o,n,e,_,_,d⟩,_⟩:=I.list h;obtain⟨its',r',⟨o',n',e',_,_,d'⟩,_⟩:=I.list h';rw[e]at e';cases e';rw[d]at d';injection d' with d1 _;have:its=its':=by simpa using congrArg Array.toList d1
 subst this;exact r.inj r'
theorem Inv.tuple_inj(I:Inv X pins σ H s)(h:SqT X.K H a xs)(h':SqT X.K H a ys):xs=ys:=by
 obtain⟨its,r,⟨o,e,_,n,d⟩,_⟩:=I.tuple h;obtain⟨its',r',⟨o',e',_,n',d'⟩,_⟩:=I.tuple h';rw[e]at e';cases e';rw[d]at d';injection d' with d1 _;have:its=its':=by simpa using congrArg Array.toList d1
 subst this;exact r.inj r'
end
abbrev Cx.wish(X:Cx)(E:Q3->Q4->Prop):Cx:={ X with xe:=E }
abbrev Cx.nox(X:Cx):Cx:=X.wish fun _ _=>False
theorem Cx.Ok.wish{X:Cx}(ok:X.Ok)(E:Q3->Q4->Prop):(X.wish E).Ok:=
 ⟨ok.mod,ok.kind,ok.glob,ok.blt,ok.above,ok.inj,ok.has,ok.cab,ok.hd,ok.frames,ok.stk,ok.exf,ok.bs,ok.bsz,ok.noex,ok.exfs,ok.funs,ok.frf⟩
theorem Cx.Ok.unwish{X:Cx}{E:Q3->Q4->Prop}(ok:(X.wish E).Ok):X.Ok:=
 ⟨ok.mod,ok.kind,ok.glob,ok.blt,ok.above,ok.inj,ok.has,ok.cab,ok.hd,ok.frames,ok.stk,ok.exf,ok.bs,ok.bsz,ok.noex,ok.exfs,ok.funs,ok.frf⟩
section
variable{X:Cx}{pins:List (Addr×Obj)}{σ:St}{H:Hp}{s:Q4}{E:Q3->Q4->Prop}
theorem Inv.wish(I:Inv X pins σ H s)(E:Q3->Q4->Prop):Inv (X.wish E) pins σ H s:=⟨I.ok.wish E,I.os,I.bare,I.base,I.loc,I.cell,I.free,I.freeC,I.pin,I.hok,I.len⟩
theorem Inv.unwish(I:Inv (X.wish E) pins σ H s):Inv X pins σ H s:=⟨I.ok.unwish,I.os,I.bare,I.base,I.loc,I.cell,I.free,I.freeC,I.pin,I.hok,I.len⟩
theorem SP.unwish{D:zR}{f:Flow}{s':Q4}(h:SP (X.wish E) pins D f s'):SP X pins D f s':=by
 cases f with
 |next=>obtain⟨σ',H',I,q⟩:=h;exact⟨σ',H',I.unwish,q⟩
 |brk=>obtain⟨σ',H',I,q⟩:=h;exact⟨σ',H',I.unwish,q⟩
 |cont=>obtain⟨σ',H',I,q⟩:=h;exact⟨σ',H',I.unwish,q⟩
 |ret u=>obtain⟨v,σ',H',I,r,q⟩:=h;exact⟨v,σ',H',I.unwish,r,q⟩
theorem PSs.nox{st:List Qm}{t:TS}(h:PSs X.nox st t):PSs X st t:=fun pins s σ H D I hw=>
 Z6 (h pins s σ H D (I.wish _) hw) (fun _ _ q=>q.unwish) fun _ _ z=>False.elim z
end
section
variable{X:Cx}{st:Qm}{rest:List Qm}{t u:TS}{e:QH}{te:TE}{pos:Pos}
def G0:TS:=fun D σ H=>D.nx σ H
def LM(t u:TS):TS:=fun D σ H=>t { D with nx:=u D } σ H
def Ex:PSs X [] G0:=fun _ _ σ H _ I h=>wpAny_execs_nil ⟨σ,H,I,h⟩
theorem AJ(h1:PS X st t)(h2:PSs X rest u):PSs X (st::rest) (LM t u):=by
 intro pins s σ H D I h;refine wpAny_execs_cons (thn (h1 pins s σ H { D with nx:=u D } I h) fun f s1 q=>?_);cases f with
 |next=>
  obtain⟨σ',H',I',q⟩:=q;exact h2 pins s1 σ' H' D I' q
 |ret v=>exact q
 |brk=>exact q
 |cont=>exact q
theorem Ew(h1:PS X st t):PSs X [st] t:=by
 intro pins s σ H D I h;refine wpAny_execs_cons (thn (h1 pins s σ H D I h) fun f s1 q=>?_);cases f with
 |next=>exact wpAny_execs_nil q
 |ret v=>exact q
 |brk=>exact q
 |cont=>exact q
def Cj:TS:=fun D σ H=>D.bk σ H
def AL:PS X (.Break pos) Cj:=fun _ _ σ H _ I h=>wpAny_Break ⟨σ,H,I,h⟩
theorem Inv.quiet{pins:List (Addr×Obj)}{σ:St}{H:Hp}{s:Q4}(I:Inv X pins σ H s):interactive X.env=false:=by simp[interactive,I.ok.kind]
def G5(te:TE):TS:=fun D σ H=>te σ H fun _ H1=>D.nx σ H1
theorem Ey(he:PE X e te)(hs:ZT e none pos.line X.env=pure false:=by rfl):PS X (.Expr e pos) (G5 te):=by
 intro pins s σ H D I h;exact wpAny_Expr_any (thn (he pins s σ H _ I h) fun v s1 ⟨x,H1,I1,r1,q1⟩=>⟨σ,H1,I1,q1⟩) I.quiet hs
def LN(te:TE):TS:=fun D σ H=>te σ H D.rt
theorem Hw(he:PE X e te):PS X (.Return (some e) pos) (LN te):=by
 intro pins s σ H D I h;exact wpAny_Return_some (thn (he pins s σ H _ I h) fun v s1 ⟨x,H1,I1,r1,q1⟩=>⟨x,σ,H1,I1,r1,q1⟩)
def LR(c:TT)(t u:TS):TS:=fun D σ H=>c σ H fun b H1=>if b=true then t D σ H1 else u D σ H1
theorem KU{c:QH}{a b:List Qm}{tc:TT}(hc:PT X c tc)(ha:PSs X a t)(hb:PSs X b u):PS X (.If c a b pos) (LR tc t u):=by
 intro pins s σ H D I h;refine wpAny_If (thn (hc pins s σ H _ I h) fun d s1 ⟨H1,I1,q1⟩=>?_);cases d with
 |true=>exact ha pins s1 σ H1 D I1 q1
 |false=>exact hb pins s1 σ H1 D I1 q1
def Cd:TS:=fun _ _ _=>False
def AK:PS X st Cd:=fun _ _ _ _ _ _ h=>h.elim
end
abbrev TG:=V->St->Hp->(St->Hp->Prop)->Prop
abbrev TGs:=List V->St->Hp->(St->Hp->Prop)->Prop
def PG(X:Cx)(target:QH)(t:TG):Prop:=
 ∀(pins:List (Addr×Obj)) (s:Q4) (σ:St) (H:Hp) (v:V) (u:Q3) (Q:St->Hp->Prop),Inv X pins σ H s->cE v u->t v σ H Q->
  wpAny (Qz X.prog X.w) X.A (assign target X.env u) (fun _ s'=>∃σ' H',Inv X pins σ' H' s'/\Q σ' H') X.xe s
def PGs(X:Cx)(ts:List QH)(t:TGs):Prop:=
 ∀(pins:List (Addr×Obj)) (s:Q4) (σ:St) (H:Hp) (vs:List V) (us:List Q3) (Q:St->Hp->Prop),Inv X pins σ H s->bR vs us->t vs σ H Q->
  wpAny (Qz X.prog X.w) X.A (assignInOrder ((assignEach ts X.env).map (·.2)) us) (fun _ s'=>∃σ' H',Inv X pins σ' H' s'/\Q σ' H') X.xe s
abbrev JA:=V->V->V->Hp->(Hp->Prop)->Prop
def LF(X:Cx)(t:JA):Prop:=
 ∀(pins:List (Addr×Obj)) (s:Q4) (σ:St) (H:Hp) (o i v:V) (ov iv u:Q3) (Q:Hp->Prop),Inv X pins σ H s->cE o ov->cE i iv->cE v u->t o i v H Q->
  wpAny (Qz X.prog X.w) X.A (setItem ov iv u) (fun _ s'=>∃H',Inv X pins σ H' s'/\Q H') X.xe s
section
variable{X:Cx}{pos:Pos}
def wz(i:Nat):TG:=fun v σ H Q=>Q (σ.set i (some v)) H
theorem EF{i:Nat}{x:Str}(hN:X.N.Nodup)(hi:X.N[i]?=some x)(hx:Loc X.env.scope x)(hf:X.fn x=true\/X.env.scope.names.lookup x=some .local:=by first|exact .inl rfl|exact .inr rfl|assumption):PG X (.Name x pos) (wz i):=by
 intro pins s σ H v u Q I r h;exact wpAny_assign_Name (uj I hN hi hx r (fun s' I'=>⟨_,H,I',h⟩) hf)
def Mg:TGs:=fun vs σ H Q=>vs=[]/\Q σ H
def II(t:TG)(u:TGs):TGs:=fun vs σ H Q=>∃v r,vs=v::r/\t v σ H fun σ' H'=>u r σ' H' Q
theorem EE:PGs X [] Mg:=by
 intro pins s σ H vs us Q I r h;obtain⟨e,h⟩:=h;subst e;cases r;exact assignInOrder_nil ⟨σ,H,I,h⟩
theorem AO{e:QH}{es:List QH}{t:TG}{u:TGs}(h1:PG X e t)(h2:PGs X es u)
  (hs:(assignEach (e::es) X.env).map (·.2)=assign e X.env::(assignEach es X.env).map (·.2):=by rfl):PGs X (e::es) (II t u):=by
 intro pins s σ H vs us Q I r h;obtain⟨v,vr,e1,h⟩:=h;subst e1;cases r with
 |cons r rr=>
  rw[hs];refine assignInOrder_cons (thn (h1 pins s σ H _ _ _ I r h) fun _ s1 hz=>?_);obtain⟨σ1,H1,I1,q1⟩:=hz;exact h2 pins s1 σ1 H1 _ _ Q I1 rr q1
def Me(K:Q1)(n:Nat)(t:TGs):TG:=fun v σ H Q=>∃a xs,v=.ref a/\SqT K H a xs/\xs.length=n/\t xs σ H Q
theorem HB{es:List QH}{k:Nat}{t:TGs}{n:Nat}(hc:X.calm=true)(h:PGs X es t)
  (hn:(assignEach es X.env).length=n:=by rfl) (hst:(assignEach es X.env).findIdx? (·.1)=none:=by rfl):PG X (.Tuple es k pos) (Me X.K n t):=by
 intro pins s σ H v u Q I r hw;obtain⟨a,xs,e1,hq,hl,hw⟩:=hw;subst e1;cases r;obtain⟨its,rv,ht,hz⟩:=I.tuple hq;refine assign_Tuple_tuple (I.ok.hd hc) ht (by simp[hn,<-hl,rv.length]) hst fun h' hx=>?_;have I1:Inv X pins σ H { s with heap:=h' }:=I.kept (t':=s.toks) fun b o e=>hx b o (Qj (QK e)) e;exact h pins _ σ H xs _ Q I1 (by simpa using rv) hw
def Mf(to ti:TE)(t:JA):TG:=fun v σ H Q=>to σ H fun o H1=>ti σ H1 fun i H2=>t o i v H2 fun H3=>Q σ H3
theorem HC{o i:QH}{to ti:TE}{t:JA}(ho:PE X o to)(hi:PE X i ti)(hs:LF X t)
  (ha:∀v,assign (.Subscript o i pos) X.env v=(do
   let ov <-holding [v] (eval o X.env)
   let iv <-holding [v,ov] (eval i X.env)
   standAt pos
   holding [v,ov,iv] (setItem ov iv v)
   release [v,ov,iv] []):=by intro _;rfl):PG X (.Subscript o i pos) (Mf to ti t):=by
 intro pins s σ H v u Q I r h;rw[ha];refine Q2 (wpAny_holding (thn (ho pins s σ H _ I h) fun ov s1 hz=>?_));obtain⟨x,H1,I1,r1,q1⟩:=hz;refine Q2 (wpAny_holding (thn (hi pins s1 σ H1 _ I1 q1) fun iv s2 hz=>?_));obtain⟨y,H2,I2,r2,q2⟩:=hz;refine Q2 (wpAny_standAt (Q2 (wpAny_holding (thn (hs pins s2 σ H2 x y v ov iv u _ I2 r1 r2 r q2) fun _ s3 ⟨H3,I3,q3⟩=>?_))));exact wpAny_release ⟨σ,H3,I3,q3⟩
def G9(te:TE)(g:TG):TS:=fun D σ H=>te σ H fun x H1=>g x σ H1 D.nx
theorem Hz{tg e:QH}{te:TE}{g:TG}(he:PE X e te)(hg:PG X tg g)(hs:swapsWithSole [tg] e pos.line X.env=pure false:=by rfl)(hw:swappedStores [tg] e X.env=pure none:=by rfl)
  (h1:(assignEach [tg] X.env).map (·.2)=[assign tg X.env]:=by rfl):PS X (.Assign [tg] e pos) (G9 te g):=by
 intro pins s σ H D I h;refine wpAny_Assign_stores (thn (he pins s σ H _ I h) fun v s1 hz=>?_) hs hw;obtain⟨x,H1,I1,r1,q1⟩:=hz;rw[h1];exact thn (hg pins s1 σ H1 x v _ I1 r1 q1) fun _ s2 q=>q
theorem Hv{i:Nat}{x:Str}{e:QH}{te:TE}{pos':Pos}(hN:X.N.Nodup)(hi:X.N[i]?=some x)(hx:Loc X.env.scope x)(he:PE X e te)(hs:ZT e (some (.Name x pos')) pos.line X.env=pure false:=by rfl)(hf:X.fn x=true\/X.env.scope.names.lookup x=some .local:=by first|exact .inl rfl|exact .inr rfl|assumption) :
  PS X (.Assign [.Name x pos'] e pos) (G9 te (wz i)):=by
 intro pins s σ H D I h;refine wpAny_Assign_Name (thn (he pins s σ H _ I h) fun v s1 hz=>?_) hs;obtain⟨y,H1,I1,r1,q1⟩:=hz;exact uj I1 hN hi hx r1 (fun s2 I2=>⟨_,H1,I2,q1⟩) hf
end
structure It where
 go:Nat->Hp->Prop
 yld:Nat->Hp->V->Hp->Prop
 stop:Nat->Hp->Prop
def wU(X:Cx)(pins:List (Addr×Obj))(H:Hp)(b:Addr):Prop:=
 H b=none/\b≠X.env.locals/\b∉X.fs/\(b∈X.ex\/X.s₀.heap.objs.size<=b)/\(∀x c,X.env.cells.lookup x=some c->c≠b)/\∀p∈X.pn++pins,p.1≠b
theorem Inv.fpOk{X:Cx}{pins:List (Addr×Obj)}{σ:St}{H H':Hp}{s:Q4}{b:Addr}(I:Inv X pins σ H s)(hb:s.heap.objs.size<=b)(hn:H' b=none):wU X pins H' b:=by
 refine⟨hn,Nat.ne_of_gt (QL I.lt hb),I.nofs hb,.inr (Qp I.sz hb),fun x c e z=>?_,fun p hp z=>?_⟩
 ·obtain⟨v,q⟩:=I.cell x c e;exact absurd (QL q.lt (by rw[z];exact hb)) (ZN _)
 ·exact absurd (QL (QK (I.pin p hp).1) (by rw[z];exact hb)) (ZN _)
structure FY(P:Qx)(w:Qg)(K:Q1)(tg:QH)(J:It)(fp:List Addr)(it:Addr)(tn:Nat->Heap->Prop):Prop where
 mem:it∈fp
 obj:∀i h,tn i h->∀b∈fp,∃o,h.get? b=some o/\∀v,o.data≠.cell v
 keep:∀i h h',tn i h->(∀b∈fp,∀o,h.get? b=some o->h'.get? b=some o)->tn i h'
 item:∀(X:Cx),X.prog=P->X.w=w->X.K=K->X.calm=true->∀(i:Nat) (pins:List (Addr×Obj)) (s:Q4) (σ:St) (H:Hp) (E:Q3->Q4->Prop),Inv X pins σ H s->(∀b∈fp,wU X pins H b)->tn i s.heap->J.go i H->
  wpAny (Qz P w) X.A (pyNext (.ref it)) (fun r s1=>∃u,r=some u/\
   wpAny (Qz P w) X.A (letOwnedTupleGo tg (.ref it) u) (fun _ s2=>∃x H',Inv X pins σ H' s2/\cE x u/\J.yld i H x H'/\tn (i+1) s2.heap/\∀b∈fp,H' b=none) E s1) E s
 done:∀(X:Cx),X.prog=P->X.w=w->X.K=K->X.calm=true->∀(i:Nat) (pins:List (Addr×Obj)) (s:Q4) (σ:St) (H:Hp) (E:Q3->Q4->Prop),Inv X pins σ H s->(∀b∈fp,wU X pins H b)->tn i s.heap->J.stop i H->
  wpAny (Qz P w) X.A (pyNext (.ref it)) (fun r s1=>r=none/\Inv X pins σ H s1) E s
 self:∀(A:Qd) (i:Nat) (s:Q4) (Q:Q3->Q4->Prop) (E:Q3->Q4->Prop),tn i s.heap->Q (.ref it) s->wpAny (Qz P w) A (pyIter (.ref it)) Q E s
abbrev TI:=St->Hp->(It->Hp->Prop)->Prop
def PIE(X:Cx)(pins:List (Addr×Obj))(σ:St)(tg:QH)(R:It->Hp->Prop)(itv:Q3)(s2:Q4):Prop:=
 ∃(it:Addr) (fp:List Addr) (tn:Nat->Heap->Prop) (J:It) (H':Hp),itv=.ref it/\Inv X pins σ H' s2/\FY X.prog X.w X.K tg J fp it tn/\tn 0 s2.heap/\(∀b∈fp,wU X pins H' b)/\R J H'
def PI(X:Cx)(tg iter:QH)(wi:TI):Prop:=
 ∀(pins:List (Addr×Obj)) (s:Q4) (σ:St) (H:Hp) (R:It->Hp->Prop),Inv X pins σ H s->wi σ H R->
  wpAny (Qz X.prog X.w) X.A (eval iter X.env) (fun v s1=>wpAny (Qz X.prog X.w) X.A (pyIter v) (PIE X pins σ tg R) X.xe s1) X.xe s
theorem BA {M : Model} {A : Qd} {E : Q3 -> Q4 -> Prop} {s : Q4} {tg : QH} {it : Addr} {u : Q3} {o : Obj} {n : String} {vs : Array Q3} {Q : Unit -> Q4 -> Prop} (ho : s.heap.get? it = some o) (hc : o.cls = .type n) (hd : o.data = .fields vs)
    (hn:["enumerate","zip","dict_itemiterator","dict_reverseitemiterator","odict_iterator","itertools.zip_longest","itertools.pairwise"].contains n=false) (hQ:Q () s):wpAny M A (letOwnedTupleGo tg (.ref it) u) Q E s:=by
  unfold letOwnedTupleGo;cases tg<;>first
    |exact QJ hQ
    | (cases u <;> first
        |exact QJ hQ
        | (refine Q2 (wpAny_load ho ?_)
           rw[hc,hd];show wpAny M A (if (["enumerate","zip","dict_itemiterator","dict_reverseitemiterator","odict_iterator","itertools.zip_longest","itertools.pairwise"].contains n&&vs[0]? == some (rawInt _))=true then _ else _) Q E s;rw[if_neg (by intro h;rw[hn,Bool.false_and]at h;cases h)];exact QJ hQ))
def Itl(K:Q1)(a:Addr):It:=
 ⟨fun i H=>∃xs x,SqL K H a xs/\xs[i]?=some x,fun i H x H'=>H'=H/\∀xs,SqL K H a xs->xs[i]?=some x,fun i H=>∃xs,SqL K H a xs/\xs.length<=i⟩
def Itt(K:Q1)(a:Addr):It:=
 ⟨fun i H=>∃xs x,SqT K H a xs/\xs[i]?=some x,fun i H x H'=>H'=H/\∀xs,SqT K H a xs->xs[i]?=some x,fun i H=>∃xs,SqT K H a xs/\xs.length<=i⟩
def Itr(lo:Int)(n:Nat):It:=⟨fun i _=>i<n,fun i H x H'=>H'=H/\x=.int (lo+i),fun i _=>n<=i⟩
theorem xq{P:Qx}{w:Qg}{K:Q1}{tg:QH}(a it:Addr):FY P w K tg (Itl K a) [it] it (fun i h=>h.IsListIter it a i) where
 mem:=by simp
 obj:=fun i h st b hb=>by
  have e:b=it:=by simpa using hb
  subst e;obtain⟨o,e,c,d⟩:=st;exact⟨o,e,fun v z=>by rw[d]at z;cases z⟩
 keep:=fun i h h' st k=>st.at fun o e=>k it (by simp) o e
 item:=by
  intro X hP hw hK hc i pins s σ H E I hf st hg;subst hP hw hK;obtain⟨xs,x,hq,hx⟩:=hg;obtain⟨its,rv,p,hz⟩:=I.list hq;obtain⟨u,hu,ru⟩:=rv.get hx;obtain⟨f0,f1,f2,f3,f4,f5⟩:=hf it (by simp);refine wpAny_pyNext_list_item st p.isList (x:=u) (by simpa using hu) fun h' st' sb=>?_;have I1:Inv X pins σ H { s with heap:=h' }:=I.turned (t':=s.toks) (fun b o hb e=>(sb.2 b hb).trans e) f0 f1 f3 f4 f5;obtain⟨o,e,c,d⟩:=id st';exact⟨u,rfl,BA (s:={ s with heap:=h' }) e c d (by decide) ⟨x,H,I1,ru,⟨rfl,fun ys hy=>by rw[I.list_inj hy hq];exact hx⟩,st',fun b hb=>(hf b hb).1⟩⟩
 done:=by
  intro X hP hw hK hc i pins s σ H E I hf st hg;subst hP hw hK;obtain⟨xs,hq,hx⟩:=hg;obtain⟨its,rv,p,hz⟩:=I.list hq;obtain⟨f0,f1,f2,f3,f4,f5⟩:=hf it (by simp);have hl:=rv.length;exact wpAny_pyNext_list_end (I.ok.hd hc) st p.isList (by simp;omega) fun h' eb=>⟨rfl,I.turned (t':=s.toks) (fun b o hb e=>eb b o hb e) f0 f1 f3 f4 f5⟩
 self:=fun _ _ _ _ _ st h=>wpAny_pyIter_listiter st h
theorem vO{P:Qx}{w:Qg}{K:Q1}{tg:QH}(a it:Addr):FY P w K tg (Itt K a) [it] it (fun i h=>h.IsTupleIter it a i) where
 mem:=by simp
 obj:=fun i h st b hb=>by
  have e:b=it:=by simpa using hb
  subst e;obtain⟨o,e,c,d⟩:=st;exact⟨o,e,fun v z=>by rw[d]at z;cases z⟩
 keep:=fun i h h' st k=>st.at fun o e=>k it (by simp) o e
 item:=by
  intro X hP hw hK hc i pins s σ H E I hf st hg;subst hP hw hK;obtain⟨xs,x,hq,hx⟩:=hg;obtain⟨its,rv,p,hz⟩:=I.tuple hq;obtain⟨u,hu,ru⟩:=rv.get hx;obtain⟨f0,f1,f2,f3,f4,f5⟩:=hf it (by simp);refine wpAny_pyNext_tuple_item st (show s.heap.IsTuple a its.toArray from p) (x:=u) (by simpa using hu) fun h' st' sb=>?_;have I1:Inv X pins σ H { s with heap:=h' }:=I.turned (t':=s.toks) (fun b o hb e=>(sb.2 b hb).trans e) f0 f1 f3 f4 f5;obtain⟨o,e,c,d⟩:=id st';exact⟨u,rfl,BA (s:={ s with heap:=h' }) e c d (by decide) ⟨x,H,I1,ru,⟨rfl,fun ys hy=>by rw[I.tuple_inj hy hq];exact hx⟩,st',fun b hb=>(hf b hb).1⟩⟩
 done:=by
  intro X hP hw hK hc i pins s σ H E I hf st hg;subst hP hw hK;obtain⟨xs,hq,hx⟩:=hg;obtain⟨its,rv,p,hz⟩:=I.tuple hq;obtain⟨f0,f1,f2,f3,f4,f5⟩:=hf it (by simp);have hl:=rv.length;exact wpAny_pyNext_tuple_end (I.ok.hd hc) st (show s.heap.IsTuple a its.toArray from p) (by simp;omega) fun h' eb=>⟨rfl,I.turned (t':=s.toks) (fun b o hb e=>eb b o hb e) f0 f1 f3 f4 f5⟩
 self:=fun _ _ _ _ _ st h=>wpAny_pyIter_tupleiter st h
theorem vP{P:Qx}{w:Qg}{K:Q1}{tg:QH}(it:Addr)(lo:Int)(n:Nat):FY P w K tg (Itr lo n) [it] it (fun i h=>IsRangeIter h it (lo+(i:Nat)*1) ((n:Int)-(i:Nat)) 1) where
 mem:=by simp
 obj:=fun i h st b hb=>by
  have e:b=it:=by simpa using hb
  subst e;exact⟨_,st,fun v z=>by
   have z':Data.fields _=Data.cell v:=z;cases z'⟩
 keep:=fun i h h' st k=>k it (by simp) _ st
 item:=by
  intro X hP hw hK hc i pins s σ H E I hf st hg;subst hP hw hK;obtain⟨f0,f1,f2,f3,f4,f5⟩:=hf it (by simp);have W:=Walks.range (prog:=X.prog) (w:=X.w) (I.ok.hd hc) it lo 1 n;refine W.item i s _ _ hg st fun v h' tk hv st' kk=>?_;obtain⟨t,rfl⟩:=hv;have I1:Inv X pins σ H { s with heap:=h',toks:=tk }:=I.turned (fun b o hb e=>kk b o (by simpa using hb) e) f0 f1 f3 f4 f5;refine⟨_,rfl,BA (s:={ s with heap:=h',toks:=tk }) (n:="range_iterator") st' rfl rfl (by decide) ⟨.int (lo+i),H,I1,⟨t,?_⟩,⟨rfl,rfl⟩,st',fun b hb=>(hf b hb).1⟩⟩;rw[Int.mul_one]
 done:=by
  intro X hP hw hK hc i pins s σ H E I hf st hg;subst hP hw hK;obtain⟨f0,f1,f2,f3,f4,f5⟩:=hf it (by simp);exact wpAny_pyNext_range_end (I.ok.hd hc) st (by have:n<=i:=hg;omega) fun h' eb=>⟨rfl,I.turned (t':=s.toks) (fun b o hb e=>eb b o hb e) f0 f1 f3 f4 f5⟩
 self:=fun _ _ _ _ _ st h=>wpAny_pyIter_rangeiter st h
section
variable{X:Cx}{tg:QH}
def IH(K:Q1)(tl:TE):TI:=fun σ H R=>tl σ H fun x H1=>∃a,x=.ref a/\(∃xs,SqL K H1 a xs)/\R (Itl K a) H1
def Md(K:Q1)(tl:TE):TI:=fun σ H R=>tl σ H fun x H1=>∃a,x=.ref a/\(∃xs,SqT K H1 a xs)/\R (Itt K a) H1
theorem ED{l:QH}{tl:TE}(hl:PE X l tl):PI X tg l (IH X.K tl):=by
 intro pins s σ H R I h;refine thn (hl pins s σ H _ I h) fun v s1 hz=>?_;obtain⟨x,H1,I1,r1,q1⟩:=hz;obtain⟨a,e,⟨xs,hq⟩,q⟩:=q1;subst e;cases r1;obtain⟨its,rv,p,hz⟩:=I1.list hq;refine wpAny_pyIter_list p.isList ?_;refine⟨s1.heap.objs.size,[s1.heap.objs.size],_,_,H1,rfl,I1.kept (t':=s1.toks) fun b o e=>Q5 _ e,xq a _,⟨_,QM _ rfl,rfl,rfl⟩,fun b hb=>?_,q⟩;have e:b=s1.heap.objs.size:=by simpa using hb
 subst e;exact I1.fpOk (QQ _) (I1.hok.fresh (QQ _))
theorem HA{l:QH}{tl:TE}(hl:PE X l tl):PI X tg l (Md X.K tl):=by
 intro pins s σ H R I h;refine thn (hl pins s σ H _ I h) fun v s1 hz=>?_;obtain⟨x,H1,I1,r1,q1⟩:=hz;obtain⟨a,e,⟨xs,hq⟩,q⟩:=q1;subst e;cases r1;obtain⟨its,rv,p,hz⟩:=I1.tuple hq;refine wpAny_pyIter_tuple (show s1.heap.IsTuple a its.toArray from p) ?_;refine⟨s1.heap.objs.size,[s1.heap.objs.size],_,_,H1,rfl,I1.kept (t':=s1.toks) fun b o e=>Q5 _ e,vO a _,⟨_,QM _ rfl,rfl,rfl⟩,fun b hb=>?_,q⟩;have e:b=s1.heap.objs.size:=by simpa using hb
 subst e;exact I1.fpOk (QQ _) (I1.hok.fresh (QQ _))
theorem Ay{pins:List (Addr×Obj)}{σ:St}{H:Hp}{s:Q4}{R:It->Hp->Prop}{E:Q3->Q4->Prop}{lo hi:Int}{t u v:Tok}{tk:Nat}(I:Inv X pins σ H s)(h1:-(2^62)<=lo)(h2:lo<2^62)(h3:-(2^62)<=hi)(h4:hi<2^62)
  (q:R (Itr lo (hi-lo).toNat) H):wpAny (Qz X.prog X.w) X.A (pyIter (.ref s.heap.objs.size)) (PIE X pins σ tg R) E { s with heap:=s.heap.push { cls:=.type "range",data:=.fields #[.int lo t,.int hi u,.int 1 v] },toks:=tk }:=by
 refine wpAny_pyIter_range (IsRange.new ..) (small_one h1 h2 h3 h4) ?_;have I1:Inv X pins σ H { s with heap:=s.heap.push { cls:=.type "range",data:=.fields #[.int lo t,.int hi u,.int 1 v] },toks:=tk }:=I.kept fun b o e=>Q5 _ e;refine⟨(s.heap.push { cls:=.type "range",data:=.fields #[.int lo t,.int hi u,.int 1 v] }).objs.size,[(s.heap.push { cls:=.type "range",data:=.fields #[.int lo t,.int hi u,.int 1 v] }).objs.size],_,_,H,rfl,
  I1.kept (t':=tk) fun b o e=>Q5 _ e,vP _ lo (hi-lo).toNat,?_,fun b hb=>?_,q⟩
 ·have e1:lo+((0:Nat):Int)*1=lo:=by simp
  have e2:(((hi-lo).toNat:Nat):Int)-((0:Nat):Int)=Builtin.Range.rangeSize lo hi 1:=by rw[rangeSize_one];split<;>omega
  show IsRangeIter _ _ (lo+((0:Nat):Int)*1) ((((hi-lo).toNat:Nat):Int)-((0:Nat):Int)) 1;rw[e1,e2];exact QM _ rfl
 ·have e:b=(s.heap.push { cls:=.type "range",data:=.fields #[.int lo t,.int hi u,.int 1 v] }).objs.size:=by simpa using hb
  subst e;exact I1.fpOk (QQ _) (I1.hok.fresh (QQ _))
def IG(ta:TA):TI:=fun σ H R=>ta σ H fun vs H1=>∃j:Int,vs=[.int j]/\-(2^62)<=j/\j<2^62/\R (Itr 0 j.toNat) H1
theorem xW{a:QH}{ta:TA}{p pos:Pos}(hg:Gl X "range")(hm:X.mg "range"=none)(ha:PA X [a] ta)(hs:QR [a] X.env=[(false,eval a X.env)]:=by rfl):PI X tg (.Call (.Name "range" p) [a] [] pos) (IG ta):=by
 intro pins s σ H R I h;refine Call_ (nZ I hg hm boot_range (PyProof.Rows.callWith_type1 (thn (ha pos pins s σ H _ I h) fun us s1 ⟨vs,H1,I1,r1,q1⟩=>?_) hs rfl));obtain⟨j,e,q1,q2,q⟩:=q1;subst e;cases r1 with
 |cons r rr=>
  cases rr;obtain⟨t,rfl⟩:=r;exact call_range_1 (Ay I1 (by omega) (by omega) q1 q2 (by simpa using q))
def G3(wi:TI)(g:TG)(tb:TS):TS:=fun D σ H=>wi σ H fun J H1=>∃W:Nat->Nat->St->Hp->Prop,(∃m,W 0 m σ H1)/\∀i m σ H,W i m σ H->
 (J.stop i H/\D.nx σ H)\/(J.go i H/\∃N:St->Hp->Prop,(∀σ' H',N σ' H'->∃m',m'<m/\W (i+1) m' σ' H')/\∀x H',J.yld i H x H'->g x σ H' fun σ2 H2=>tb { D with nx:=N,ct:=N,bk:=D.nx } σ2 H2)
def uG(fp:List Addr)(h:Heap):List (Addr×Obj):=fp.filterMap fun b=>(h.get? b).map fun o=>(b,o)
theorem fN{fp:List Addr}{h:Heap}{b:Addr}{o:Obj}(hb:b∈fp)(e:h.get? b=some o):(b,o)∈uG fp h:=List.mem_filterMap.mpr ⟨b,hb,by rw[e];rfl⟩
theorem yd{fp:List Addr}{h:Heap}{p:Addr×Obj}(hp:p∈uG fp h):p.1∈fp/\h.get? p.1=some p.2:=by
 obtain⟨b,hb,e⟩:=List.mem_filterMap.mp hp;cases q:h.get? b with
 |none=>rw[q]at e;cases e
 |some o=>
  rw[q]at e;have e':(b,o)=p:=Option.some.inj e;subst e';exact⟨hb,q⟩
theorem Inv.pinned{pins:List (Addr×Obj)}{σ:St}{H:Hp}{s:Q4}{fp:List Addr}(I:Inv X pins σ H s)(hf:∀b∈fp,wU X pins H b)(ho:∀b∈fp,∃o,s.heap.get? b=some o/\∀v,o.data≠.cell v):Inv X (pins++uG fp s.heap) σ H s:=
 I.pins_of fun p hp=>(Qe.mp hp).elim (fun z=>I.pin p (QN _ z)) fun z=>by
  obtain⟨hb,e⟩:=yd z;obtain⟨f0,f1,f2,_⟩:=hf p.1 hb;obtain⟨o,e',d⟩:=ho p.1 hb;rw[e]at e';cases e';exact⟨e,f0,f1,f2,d⟩
theorem Inv.unpinned{pins pl:List (Addr×Obj)}{σ:St}{H:Hp}{s:Q4}(I:Inv X (pins++pl) σ H s):Inv X pins σ H s:=I.pins_of fun p hp=>I.pin p (QN _ (List.mem_append_left _ hp))
theorem Hx{iter:QH}{body:List Qm}{wi:TI}{g:TG}{tb:TS}{pos:Pos}(hp:PassesOwn (Qz X.prog X.w) X.A X.env X.xe)(hc:X.calm=true)(hi:PI X tg iter wi)(hg:PG X tg g)(hb:PSs X body tb)
  (hs:∀x,foldedSetIterable iter X.env x=pure x:=by intro _;rfl):PS X (.For tg iter body [] pos) (G3 wi g tb):=by
 intro pins s σ H D I h;refine wpAny_For (thn (hi pins s σ H _ I h) fun v s1 h1=>thn h1 fun itv s2 h2=>?_) hs;obtain⟨it,fp,tn,J,H2,e,I2,T,st2,f2,W,⟨m0,w0⟩,turn⟩:=h2;subst e;have stat:∀{H':Hp},(∀b∈fp,H' b=none)->∀b∈fp,wU X pins H' b:=fun hn b hb=>⟨hn b hb,(f2 b hb).2⟩;refine codeAny_forLoop_any (fun n s'=>∃i σ' H',Inv X pins σ' H' s'/\tn i s'.heap/\(∀b∈fp,H' b=none)/\W i n σ' H') ?_ m0 ⟨0,σ,H2,I2,st2,fun b hb=>(f2 b hb).1,w0⟩;rintro n s3 ⟨i,σ3,H3,I3,st3,fr3,w3⟩;rcases turn i n σ3 H3 w3 with⟨stop,qn⟩|⟨go,N,hN,step⟩
 ·refine wpAny_passesOwn hp (thn (T.done X rfl rfl rfl hc i pins s3 σ3 H3 X.xe I3 (stat fr3) st3 stop) fun r s4 ⟨hr,I4⟩=>?_);subst hr;exact wpAny_execs_nil ⟨σ3,H3,I4,qn⟩
 ·refine wpAny_passesOwn hp (thn (T.item X rfl rfl rfl hc i pins s3 σ3 H3 X.xe I3 (stat fr3) st3 go) fun r s4 ⟨u,hr,h4⟩=>?_);subst hr;refine wpAny_passesOwn hp (thn h4 fun _ s5 hz=>?_);obtain⟨x,H5,I5,r5,y5,st5,fr5⟩:=hz;have I5':=I5.pinned (stat fr5) (T.obj _ _ st5);refine wpAny_passesOwn hp (thn (hg _ s5 σ3 H5 x u _ I5' r5 (step x H5 y5)) fun _ s6 hz=>?_);obtain⟨σ6,H6,I6,q6⟩:=hz;refine wpAny_passesOwn hp (thn (hb _ s6 σ6 H6 _ I6 q6) fun f s7 q7=>?_);have again:∀{σ7:St} {H7:Hp},Inv X (pins++uG fp s5.heap) σ7 H7 s7->N σ7 H7->∃m,m<n/\∃i σ' H',Inv X pins σ' H' s7/\tn i s7.heap/\(∀b∈fp,H' b=none)/\W i m σ' H':=fun{σ7 H7} I7 n7=>by
   obtain⟨m',hm,w7⟩:=hN σ7 H7 n7;refine⟨m',hm,i+1,σ7,H7,I7.unpinned,T.keep _ _ _ st5 fun b hb o e=>(I7.pin (b,o) (QN _ (QN _ (fN hb e)))).1,fun b hb=>?_,w7⟩;obtain⟨o,e,d⟩:=T.obj _ _ st5 b hb;exact(I7.pin (b,o) (QN _ (QN _ (fN hb e)))).2.1
  cases f with
  |next=>obtain⟨σ7,H7,I7,n7⟩:=q7;exact again I7 n7
  |cont=>obtain⟨σ7,H7,I7,n7⟩:=q7;exact again I7 n7
  |brk=>obtain⟨σ7,H7,I7,q7⟩:=q7;exact⟨σ7,H7,I7.unpinned,q7⟩
  |ret v=>obtain⟨x7,σ7,H7,I7,r7,q7⟩:=q7;exact⟨x7,σ7,H7,I7.unpinned,r7,q7⟩
end
abbrev R2:=V->V->Hp->VK->Prop
def OpR(X:Cx)(f:Q3->Q3->Sem Q3)(r:R2):Prop:=
 ∀(pins:List (Addr×Obj)) (s:Q4) (σ:St) (H:Hp) (x y:V) (v u:Q3) (Q:VK),Inv X pins σ H s->cE x v->cE y u->r x y H Q->
  wpAny (Qz X.prog X.w) X.A (f v u) (EP X pins σ Q) X.xe s
def UnR(X:Cx)(f:Q3->Sem Q3)(r:V->Hp->VK->Prop):Prop:=
 ∀(pins:List (Addr×Obj)) (s:Q4) (σ:St) (H:Hp) (x:V) (v:Q3) (Q:VK),Inv X pins σ H s->cE x v->r x H Q->
  wpAny (Qz X.prog X.w) X.A (f v) (EP X pins σ Q) X.xe s
def fD(X:Cx)(f:Q3)(r:List V->Hp->VK->Prop):Prop:=
 ∀(pins:List (Addr×Obj)) (s:Q4) (σ:St) (H:Hp) (xs:List V) (us:List Q3) (Q:VK),Inv X pins σ H s->bR xs us->r xs H Q->
  wpAny (Qz X.prog X.w) X.A (call f us) (EP X pins σ Q) X.xe s
def tOp(r:R2)(ta tb:TE):TE:=fun σ H Q=>ta σ H fun x H1=>tb σ H1 fun y H2=>r x y H2 Q
def tUn(r:V->Hp->VK->Prop)(ta:TE):TE:=fun σ H Q=>ta σ H fun x H1=>r x H1 Q
def rI(C:Int->Int->Prop)(g:Int->Int->V):R2:=fun x y H Q=>∃i j,x=.int i/\y=.int j/\C i j/\Q (g i j) H
def rI0(g:Int->Int->V):R2:=fun x y H Q=>∃i j,x=.int i/\y=.int j/\Q (g i j) H
section
variable{X:Cx}{a b:QH}{ta tb:TE}{pos:Pos}
theorem Lz(ha:PE X a ta)(hb:PE X b tb){pins:List (Addr×Obj)}{s:Q4}{σ:St}{H:Hp}{R:V->V->Hp->Prop}(I:Inv X pins σ H s)
  (h:ta σ H fun x H1=>tb σ H1 fun y H2=>R x y H2) {Q:Q3->Q4->Prop} {f:Q3->Q3->Sem Q3}
  (hf:∀v u s2 x y H2,Inv X pins σ H2 s2->cE x v->cE y u->R x y H2->wpAny (Qz X.prog X.w) X.A (f v u) Q X.xe s2) :
  wpAny (Qz X.prog X.w) X.A (eval a X.env) (fun v s₁=>wpAny (Qz X.prog X.w) X.A (eval b X.env) (fun u s₂=>wpAny (Qz X.prog X.w) X.A (f v u) Q X.xe s₂) X.xe s₁) X.xe s:=by
 refine thn (ha pins s σ H _ I h) fun v s1 hz=>?_;obtain⟨x,H1,I1,r1,q1⟩:=hz;refine thn (hb pins s1 σ H1 _ I1 q1) fun u s2 hz=>?_;obtain⟨y,H2,I2,r2,q2⟩:=hz;exact hf v u s2 x y H2 I2 r1 r2 q2
theorem KZ{op:Operator}{r:R2}(ho:OpR X (binaryOp op) r)(ha:PE X a ta)(hb:PE X b tb):PE X (.BinOp a op b pos) (tOp r ta tb):=by
 intro pins s σ H Q I h;exact wpAny_BinOp (Lz ha hb I h fun v u s2 x y H2 I2 rx ry q=>ho pins s2 σ H2 x y v u Q I2 rx ry q)
theorem KW{op:UnaryOp}{r:V->Hp->VK->Prop}(ho:UnR X (unaryOp op) r)(ha:PE X a ta):PE X (.UnaryOp op a pos) (tUn r ta):=by
 intro pins s σ H Q I h;exact UnaryOp_ (thn (ha pins s σ H _ I h) fun v s1 ⟨x,H1,I1,r1,q1⟩=>ho pins s1 σ H1 x v Q I1 r1 q1)
theorem opI{f:Q3->Q3->Sem Q3}{C:Int->Int->Prop}{g:Int->Int->Int}
  (rule:∀(i j:Int) (t u:Tok) (s:Q4) (Q:Q3->Q4->Prop) (E:Q3->Q4->Prop),C i j->Q (.int (g i j) s.toks) { s with toks:=s.toks+1 }->wpAny (Qz X.prog X.w) X.A (f (.int i t) (.int j u)) Q E s) :
  OpR X f (rI C fun i j=>.int (g i j)):=by
 intro pins s σ H x y v u Q I rx ry h;obtain⟨i,j,rfl,rfl,hc,q⟩:=h;obtain⟨t,rfl⟩:=rx;obtain⟨t',rfl⟩:=ry;exact rule i j t t' s _ _ hc ⟨.int (g i j),H,I.tok _,⟨_,rfl⟩,q⟩
theorem MZ{f:Q3->Q3->Sem Q3}{g:Int->Int->Int}
  (rule:∀(i j:Int) (t u:Tok) (s:Q4) (Q:Q3->Q4->Prop) (E:Q3->Q4->Prop),Q (.int (g i j) s.toks) { s with toks:=s.toks+1 }->wpAny (Qz X.prog X.w) X.A (f (.int i t) (.int j u)) Q E s) :
  OpR X f (rI0 fun i j=>.int (g i j)):=by
 intro pins s σ H x y v u Q I rx ry h;obtain⟨i,j,rfl,rfl,q⟩:=h;obtain⟨t,rfl⟩:=rx;obtain⟨t',rfl⟩:=ry;exact rule i j t t' s _ _ ⟨.int (g i j),H,I.tok _,⟨_,rfl⟩,q⟩
theorem Jl{f:Q3->Q3->Sem Q3}{g:Int->Int->Bool}
  (rule:∀(i j:Int) (t u:Tok) (s:Q4) (Q:Q3->Q4->Prop) (E:Q3->Q4->Prop),Q (.bool (g i j)) s->wpAny (Qz X.prog X.w) X.A (f (.int i t) (.int j u)) Q E s) :
  OpR X f (rI0 fun i j=>.bl (g i j)):=by
 intro pins s σ H x y v u Q I rx ry h;obtain⟨i,j,rfl,rfl,q⟩:=h;obtain⟨t,rfl⟩:=rx;obtain⟨t',rfl⟩:=ry;exact rule i j t t' s _ _ ⟨.bl (g i j),H,I,rfl,q⟩
def LH(i j:Int):Prop:=0<=j/\j<=1000000/\i.natAbs<2^64
def zI(i j:Int):Prop:=(-(2^64)<i/\i<2^64)\/(-(2^64)<j/\j<2^64)
theorem zI.ok{i j:Int}(h:zI i j):IntMulOk i j:=by
 rcases h with⟨h1,h2⟩|⟨h1,h2⟩
 ·exact .of_left (intBits_le_64 h1 h2)
 ·exact .of_right (intBits_le_64 h1 h2)
def HY:OpR X (binaryOp .Add) (rI0 fun i j=>.int (i+j)):=MZ fun _ _ _ _ _ _ _ q=>add_int q
def j5:OpR X (binaryOp .Mult) (rI zI fun i j=>.int (i*j)):=opI fun _ _ _ _ _ _ _ hc q=>mul_int q hc.ok
theorem qA:OpR X (binaryOp .Mod) (rI (fun _ j=>0<j) fun i j=>.int (i % j)):=opI fun i j _ _ _ _ _ hc q=>by
 have h1:(0:Int)<j:=hc;exact mod_int' (by omega) (by rw[Int.fmod_eq_emod_of_nonneg i (by omega)];exact q)
end
def KH:V->V->Bool
 |.non,.non=>true|.non,.int _=>true|.int _,.non=>true|.non,.bl _=>true|.bl _,.non=>true|.non,.str _=>true|.str _,.non=>true
 |.int _,.int _=>true|.bl _,.bl _=>true|.str _,.str _=>true|.byt _,.byt _=>true
 |.int _,.str _=>true|.str _,.int _=>true|.bl _,.str _=>true|.str _,.bl _=>true
 |_,_=>false
def rEq:R2:=fun x y H Q=>KH x y=true/\Q (.bl (decide (x=y))) H
def rNe:R2:=fun x y H Q=>KH x y=true/\Q (.bl (!decide (x=y))) H
theorem zc{i j:Int}:decide (V.int i=V.int j)=(i == j):=by
 rw[ZK];simp
theorem CY{i j:Bool}:decide (V.bl i=V.bl j)=(i == j):=by
 rw[ZK];simp
theorem zb{i j:Str}:decide (V.str i=V.str j)=(i == j):=by
 rw[ZK];simp
theorem zd{i j:Array UInt8}:decide (V.byt i=V.byt j)=(i.toList == j.toList):=by
 rw[ZK];cases i;cases j;simp
section
variable{X:Cx}{a b c:QH}{ta tb:TE}{pos:Pos}
theorem bK{pins:List (Addr×Obj)}{σ:St}{H:Hp}{s:Q4}{Q:VK}{k k':Bool}(I:Inv X pins σ H s)(q:Q (.bl k) H)(e:k=k'):EP X pins σ Q (.bool k') s:=by
 subst e;exact⟨.bl k,H,I,rfl,q⟩
theorem jy:OpR X (compareOp .Eq) rEq:=by
 intro pins s σ H x y v u Q I rx ry h;obtain⟨hs,q⟩:=h;cases x with
 |non=>
  cases rx;cases y with
  |non=>cases ry;exact PySem.EqNone.eq_none_none (bK I q (by simp))
  |bl j=>cases ry;exact PySem.EqNone.eq_none_bool (bK I q (by simp))
  |int j=>obtain⟨t',rfl⟩:=ry;exact PySem.EqNone.eq_none_int (bK I q (by simp))
  |str j=>obtain⟨t',rfl⟩:=ry;exact PySem.EqNone.eq_none_str (bK I q (by simp))
  |_=>exact absurd (show false=true from hs) Q6
 |bl i=>
  cases rx;cases y with
  |non=>cases ry;exact PySem.EqNone.eq_bool_none (bK I q (by simp))
  |bl j=>cases ry;exact eq_bool (bK I q CY)
  |str j=>obtain⟨t',rfl⟩:=ry;exact PySem.EqMixed.eq_bool_str (bK I q (by simp))
  |_=>exact absurd (show false=true from hs) Q6
 |int i=>
  obtain⟨t,rfl⟩:=rx;cases y with
  |non=>cases ry;exact PySem.EqNone.eq_int_none (bK I q (by simp))
  |int j=>obtain⟨t',rfl⟩:=ry;exact eq_int (bK I q zc)
  |str j=>obtain⟨t',rfl⟩:=ry;exact PySem.EqMixed.eq_int_str (bK I q (by simp))
  |_=>exact absurd (show false=true from hs) Q6
 |str i=>
  obtain⟨t,rfl⟩:=rx;cases y with
  |non=>cases ry;exact PySem.EqNone.eq_str_none (bK I q (by simp))
  |bl j=>cases ry;exact PySem.EqMixed.eq_str_bool (bK I q (by simp))
  |int j=>obtain⟨t',rfl⟩:=ry;exact PySem.EqMixed.eq_str_int (bK I q (by simp))
  |str j=>obtain⟨t',rfl⟩:=ry;exact eq_str (bK I q zb)
  |_=>exact absurd (show false=true from hs) Q6
 |byt i=>
  obtain⟨t,rfl⟩:=rx;cases y with
  |byt j=>obtain⟨t',rfl⟩:=ry;exact PySem.W.eq_bytes (bK I q zd)
  |_=>exact absurd (show false=true from hs) Q6
 |_=>cases y<;>exact absurd (show false=true from hs) Q6
theorem v7:OpR X (compareOp .NotEq) rNe:=by
 intro pins s σ H x y v u Q I rx ry h;obtain⟨hs,q⟩:=h;cases x with
 |non=>
  cases rx;cases y with
  |non=>cases ry;exact PySem.EqNone.ne_none_none (bK I q (by simp))
  |bl j=>cases ry;exact PySem.EqNone.ne_none_bool (bK I q (by simp))
  |int j=>obtain⟨t',rfl⟩:=ry;exact PySem.EqNone.ne_none_int (bK I q (by simp))
  |str j=>obtain⟨t',rfl⟩:=ry;exact PySem.EqNone.ne_none_str (bK I q (by simp))
  |_=>exact absurd (show false=true from hs) Q6
 |bl i=>
  cases rx;cases y with
  |non=>cases ry;exact PySem.EqNone.ne_bool_none (bK I q (by simp))
  |bl j=>cases ry;exact ne_bool (bK I q (congrArg not CY))
  |str j=>obtain⟨t',rfl⟩:=ry;exact PySem.EqMixed.ne_bool_str (bK I q (by simp))
  |_=>exact absurd (show false=true from hs) Q6
 |int i=>
  obtain⟨t,rfl⟩:=rx;cases y with
  |non=>cases ry;exact PySem.EqNone.ne_int_none (bK I q (by simp))
  |int j=>obtain⟨t',rfl⟩:=ry;exact ne_int (bK I q (congrArg not zc))
  |str j=>obtain⟨t',rfl⟩:=ry;exact PySem.EqMixed.ne_int_str (bK I q (by simp))
  |_=>exact absurd (show false=true from hs) Q6
 |str i=>
  obtain⟨t,rfl⟩:=rx;cases y with
  |non=>cases ry;exact PySem.EqNone.ne_str_none (bK I q (by simp))
  |bl j=>cases ry;exact PySem.EqMixed.ne_str_bool (bK I q (by simp))
  |int j=>obtain⟨t',rfl⟩:=ry;exact PySem.EqMixed.ne_str_int (bK I q (by simp))
  |str j=>obtain⟨t',rfl⟩:=ry;exact ne_str (bK I q (congrArg not zb))
  |_=>exact absurd (show false=true from hs) Q6
 |byt i=>
  obtain⟨t,rfl⟩:=rx;cases y with
  |byt j=>obtain⟨t',rfl⟩:=ry;exact PySem.W.ne_bytes (bK I q (congrArg not zd))
  |_=>exact absurd (show false=true from hs) Q6
 |_=>cases y<;>exact absurd (show false=true from hs) Q6
def A6:OpR X (compareOp .Lt) (rI0 fun i j=>.bl (decide (i<j))):=Jl fun _ _ _ _ _ _ _ q=>lt_int q
def K9:OpR X (compareOp .LtE) (rI0 fun i j=>.bl (decide (i<=j))):=Jl fun _ _ _ _ _ _ _ q=>le_int q
def v8:OpR X (compareOp .Gt) (rI0 fun i j=>.bl (decide (j<i))):=Jl fun _ _ _ _ _ _ _ q=>gt_int q
def EW:OpR X (compareOp .GtE) (rI0 fun i j=>.bl (decide (j<=i))):=Jl fun _ _ _ _ _ _ _ q=>ge_int q
theorem uL:OpR X (compareOp .Is) (fun x y H Q=>y=.non/\Q (.bl (decide (x=.non))) H):=by
 intro pins s σ H x y v u Q I rx ry h;obtain⟨rfl,q⟩:=h;cases ry;refine is_none_gen (bK I q ?_);cases x<;>first
  |(cases rx;rfl)
  |(obtain⟨t,rfl⟩:=rx;rfl)
theorem EV:OpR X (compareOp .IsNot) (fun x y H Q=>y=.non/\Q (.bl (!decide (x=.non))) H):=by
 intro pins s σ H x y v u Q I rx ry h;obtain⟨rfl,q⟩:=h;cases ry;refine isnot_none_gen (bK I q ?_);cases x<;>first
  |(cases rx;rfl)
  |(obtain⟨t,rfl⟩:=rx;rfl)
theorem OpR.or{f:Q3->Q3->Sem Q3}{r r':R2}(h:OpR X f r)(h':OpR X f r'):OpR X f (fun x y H Q=>r x y H Q\/r' x y H Q):=by
 intro pins s σ H x y v u Q I rx ry q;rcases q with q|q
 ·exact h pins s σ H x y v u Q I rx ry q
 ·exact h' pins s σ H x y v u Q I rx ry q
theorem aX(b:QH){op:CmpOp}(h:op≠.In:=by decide)(h2:op≠.NotIn:=by decide):behindInMarks op b=false:=by
 have e1:(op == CmpOp.In)=false:=by cases op<;>first|rfl|exact absurd rfl h
 have e2:(op == CmpOp.NotIn)=false:=by cases op<;>first|rfl|exact absurd rfl h2
 cases b<;>simp[behindInMarks,e1,e2]
theorem EK{op:CmpOp}{r:R2}(ho:OpR X (compareOp op) r)(ha:PE X a ta)(hb:PE X b tb)(hm:behindInMarks op b=false):PE X (.Compare a [op] [b] pos) (tOp r ta tb):=by
 intro pins s σ H Q I h;exact wpAny_Compare1 (Lz ha hb I h fun v u s2 x y H2 I2 rx ry q=>ho pins s2 σ H2 x y v u Q I2 rx ry q) hm
def GW(t:TE):TT:=fun σ H Q=>t σ H fun x H'=>∃k,x=.bl k/\Q k H'
theorem Eu{op:CmpOp}{r:R2}(ho:OpR X (compareOp op) r)(ha:PE X a ta)(hb:PE X b tb)(hm:behindInMarks op b=false):PT X (.Compare a [op] [b] pos) (GW (tOp r ta tb)):=by
 intro pins s σ H Q I h;refine wpAny_isTrue_Compare1 (thn (ha pins s σ H _ I h) fun v s1 ⟨x,H1,I1,r1,q1⟩=>thn (hb pins s1 σ H1 _ I1 q1) fun u s2 ⟨y,H2,I2,r2,q2⟩=>
  thn (ho pins s2 σ H2 x y v u _ I2 r1 r2 q2) fun c s3 ⟨z,H3,I3,r3,k,e,q3⟩=>?_) hm
 subst e;cases r3;exact wpAny_truthy_bool ⟨H3,I3,q3⟩
def uQ:(QB:Nat)<2^63:=by rw[sizeLine_eq];decide
theorem wa:OpR X (binaryOp .Add) (fun x y H Q=>∃i j,x=.str i/\y=.str j/\i.length+j.length<=QB/\Q (.str (i++j)) H):=by
 intro pins s σ H x y v u Q I rx ry h;obtain⟨i,j,rfl,rfl,hz,q⟩:=h;obtain⟨t,rfl⟩:=rx;obtain⟨t',rfl⟩:=ry;exact add_str (fun t' tk=>⟨.str (i++j),H,I.tok _,⟨_,rfl⟩,q⟩) hz
theorem kC{x:V}{us:List Q3}(r:bR [x] us):∃u,us=[u]/\cE x u:=by
 cases r with
 |cons r1 r2=>cases r2;exact⟨_,rfl,r1⟩
theorem Am{x y:V}{us:List Q3}(r:bR [x,y] us):∃u w',us=[u,w']/\cE x u/\cE y w':=by
 cases r with
 |cons r1 r2=>
  cases r2 with
  |cons r3 r4=>cases r4;exact⟨_,_,rfl,r1,r3⟩
theorem zj(hc:X.calm=true):fD X (.builtin "max") (fun xs H Q=>∃i j,xs=[.int i,.int j]/\Q (.int (if j>i then j else i)) H):=by
 intro pins s σ H xs us Q I r h;obtain⟨i,j,rfl,q⟩:=h;obtain⟨u,w',rfl,⟨t,rfl⟩,⟨t',rfl⟩⟩:=Am r;refine max_two_ints (I.ok.hd hc) fun h' tk k=>⟨_,H,I.kept k,?_,q⟩;by_cases hj:j>i
 ·rw[if_pos hj,if_pos hj];exact⟨_,rfl⟩
 ·rw[if_neg hj,if_neg hj];exact⟨_,rfl⟩
theorem zi(hc:X.calm=true):fD X (.builtin "min") (fun xs H Q=>∃i j,xs=[.int i,.int j]/\Q (.int (if j<i then j else i)) H):=by
 intro pins s σ H xs us Q I r h;obtain⟨i,j,rfl,q⟩:=h;obtain⟨u,w',rfl,⟨t,rfl⟩,⟨t',rfl⟩⟩:=Am r;refine min_two_ints (I.ok.hd hc) fun h' tk k=>⟨_,H,I.kept k,?_,q⟩;by_cases hj:j<i
 ·rw[if_pos hj,if_pos hj];exact⟨_,rfl⟩
 ·rw[if_neg hj,if_neg hj];exact⟨_,rfl⟩
theorem rH:fD X (.type "int") (fun xs H Q=>(∃i,xs=[.int i]/\Q (.int i) H)\/∃k,xs=[.bl k]/\Q (.int (if k then 1 else 0)) H):=by
 intro pins s σ H xs us Q I r h;rcases h with⟨i,rfl,q⟩|⟨k,rfl,q⟩
 ·obtain⟨u,rfl,t,rfl⟩:=kC r;exact call_int_int ⟨.int i,H,I,⟨_,rfl⟩,q⟩
 ·obtain⟨u,rfl,r1⟩:=kC r;cases r1;exact call_int_bool ⟨.int (if k then 1 else 0),H,I.tok _,⟨_,rfl⟩,q⟩
end
structure FK(h:Heap)(x dx C:Addr)(mA:Str->Option Q3):Prop where
 obj:h.get? x=some (PySem.W.instObj C dx)
 ns:h.Ns1 dx mA
 ne:dx≠x
theorem yv{h:Heap}{dx:Addr}{mA:Str->Option Q3}(n:h.Ns1 dx mA):∃od,h.get? dx=some od/\∀name,PySem.W.lookIn name od=some (mA name):=by
 obtain⟨o,es,ep,ho,hd,hk,_,hm⟩:=n;refine⟨o,ho,fun name=>?_⟩;have e:=hm name;unfold nsFind findBy at e;rw[<-Array.find?_toList]at e;unfold PySem.W.lookIn;rw[hd];dsimp only;split
 ·rename_i y q;rw[q]at e;exact congrArg some e
 ·rename_i q;rw[q]at e;have a:es.toList.any (·.refKey)=false:=by
   rw[List.any_eq_false];intro y hy;obtain⟨z,t,hkey⟩:=hk y (Array.mem_toList_iff.mp hy);simp[DictEntry.refKey,hkey]
  have a':¬es.toList.any (·.refKey)=true:=by rw[a];exact Q6
  rw[if_neg a'];exact congrArg some e
theorem FK.look{h:Heap}{x dx C:Addr}{mA:Str->Option Q3}(I:FK h x dx C mA):∃od,PySem.W.InstAt h x (PySem.W.instObj C dx) C (some od)/\∀name,PySem.W.lookIn name od=some (mA name):=
 let ⟨od,ho,hl⟩:=yv I.ns
 ⟨od,⟨I.obj,rfl,rfl,ho⟩,hl⟩
section
variable{prog:Qx}{w:Qg}{A:Qd}{E:Q3->Q4->Prop}{s:Q4}{K:Q1}{x dx C f:Addr}{mA:Str->Option Q3}{name:Str}{v:Q3}
theorem Fq{expr:Bool}{Q:Q3->Q4->Prop}(X:K.In s.heap)(I:FK s.heap x dx C mA)(hg:PySem.W.plainGet K C name=true)(hh:PySem.W.hasDictIn K C=true)
  (ha:PySem.W.findIn K (.ref C) name=some none) (hv:mA name=some v) (hv':PySem.W.handedIn v=true) (h:Q v { s with toks:=s.toks+1 }) :
  wpAny (Qz prog w) A (getAttr (.ref x) name expr) Q E s:=by
 obtain⟨od,J,hl⟩:=I.look;exact PySem.W.get_value X J (PySem.W.plainGet_of hg).1 (PySem.W.findObj_own hh ha rfl (by rw[hl,hv])) hv' h
theorem BB{pl:Sem Bool}{Q:Q3×List Q3->Q4->Prop}(X:K.In s.heap)(I:FK s.heap x dx C mA)(hg:PySem.W.plainGet K C name=true)
  (hf:PySem.W.findIn K (.ref C) name=some (some (.ref f))) (ht:PySem.W.isFn K (.ref f)=true) (hv:mA name=none) (h:Q (.ref f,[.ref x]) s) :
  wpAny (Qz prog w) A (getMethod (.ref x) name pl) Q E s:=by
 obtain⟨od,J,hl⟩:=I.look;exact PySem.W.method_fn X J (PySem.W.plainGet_of hg).1 (PySem.W.plainGet_of hg).2 hf (beq_iff_eq.mp ht) (by show(PySem.W.lookIn name od).map (·.isSome)=some false;rw[hl,hv];rfl) h
theorem Ek{ns:List Str}{Q:Unit->Q4->Prop}(X:K.In s.heap)(I:FK s.heap x dx C mA)
  (hs:PySem.W.findIn K (.ref C) "__setattr__"=some (some (.builtin "object.__setattr__"))) (hp:PySem.W.plainOver K C=true) (ht:PySem.W.takerIn K C name=some none) (hh:PySem.W.hasDictIn K C=true)
  (hw:PySem.Within mA ns) (hsz:ns.length<=QB)
  (h:∀h',FK h' x dx C (fun y=>if y=name then some v else mA y)->Heap.SameBut dx s.heap h'->Q () { s with heap:=h',toks:=s.toks+2 }) :
  wpAny (Qz prog w) A (setAttr (.ref x) name v) Q E s:=by
 obtain⟨od,J,hl⟩:=I.look;refine PySem.W.set_plain X J hs (PySem.W.osa_open (s:={ s with toks:=s.toks+1 }) (r:=none) X J hp ht fun b=>?_);obtain⟨cd,hc,hd'⟩:=PySem.W.any_some hh;have hx:s.heap.get? x=some ⟨.ref C,some dx,.plain,#[]⟩:=I.obj;refine Q2 (QJ (Q2 (Q2 (wpAny_loadPart hx (Q2 (PySem.W.Looks.here (s:={ s with toks:=s.toks+1 }) (PySem.W.looks_clsIn X hc) ?_))))));rw[hd'];refine QJ (a:=some dx) (Q2 (QJ (Q2 ?_)));refine wpAny_nsSet1 (s:={ s with toks:=s.toks+1 }) I.ns fun h' hn2 hs2=>?_;obtain⟨oD,esD,epD,hoD,hdD,hcD⟩:=hn2.count (PySem.Within.cons name v hw);refine Q2 (wpAny_lookBehind hoD (by rw[hdD];exact pastItsLine_dict (Qp hcD (by rw[QV];omega))) ?_);exact QJ (h _ ⟨(hs2.2 _ (Ne.symm I.ne)).trans I.obj,hn2,I.ne⟩ hs2)
theorem Bg{R:Result->Q4->Prop}{vs:List Q3}{kw:List (Str×Q3)}(X:K.In s.heap)(hm:PySem.W.makesIn K C=true)
  (hi:PySem.W.findIn K (.ref C) "__init__"=some (some (.ref f))) (hf:PySem.W.typeIn K (.ref f)=some (.type "function"))
  (h:codeAny (Qz prog w) (A.under (.builtin "type.__call__" ⟨.ref C::vs,kw⟩)) (.call (.ref f) ⟨.ref (s.heap.objs.size+1)::vs,kw⟩) (PySem.W.InitBack (s.heap.objs.size+1) R)
   { s with heap:=(s.heap.push PySem.W.emptyDict).push (PySem.W.instObj C s.heap.objs.size) }) :
  codeAny (Qz prog w) A (.call (.ref C) ⟨vs,kw⟩) R s:=by
 obtain⟨hh,g,d,t,os⟩:=s;exact PySem.W.make_core (PySem.W.makes_of X hm) (PySem.W.looks_findIn X hi) (fun self=>PySem.W.bind_fn X self hf) (.inl rfl) h
end
def nq(f:Str)(v:V):List (Str×V)->List (Str×V)
 |[]=>[(f,v)]
 |(g,x)::r=>if g=f then(g,v)::r else(g,x)::nq f v r
theorem jA(f g:Str)(v:V):∀fs:List (Str×V),(nq f v fs).lookup g=if g=f then some v else fs.lookup g
 |[]=>by
  show List.lookup g [(f,v)]=_;by_cases h:g=f
  ·have hb:(g == f)=true:=beq_iff_eq.mpr h;simp only[List.lookup,hb,if_pos h]
  ·have hb:(g == f)=false:=beq_eq_false_iff_ne.mpr h;simp only[List.lookup,hb,if_neg h]
 |(k,x)::r=>by
  have ih:=jA f g v r;rw[show nq f v ((k,x)::r)=(if k=f then(k,v)::r else(k,x)::nq f v r)from rfl];by_cases hk:k=f
  ·rw[if_pos hk];by_cases h:g=k
   ·have hb:(g == k)=true:=beq_iff_eq.mpr h;simp only[List.lookup,hb,if_pos (h.trans hk)]
   ·have hb:(g == k)=false:=beq_eq_false_iff_ne.mpr h;simp only[List.lookup,hb,if_neg (fun e:g=f=>h (e.trans hk.symm))]
  ·rw[if_neg hk];by_cases h:g=k
   ·have hb:(g == k)=true:=beq_iff_eq.mpr h;simp only[List.lookup,hb,if_neg (fun e:g=f=>hk (h.symm.trans e))]
   ·have hb:(g == k)=false:=beq_eq_false_iff_ne.mpr h;simp only[List.lookup,hb];exact ih
theorem fT(f:Str)(v:V):∀fs:List (Str×V),f∈(nq f v fs).map (·.1)/\∀g,g∈fs.map (·.1)->g∈(nq f v fs).map (·.1)
 |[]=>⟨by simp[nq],fun g h=>by simp at h⟩
 |(k,x)::r=>by
  obtain⟨i1,i2⟩:=fT f v r;rw[show nq f v ((k,x)::r)=(if k=f then(k,v)::r else(k,x)::nq f v r)from rfl];by_cases hk:k=f
  ·rw[if_pos hk];subst hk;exact⟨by simp,fun g h=>by simpa using h⟩
  ·rw[if_neg hk];refine⟨?_,fun g h=>?_⟩
   ·rw[QF];exact QX _ i1
   ·rw[QF]at h ⊢;rcases Qq.mp h with e|e
    ·exact Qq.mpr (.inl e)
    ·exact QX _ (i2 g e)
theorem mH(f:Str)(v:V):∀fs:List (Str×V),(nq f v fs).length<=fs.length+1
 |[]=>by simp[nq]
 |(k,x)::r=>by
  have ih:=mH f v r;rw[show nq f v ((k,x)::r)=(if k=f then(k,v)::r else(k,x)::nq f v r)from rfl];by_cases hk:k=f
  ·rw[if_pos hk,QV,QV];omega
  ·rw[if_neg hk,QV,QV];omega
theorem pX.some_of{v:V}{o:Option Q3}(r:pX (some v) o):∃u,o=some u/\cE v u:=by
 cases o with
 |none=>exact(show False from r).elim
 |some u=>exact⟨u,rfl,r⟩
theorem pX.none_of{o:Option Q3}(r:pX none o):o=none:=by
 cases o with
 |none=>rfl
 |some u=>exact(show False from r).elim
theorem yS{v:V}{u:Q3}(r:cE v u):PySem.W.handedIn u=true:=by
 cases v with
 |non=>cases (show u=Value.none from r);rfl
 |bl b=>cases (show u=Value.bool b from r);rfl
 |int i=>obtain⟨t,e⟩:=(show ∃t,u=Value.int i t from r);cases e;rfl
 |str x=>obtain⟨t,e⟩:=(show ∃t,u=Value.str x t from r);cases e;rfl
 |byt b=>obtain⟨t,e⟩:=(show ∃t,u=Value.bytes b t from r);cases e;rfl
 |flt b=>obtain⟨t,e⟩:=(show ∃t,u=Value.float b t from r);cases e;rfl
 |ref a=>cases (show u=Value.ref a from r);rfl
 |ty n=>cases (show u=Value.type n from r);rfl
section
variable{P:Qx}{w:Qg}{H:Hp}{h:Heap}{a C dx:Addr}{fs:List (Str×V)}
theorem o7(hok:HOk P w H h)(e:H a=some (.ins C dx fs)):∃mA,FK h a dx C mA/\(∀f,pX (fs.lookup f) (mA f))/\PySem.Within mA (fs.map (·.1))/\fs.length<=1000/\H dx=some (.own a):=by
 obtain⟨d,z,ne,ob,mA,n,r,q⟩:=(show dr P w H h a (.ins C dx fs)from hok a _ e);exact⟨mA,⟨ob,n,ne⟩,r,q,z,d⟩
end
structure Cls(K:Q1)(C:Addr):Prop where
 pg:PySem.W.plainGet K C Str.empty=true
 hd:PySem.W.hasDictIn K C=true
 po:PySem.W.plainOver K C=true
 sa:PySem.W.findIn K (.ref C) "__setattr__"=some (some (.builtin "object.__setattr__"))
def Cls.get{K:Q1}{C:Addr}(c:Cls K C)(f:Str):PySem.W.plainGet K C f=true:=c.pg
def js(K:Q1)(C:Addr)(f:Str):Prop:=PySem.W.findIn K (.ref C) f=some none
theorem js.taker{K:Q1}{C:Addr}{f:Str}(n:js K C f):PySem.W.takerIn K C f=some none:=by
 unfold PySem.W.takerIn;rw[show PySem.W.findIn K (.ref C) f=some none from n];rfl
structure FL(K:Q1)(C:Addr)(m:Str)(f:Addr):Prop where
 at_:PySem.W.findIn K (.ref C) m=some (some (.ref f))
 fn:PySem.W.isFn K (.ref f)=true
 kp:PySem.W.keepIn K (.ref f)=true
section
variable{X:Cx}{pins:List (Addr×Obj)}{σ:St}{H:Hp}{s:Q4}{a C dx:Addr}{fs:List (Str×V)}{f:Str}{v:V}{A:Qd}{E:Q3->Q4->Prop}
theorem wy{b:Bool}{Q:Q3->Q4->Prop}(I:Inv X pins σ H s)(e:H a=some (.ins C dx fs))(c:Cls X.K C)(n:js X.K C f)(l:fs.lookup f=some v)
  (h:∀u s',Inv X pins σ H s'->cE v u->Q u s'):wpAny (Qz X.prog X.w) A (getAttr (.ref a) f b) Q E s:=by
 obtain⟨mA,O,r,_,_,_⟩:=o7 I.hok e;obtain⟨u,hu,ru⟩:=pX.some_of (v:=v) (o:=mA f) (by rw[<-l];exact r f);exact Fq I.kIn O (c.get f) c.hd n hu (yS ru) (h u _ (I.tok _) ru)
theorem n8{m:Str}{g:Addr}{pl:Sem Bool}{Q:Q3×List Q3->Q4->Prop}(I:Inv X pins σ H s)(e:H a=some (.ins C dx fs))(c:Cls X.K C)(k:FL X.K C m g)(l:fs.lookup m=none)
  (h:Q (.ref g,[.ref a]) s):wpAny (Qz X.prog X.w) A (getMethod (.ref a) m pl) Q E s:=by
 obtain⟨mA,O,r,_,_,_⟩:=o7 I.hok e;have hn:mA m=none:=pX.none_of (by rw[<-l];exact r m);exact BB I.kIn O (c.get m) k.at_ k.fn hn h
theorem vR{y:V}{u:Q3}{Q:Unit->Q4->Prop}(I:Inv X pins σ H s)(e:H a=some (.ins C dx fs))(c:Cls X.K C)(n:js X.K C f)(hl:fs.length<1000)(ry:cE y u)
  (h:∀s',Inv X pins σ (upd H a (.ins C dx (nq f y fs))) s'->Q () s'):wpAny (Qz X.prog X.w) A (setAttr (.ref a) f u) Q E s:=by
 obtain⟨mA,O,r,wi,_,ho⟩:=o7 I.hok e;have hz:(fs.map (·.1)).length<=QB:=by rw[Q8,sizeLine_eq];omega
 refine Ek I.kIn O c.sa c.po n.taker c.hd wi hz fun h' O' sb=>h _ ?_;have hd:∃o,h'.get? dx=some o:=let ⟨o,_,_,e',_⟩:=O'.ns;⟨o,e'⟩
 refine I.write (x:=a) (e:=dx) (by rw[e];exact True.intro) (.inr ho) (fun b q hb z=>(sb.2 b hb).trans z) hd ?_;refine⟨by rw[aP O.ne];exact ho,?_,O.ne,O'.obj,_,O'.ns,fun g=>?_,fun g hg=>?_⟩
 ·have:=mH f y fs;omega
 ·show pX ((nq f y fs).lookup g) (if g=f then some u else mA g);rw[jA];by_cases q:g=f
  ·rw[if_pos q,if_pos q];exact ry
  ·rw[if_neg q,if_neg q];exact r g
 ·by_cases q:g=f
  ·rw[q];exact(fT f y fs).1
  ·refine(fT f y fs).2 g (wi g fun z=>hg ?_);show(if g=f then some u else mA g)=none;rw[if_neg q];exact z
theorem Inv.made(I:Inv X pins σ H s):Inv X pins σ (upd (upd H s.heap.objs.size (.own (s.heap.objs.size+1))) (s.heap.objs.size+1) (.ins C s.heap.objs.size []))
  { s with heap:=(s.heap.push PySem.W.emptyDict).push (PySem.W.instObj C s.heap.objs.size) }:=by
 have e1:(s.heap.push PySem.W.emptyDict).get? s.heap.objs.size=some PySem.W.emptyDict:=QM s.heap rfl;have e2:((s.heap.push PySem.W.emptyDict).push (PySem.W.instObj C s.heap.objs.size)).get? (s.heap.objs.size+1)=some (PySem.W.instObj C s.heap.objs.size):=by
  have:=QM (s.heap.push PySem.W.emptyDict) (o:=PySem.W.instObj C s.heap.objs.size) rfl;rwa[Zc]at this
 have e3:(s.heap.push PySem.W.emptyDict).Ns s.heap.objs.size (fun _=>none):=⟨PySem.W.emptyDict,#[],_,e1,rfl,(fun e he=>absurd he (by simp)),fun _=>rfl⟩;have I1:=I.laid (a:=s.heap.objs.size) (o:=.own (s.heap.objs.size+1)) (h':=s.heap.push PySem.W.emptyDict) (t':=s.toks) (fun b u q=>Q5 _ q) (QQ _) ⟨_,e1⟩;refine I1.laid (a:=s.heap.objs.size+1) (o:=.ins C s.heap.objs.size []) (t':=s.toks) (fun b u q=>Q5 _ q) (Nat.le_of_eq (Zc _ _)) ?_;have ne:s.heap.objs.size≠s.heap.objs.size+1:=Qj (Nat.lt_succ_self _);refine⟨by rw[aP ne,aL],ZZ _,ne,e2,fun _=>none,(Heap.Ns1.of_empty e3).at fun o q=>Q5 _ q,fun _=>True.intro,fun y hy=>absurd rfl hy⟩
theorem FH{prog:Qx}{w:Qg}{env:Env}{e:QH}{f:Str}{pos:Pos}{s:Q4}{Q:Q3->Q4->Prop}(hb:attributeBase e f env (eval e env)=eval e env)
  (h:wpAny (Qz prog w) A (eval e env) (fun o s₁=>wpAny (Qz prog w) A (getAttr o f true) Q E s₁) E s):wpAny (Qz prog w) A (eval (.Attribute e f pos) env) Q E s:=
 Attribute_any_ h (by rw[arm_eval_Attribute,hb])
end
def LS(K:Q1)(ta:TE)(f:Str):TE:=fun σ H Q=>ta σ H fun x H1=>∃a C dx fs v,x=.ref a/\H1 a=some (.ins C dx fs)/\Cls K C/\js K C f/\fs.lookup f=some v/\Q v H1
def LV(K:Q1)(ta tv:TE)(f:Str):TS:=fun D σ H=>tv σ H fun y H1=>ta σ H1 fun x H2=>∃a C dx fs,x=.ref a/\H2 a=some (.ins C dx fs)/\Cls K C/\js K C f/\fs.length<1000/\
 D.nx σ (upd H2 a (.ins C dx (nq f y fs)))
section
variable{X:Cx}{o e value:QH}{f:Str}{pos pos':Pos}{ta tv:TE}
theorem HL(he:PE X e ta)(hb:attributeBase e f X.env (eval e X.env)=eval e X.env):PE X (.Attribute e f pos) (LS X.K ta f):=by
 intro pins s σ H Q I h;refine FH hb (thn (he pins s σ H _ I h) fun u s1 hz=>?_);obtain⟨x,H1,I1,rx,a,C,dx,fs,v,ex,ea,c,n,l,q⟩:=hz;subst ex;obtain rfl:u=Value.ref a:=rx;exact wy I1 ea c n l fun u' s2 I2 ru=>⟨v,H1,I2,ru,q⟩
theorem Hy(ha:PE X o ta)(hv:PE X value tv)(hs:ZT value (some (.Attribute o f pos')) pos.line X.env=pure false):PS X (.Assign [.Attribute o f pos'] value pos) (LV X.K ta tv f):=by
 intro pins s σ H D I h;refine plainObj_wpAny_Assign_Attribute (thn (hv pins s σ H _ I h) fun u s1 ⟨y,H1,I1,ry,q⟩=>thn (ha pins s1 σ H1 _ I1 q) fun ov s2 hz=>?_) hs;obtain⟨x,H2,I2,rx,a,C,dx,fs,ex,ea,c,n,l,q2⟩:=hz;subst ex;obtain rfl:ov=Value.ref a:=rx;exact vR I2 ea c n l ry fun s3 I3=>⟨σ,_,I3,q2⟩
end
section
variable{X:Cx}{pins:List (Addr×Obj)}{σ:St}{H:Hp}{s:Q4}{A:Qd}{E:Q3->Q4->Prop}{Q:Q3->Q4->Prop}{c:Q3}{b:Bool}
inductive vA(K:Q1)(H:Hp):V->Q3->Prop where
 |non:vA K H .non (.type "NoneType")
 |bl (x:Bool):vA K H (.bl x) (.type "bool")
 |int (i:Int):vA K H (.int i) (.type "int")
 |str (x:Str):vA K H (.str x) (.type "str")
 |flt (x:UInt64):vA K H (.flt x) (.type "float")
 |lst {a:Addr} {xs:List V} (e:H a=some (.lst xs)):vA K H (.ref a) (.type "list")
 |frz {a:Addr} {o:Obj} {xs:List V} (e:H a=some (.frz o (.lst xs))):vA K H (.ref a) (.type "list")
 |tup {a:Addr} {xs:List V} (e:H a=some (.tup xs)):vA K H (.ref a) (.type "tuple")
 |dK {a:Addr} {kvs:List (Key×V)} (e:H a=some (.dK kvs)):vA K H (.ref a) (.type "dict")
 |dT {a:Addr} {kvs:List (List Key×V)} (e:H a=some (.dT kvs)):vA K H (.ref a) (.type "dict")
 | ins {a C dx:Addr} {fs:List (Str×V)} (e:H a=some (.ins C dx fs)) (cl:Cls K C) (ha:PySem.W.findIn K (.ref C) "__class__"=some (some (.builtin "object.__class__")))
   (hn:PySem.W.specialIn K (.builtin "object.__class__") "__get__"=some (some (.builtin "getset_descriptor.__get__"))) (htk:PySem.W.takesIn K (.builtin "object.__class__")=some true)
   (hm:PySem.W.mroIn K C (.type "object")=some true):vA K H (.ref a) (.ref C)
theorem yK{x:V}{u t:Q3}(I:Inv X pins σ H s)(rx:cE x u)(ty:vA X.K H x t)(e:PySem.W.kitOne X.K t c=some b)(h:∀tk,Q (.bool b) { s with toks:=tk }) :
  wpAny (Qz X.prog X.w) A (call (.builtin "isinstance") [u,c]) Q E s:=by
 cases ty with
 |non=>cases (show u=Value.none from rx);exact PySem.W.kia_one PySem.W.kitx_none I.kIn True.intro e (fun z=>nomatch z) h
 |bl y=>cases (show u=Value.bool y from rx);exact PySem.W.kia_one PySem.W.kitx_bool I.kIn True.intro e (fun z=>nomatch z) h
 |int i=>obtain⟨t,q⟩:=(show ∃t,u=Value.int i t from rx);cases q;exact PySem.W.kia_one PySem.W.kitx_int I.kIn True.intro e (fun z=>nomatch z) h
 |str y=>obtain⟨t,q⟩:=(show ∃t,u=Value.str y t from rx);cases q;exact PySem.W.kia_one PySem.W.kitx_str I.kIn True.intro e (fun z=>nomatch z) h
 |flt y=>obtain⟨t,q⟩:=(show ∃t,u=Value.float y t from rx);cases q;exact PySem.W.kia_one PySem.W.kitx_float I.kIn True.intro e (fun z=>nomatch z) h
 |@lst a xs ea=>
  cases (show u=Value.ref a from rx);obtain⟨_,_,n,_,h1⟩:=(show dr X.prog X.w H s.heap a (.lst xs)from I.hok a _ ea);exact PySem.W.kia_one PySem.W.kitx_list I.kIn ⟨_,h1,rfl⟩ e (fun z=>nomatch z) h
 |@frz a ob xs ea=>
  cases (show u=Value.ref a from rx);obtain⟨_,_,_,n,_,h1⟩:=(show dr X.prog X.w H s.heap a (.frz ob (.lst xs))from I.hok a _ ea);exact PySem.W.kia_one PySem.W.kitx_list I.kIn ⟨_,h1,rfl⟩ e (fun z=>nomatch z) h
 |@tup a xs ea=>
  cases (show u=Value.ref a from rx);obtain⟨_,_,_,p⟩:=(show dr X.prog X.w H s.heap a (.tup xs)from I.hok a _ ea);obtain⟨o,h1,h2,_⟩:=p;exact PySem.W.kia_one PySem.W.kitx_tuple I.kIn ⟨o,h1,h2⟩ e (fun z=>nomatch z) h
 |@dK a kvs ea=>
  cases (show u=Value.ref a from rx);obtain⟨_,_,vs,_,p⟩:=(show dr X.prog X.w H s.heap a (.dK kvs)from I.hok a _ ea);obtain⟨o,es,ep,h1,h2,_⟩:=p;exact PySem.W.kia_one PySem.W.kitx_dict I.kIn ⟨o,h1,h2.1⟩ e (fun z=>nomatch z) h
 |@dT a kvs ea=>
  cases (show u=Value.ref a from rx);obtain⟨_,_,xs,_,o,es,ep,h1,h2,_⟩:=(show dr X.prog X.w H s.heap a (.dT kvs)from I.hok a _ ea);exact PySem.W.kia_one PySem.W.kitx_dict I.kIn ⟨o,h1,h2.1⟩ e (fun z=>nomatch z) h
 |@ins a C dx fs ea cl ha hn htk hm=>
  cases (show u=Value.ref a from rx);obtain⟨mA,O,_⟩:=o7 I.hok ea;obtain⟨od,J,_⟩:=O.look;exact PySem.W.kia_one (PySem.W.kitx_own (cl.get _) cl.hd ha hn htk hm) I.kIn J e (fun z=>nomatch z) h
end
structure fY(k:Nat)(A:Qd):Prop where
 hd:A.handled=none
 dp:A.depth+3*k+5<recursionLimit
 un:A.units+16*k+200<cLine
 gd:A.guards=some []
def fY.mono{j k:Nat}{A:Qd}(r:fY k A)(h:j<=k):fY j A:=⟨r.hd,by have:=r.dp;omega,by have:=r.un;omega,r.gd⟩
theorem fY.deeper{k:Nat}{A:Qd}(r:fY (k+1) A)(env:Env):fY k (A.deeper env):=
 ⟨r.hd,by have:=r.dp;show A.depth+1+3*k+5<_;omega,by have:=r.un;show A.units+3+16*k+200<_;omega,r.gd⟩
theorem fY.in1{k:Nat}{A:Qd}(r:fY (k+1) A):fY k A.in1:=
 ⟨r.hd,by have:=r.dp;show A.depth+3*k+5<_;omega,by have:=r.un;show A.units+1+16*k+200<_;omega,r.gd⟩
theorem wj{A:Qd}{C:Addr}{us:List Q3}{kw:List (Str×Q3)}:(A.under (.builtin "type.__call__" ⟨.ref C::us,kw⟩)).depth=A.depth+1:=by
 first|rfl|simp[Around.under,Code.weight,Code.isCreation,Code.isGuard,Code.isCaller,Code.frames,Code.isFrame,guardIds]
theorem we{A:Qd}{C:Addr}{us:List Q3}{kw:List (Str×Q3)}:(A.under (.builtin "type.__call__" ⟨.ref C::us,kw⟩)).units=A.units+1:=by
 first|rfl|simp[Around.under,Code.cUnits,Code.frames,Code.isFrame]
theorem fY.make{k:Nat}{A:Qd}(r:fY (k+1) A)(C:Addr)(us:List Q3)(kw:List (Str×Q3)):fY k (A.under (.builtin "type.__call__" ⟨.ref C::us,kw⟩)):=
 ⟨r.hd,by have:=r.dp;rw[wj];omega,by have:=r.un;rw[we];omega,r.gd⟩
def fY.depth{k:Nat}{A:Qd}(r:fY k A):A.depth<recursionLimit:=by have:=r.dp;omega
def fY.units{k:Nat}{A:Qd}(r:fY k A):A.units+64<cLine:=by have:=r.un;omega
def GZ:TA:=fun _ H Q=>Q [] H
def Ec(ta:TE)(tr:TA):TA:=fun σ H Q=>ta σ H fun x H1=>tr σ H1 fun xs H2=>Q (x::xs) H2
section
variable{X:Cx}{e:QH}{es:List QH}{te:TE}{t:TA}{pos:Pos}
def HP:PA X [] GZ:=fun _ _ _ _ H Q I h=>Calls.spliced_nil ⟨[],H,I,.nil,h⟩
theorem EO(ha:PE X e te)(hr:PA X es t)(hs:QR (e::es) X.env=(false,eval e X.env)::QR es X.env:=by rfl):PA X (e::es) (Ec te t):=by
 intro pos pins s σ H Q I h;rw[hs];show wpAny _ _ (spliced ((false,eval e X.env)::Z9 pos (QR es X.env))) _ _ s;refine Calls.spliced_cons (thn (ha pins s σ H _ I h) fun u s1 hz=>?_);obtain⟨x,H1,I1,r1,q1⟩:=hz;exact thn (hr pos pins s1 σ H1 _ I1 q1) fun us s2 ⟨xs,H2,I2,r2,q2⟩=>⟨x::xs,H2,I2,.cons r1 r2,q2⟩
def LL(t:TA):TE:=fun σ H Q=>t σ H fun xs H1=>xs.length<=QB/\∀p,H1 p=none->Q (.ref p) (upd H1 p (.tup xs))
def LQ(t:TA):TE:=fun σ H Q=>t σ H fun xs H1=>xs.length<=QB/\∀p,H1 p=none->Q (.ref p) (upd H1 p (.lst xs))
theorem HE{x1}(h:PA X es t):PE X (.Tuple es x1 pos) (LL t):=by
 intro pins s σ H Q I hq;refine wpAny_Tuple_spliced (thn (h pos pins s σ H _ I hq) fun us s1 ⟨xs,H1,I1,r,z,q⟩=>⟨by rw[<-r.length];exact z,?_⟩);have hf:H1 s1.heap.objs.size=none:=I1.hok.fresh (QQ _);refine⟨.ref s1.heap.objs.size,upd H1 s1.heap.objs.size (.tup xs),I1.laid (t':=s1.toks) (fun b u e=>Q5 _ e) (QQ _) ?_,rfl,q _ hf⟩;exact⟨z,us,r,⟨_,QM _ rfl,rfl,_,rfl⟩⟩
theorem HJ(h:PA X es t):PE X (.List es pos) (LQ t):=by
 intro pins s σ H Q I hq;refine wpAny_List_spliced (thn (h pos pins s σ H _ I hq) fun us s1 ⟨xs,H1,I1,r,z,q⟩=>⟨by rw[<-r.length];exact z,?_⟩);have hf:H1 s1.heap.objs.size=none:=I1.hok.fresh (QQ _);refine⟨.ref s1.heap.objs.size,upd H1 s1.heap.objs.size (.lst xs),I1.laid (t':=s1.toks) (fun b u e=>Q5 _ e) (QQ _) ?_,rfl,q _ hf⟩;exact⟨z,us,0,r,QM _ rfl⟩
end
abbrev Sp:=List V->Hp->VK->XK->Prop
abbrev CXT:=List Env->Hp->Q4->XK->Q3->Q4->Prop
structure t7(P:Qx)(w:Qg)(K:Q1)(mg:Str->Option Q3)(base:Heap)(A:Qd)(outer:List Env)(s:Q4)(H:Hp):Prop where
 frames:A.frames=some outer
 mod:Mod K mg base
 bs:∀b o,base.get? b=some o->s.heap.get? b=some o/\H b=none
 bsz:base.objs.size<=s.heap.objs.size
 funs:s.heap.FunFrames base outer
 frf:∀b∈frs outer,H b=none
 hok:HOk P w H s.heap
 bare:AllBare s.gens
def CE(outer:List Env)(P:Qx)(w:Qg)(H:Hp)(s:Q4)(Q:VK)(u:Q3)(s':Q4):Prop:=
 ∃v H',s'.os=s.os/\AllBare s'.gens/\Un (frs outer) [] H H' s.heap s'.heap/\HOk P w H' s'.heap/\cE v u/\Q v H'
def CR(CX:CXT)(outer:List Env)(P:Qx)(w:Qg)(H:Hp)(s:Q4)(Q:VK)(E:XK)(r:Result)(s':Q4):Prop:=
 match r with
 |.ok (.ret u)=>CE outer P w H s Q u s'
 |.ok _=>False
 |.error e=>CX outer H s E e s'
structure lF(P:Qx)(w:Qg)(K:Q1)(mg:Str->Option Q3)(base:Heap)(CX:CXT)(k:Nat)(f:Addr)(fd:ZP)(ps:List Str)(sp:Sp):Prop where
 len:∀vs H Q E,sp vs H Q E->vs.length=ps.length
 run:∀(A:Qd) (outer:List Env) (s:Q4) (H:Hp) (args:Args) (us:List Q3) (vs:List V) (Q:VK) (E:XK),fY k A->t7 P w K mg base A outer s H->BindsTo s fd args (ps.zip us)->bR vs us->sp vs H Q E->
  codeAny (Qz P w) A (.call (.ref f) args) (CR CX outer P w H s Q E) s
theorem lF.mono{P:Qx}{w:Qg}{K:Q1}{mg:Str->Option Q3}{base:Heap}{CX:CXT}{j k:Nat}{f:Addr}{fd:ZP}{ps:List Str}{sp:Sp}(F:lF P w K mg base CX j f fd ps sp)(h:j<=k) :
  lF P w K mg base CX k f fd ps sp:=⟨F.len,fun A outer s H args us vs Q E hr=>F.run A outer s H args us vs Q E (hr.mono h)⟩
theorem t7.make{P:Qx}{w:Qg}{K:Q1}{mg:Str->Option Q3}{base:Heap}{A:Qd}{outer:List Env}{s:Q4}{H:Hp}(e:t7 P w K mg base A outer s H)(C:Addr)(us:List Q3)(kw:List (Str×Q3)) :
  t7 P w K mg base (A.under (.builtin "type.__call__" ⟨.ref C::us,kw⟩)) outer s H:=⟨by first|exact e.frames|(simpa [Around.under,Code.envs,Code.isFrame,pushEnvs] using e.frames),e.mod,e.bs,e.bsz,e.funs,e.frf,e.hok,e.bare⟩
theorem t7.in1{P:Qx}{w:Qg}{K:Q1}{mg:Str->Option Q3}{base:Heap}{A:Qd}{outer:List Env}{s:Q4}{H:Hp}(e:t7 P w K mg base A outer s H) :
  t7 P w K mg base A.in1 outer s H:=⟨e.frames,e.mod,e.bs,e.bsz,e.funs,e.frf,e.hok,e.bare⟩
section
variable{X:Cx}{pins:List (Addr×Obj)}{σ:St}{H:Hp}{s s':Q4}
theorem Inv.env0(I:Inv X pins σ H s):t7 X.prog X.w X.K X.mg X.base X.A X.stack s H:=
 ⟨I.ok.frames,I.ok.mod,I.bs,Qp I.ok.bsz I.sz,I.stack,I.stkFree,I.hok,I.bare⟩
theorem Inv.after{Q:VK}{u:Q3}(I:Inv X pins σ H s)(h:CE X.stack X.prog X.w H s Q u s'):EP X pins σ Q u s':=by
 obtain⟨v,H',os,bare,un,hok,r,q⟩:=h;obtain⟨hh,g,d,t,os'⟩:=s';obtain rfl:os'=s.os:=os;exact⟨v,H',I.call (h':=hh) (g':=g) (d':=d) (t':=t) (ch:=[]) un hok bare (fun b z=>absurd z (by simp)),r,q⟩
end
def G8(sp:Sp)(dvs:List V)(E:XK)(t:TA):TE:=fun σ H Q=>t σ H fun vs H1=>sp (vs++dvs) H1 Q E
def xy(C:Addr)(m:Str)(sp:Sp)(dvs:List V)(E:XK)(ta:TE)(t:TA):TE:=fun σ H Q=>ta σ H fun x H1=>∃a dx fs,x=.ref a/\H1 a=some (.ins C dx fs)/\fs.lookup m=none/\
 t σ H1 fun vs H2=>sp (x::(vs++dvs)) H2 Q E
def Eb(C:Addr)(sp:Sp)(dvs:List V)(E:XK)(t:TA):TE:=fun σ H Q=>t σ H fun vs H1=>∀x dx,H1 x=none->H1 dx=none->dx≠x->
 sp (.ref x::(vs++dvs)) (upd (upd H1 dx (.own x)) x (.ins C dx [])) (fun v H2=>v=.non/\Q (.ref x) H2) E
def ig(K:Q1)(fd:ZP)(ps:List Str)(ds:List Q3):Prop:=
 ∀(s:Q4) (us:List Q3),K.In s.heap->(us++ds).length=ps.length->BindsTo s fd ⟨us,[]⟩ (ps.zip (us++ds))
theorem ig.all{K:Q1}{fd:ZP}{ps:List Str}(h:∀us:List Q3,us.length=ps.length->bindArgs fd ⟨us,[]⟩=pure (ps.zip us)):ig K fd ps []:=fun s us _ hl=>by
 rw[ZV]at hl ⊢;exact .of_eq (h us hl)
def jq(CX:CXT)(X:Cx)(E:XK):Prop:=∀(pins:List (Addr×Obj)) (σ:St) (H:Hp) (s:Q4) (e:Q3) (s':Q4),Inv X pins σ H s->CX X.stack H s E e s'->X.xe e s'
section
variable{X:Cx}{CX:CXT}{k:Nat}{f C:Addr}{fd:ZP}{ps:List Str}{sp:Sp}{dvs:List V}{ds:List Q3}{E:XK}{x m:Str}{p pos apos:Pos}{e o:QH}{es:List QH}{ta:TE}{t:TA}
theorem xH{pins:List (Addr×Obj)}{σ:St}{H:Hp}{s:Q4}{Q:VK}{us:List Q3}{vs:List V}(F:lF X.prog X.w X.K X.mg X.base CX k f fd ps sp)(hr:fY k X.A)(hb:ig X.K fd ps ds)(hd:bR dvs ds)(hx:jq CX X E)
  (I:Inv X pins σ H s) (r:bR vs us) (h:sp (vs++dvs) H Q E):wpAny (Qz X.prog X.w) X.A (call (.ref f) us) (EP X pins σ Q) X.xe s:=by
 have r2:bR (vs++dvs) (us++ds):=r.append hd;have hl:(us++ds).length=ps.length:=by rw[<-r2.length];exact F.len _ _ _ _ h
 refine wpAny_call (codeAny_mono (F.run X.A X.stack s H ⟨us,[]⟩ (us++ds) (vs++dvs) Q E hr I.env0 (hb s us I.kIn hl) r2 h) fun r s' hq=>?_);cases r with
 |error e=>exact hx pins σ H s e s' I hq
 |ok fl=>
  cases fl with
  |ret u=>exact I.after hq
  |next=>exact False.elim hq
  |brk=>exact False.elim hq
  |cont=>exact False.elim hq
theorem EL(F:lF X.prog X.w X.K X.mg X.base CX k f fd ps sp)(hr:fY k X.A)(hg:Gl X x)(hm:X.mg x=some (.ref f))(hk:PySem.W.keepIn X.K (.ref f)=true)(hb:ig X.K fd ps ds)(hd:bR dvs ds)(hx:jq CX X E)
  (ha:PA X (e::es) t) (hdb:(x == ("__debug__":Str))=false:=by decide) (he:QR (e::es) X.env=(false,eval e X.env)::QR es X.env:=by rfl) (hpl:(Z9 pos (QR es X.env)).any (·.1)=false:=by rfl) :
  PE X (.Call (.Name x p) (e::es) [] pos) (G8 sp dvs E t):=by
 intro pins s σ H Q I h;refine wpAny_Call_Name_kw (yx I hg hm ?_ hdb);refine PySem.W.callWith_K (h₀:=X.base) I.ok.mod.kin hk (thn (ha pos pins s σ H _ I h) fun us s1 ⟨vs,H1,I1,r,q⟩=>⟨I1.kIn,?_⟩) he hpl;exact xH F hr hb hd hx I1 r q
theorem EG{pl:Sem Bool}(he:PE X o ta)(c:Cls X.K C)(hm:FL X.K C m f)(F:lF X.prog X.w X.K X.mg X.base CX k f fd ps sp)(hr:fY k X.A)(hb:ig X.K fd ps ds)(hd:bR dvs ds)(hx:jq CX X E)(ha:PA X (e::es) t)
  (hst:QR (e::es) X.env=(false,eval e X.env)::QR es X.env:=by rfl) (hpl:(Z9 pos (QR es X.env)).any (·.1)=false:=by rfl)
  (ht:eval (.Call (.Attribute o m apos) (e::es) [] pos) X.env=(do
   let ov <-eval o X.env
   standAt apos.atName
   let (f,first) <-holding [ov] (getMethod ov m pl)
   callWith pos f first (Z9 pos (QR (e::es) X.env)) (backToKw pos (keywordEach [] X.env))):=by rfl) :
  PE X (.Call (.Attribute o m apos) (e::es) [] pos) (xy C m sp dvs E ta t):=by
 intro pins s σ H Q I h;refine PySem.W.methodCall_KW (pl:=pl) (thn (he pins s σ H _ I h) fun u s1 hz=>?_) ht;obtain⟨x,H1,I1,rx,a,dx,fs,ex,ea,l,q⟩:=hz;subst ex;obtain rfl:u=Value.ref a:=rx;refine n8 I1 ea c hm l ?_;refine PySem.W.callWith_K (first:=[.ref a]) (h₀:=X.base) I.ok.mod.kin hm.kp (thn (ha pos pins s1 σ H1 _ I1 q) fun us s2 ⟨vs,H2,I2,r,q2⟩=>⟨I2.kIn,?_⟩) hst hpl;exact xH (us:=.ref a::us) (vs:=.ref a::vs) F hr hb hd hx I2 (.cons rfl r) q2
theorem AR{pl:Sem Bool}(he:PE X o ta)(c:Cls X.K C)(hm:FL X.K C m f)(F:lF X.prog X.w X.K X.mg X.base CX k f fd ps sp)(hr:fY k X.A)(hb:ig X.K fd ps ds)(hd:bR dvs ds)(hx:jq CX X E)
  (ht:eval (.Call (.Attribute o m apos) [] [] pos) X.env=(do
   let ov <-eval o X.env
   standAt apos.atName
   let (f,first) <-holding [ov] (getMethod ov m pl)
   callWith pos f first (Z9 pos (QR [] X.env)) (backToKw pos (keywordEach [] X.env))):=by rfl) :
  PE X (.Call (.Attribute o m apos) [] [] pos) (xy C m sp dvs E ta GZ):=by
 intro pins s σ H Q I h;refine PySem.W.methodCall_KW (pl:=pl) (thn (he pins s σ H _ I h) fun u s1 hz=>?_) ht;obtain⟨x,H1,I1,rx,a,dx,fs,ex,ea,l,q⟩:=hz;subst ex;obtain rfl:u=Value.ref a:=rx;refine n8 I1 ea c hm l ?_;exact PySem.W.callWith_K0 (first:=[.ref a]) I1.kIn hm.kp (xH (us:=[.ref a]) (vs:=[.ref a]) F hr hb hd hx I1 (.cons rfl .nil) q)
structure Mk(K:Q1)(C f:Addr):Prop where
 makes:PySem.W.makesIn K C=true
 init:PySem.W.findIn K (.ref C) "__init__"=some (some (.ref f))
 fn:PySem.W.isFn K (.ref f)=true
 kp:PySem.W.keepIn K (.ref C)=true
theorem As{pins:List (Addr×Obj)}{σ:St}{H:Hp}{s:Q4}{Q:VK}{us:List Q3}{vs:List V}(M:Mk X.K C f)(F:lF X.prog X.w X.K X.mg X.base CX k f fd ps sp)(hr:fY (k+1) X.A)(hb:ig X.K fd ps ds)(hd:bR dvs ds)
  (hx:jq CX X E) (I:Inv X pins σ H s) (r:bR vs us)
  (h:∀x dx,H x=none->H dx=none->dx≠x->sp (.ref x::(vs++dvs)) (upd (upd H dx (.own x)) x (.ins C dx [])) (fun v H2=>v=.non/\Q (.ref x) H2) E) :
  wpAny (Qz X.prog X.w) X.A (call (.ref C) us) (EP X pins σ Q) X.xe s:=by
 have hq:=h (s.heap.objs.size+1) s.heap.objs.size (I.hok.fresh (Nat.le_succ _)) (I.hok.fresh (QQ _)) (Qj (Nat.lt_succ_self _));have I2:=Inv.made (C:=C) I;have r2:bR (V.ref (s.heap.objs.size+1)::(vs++dvs)) (Value.ref (s.heap.objs.size+1)::(us++ds)):=.cons rfl (r.append hd);have hl:(Value.ref (s.heap.objs.size+1)::us++ds).length=ps.length:=by
  have e:=r2.length;rw[F.len _ _ _ _ hq]at e;exact e.symm
 refine wpAny_call (Bg (f:=f) I.kIn M.makes M.init (beq_iff_eq.mp M.fn) (codeAny_mono (F.run _ X.stack _ _ ⟨Value.ref (s.heap.objs.size+1)::us,[]⟩ (Value.ref (s.heap.objs.size+1)::(us++ds)) _ _ E (hr.make C us [])
  (I2.env0.make C us []) (hb _ (Value.ref (s.heap.objs.size+1)::us) I2.kIn hl) r2 hq) fun r s' hq'=>?_))
 cases r with
 |error e=>exact hx pins σ _ _ e s' I2 hq'
 |ok fl=>
  cases fl with
  |ret u=>
   obtain⟨v,H',I3,rv,ev,q3⟩:=I2.after hq';subst ev;exact⟨rv,⟨V.ref (s.heap.objs.size+1),H',I3,rfl,q3⟩⟩
  |next=>exact False.elim hq'
  |brk=>exact False.elim hq'
  |cont=>exact False.elim hq'
theorem EH(M:Mk X.K C f)(F:lF X.prog X.w X.K X.mg X.base CX k f fd ps sp)(hr:fY (k+1) X.A)(hg:Gl X x)(hm:X.mg x=some (.ref C))(hb:ig X.K fd ps ds)(hd:bR dvs ds)(hx:jq CX X E)
  (ha:PA X (e::es) t) (hdb:(x == ("__debug__":Str))=false:=by decide) (he:QR (e::es) X.env=(false,eval e X.env)::QR es X.env:=by rfl) (hpl:(Z9 pos (QR es X.env)).any (·.1)=false:=by rfl) :
  PE X (.Call (.Name x p) (e::es) [] pos) (Eb C sp dvs E t):=by
 intro pins s σ H Q I h;refine wpAny_Call_Name_kw (yx I hg hm ?_ hdb);refine PySem.W.callWith_K (h₀:=X.base) I.ok.mod.kin M.kp (thn (ha pos pins s σ H _ I h) fun us s1 ⟨vs,H1,I1,r,q⟩=>⟨I1.kIn,?_⟩) he hpl;exact As M F hr hb hd hx I1 r q
end
structure aV(N P:List Str)(sc:Zr):Prop where
 kind:sc.kind=.function
 co:sc.isCoroutine=false
 gen:sc.isGenerator=false
 nd:N.Nodup
 pre:N.take P.length=P
 par:∀x∈P,sc.names.lookup x=some .local\/sc.names.lookup x=some .cell
 nofree:∀y∈sc.names,y.2≠.free
theorem rK{kindOf:Str->Option NameKind}{x:Str}:∀{binds:List (Str×Q3)} {m:Str->Option Q3},(∀v,(x,v)∉binds)->bindL kindOf binds m x=m x
 |[],_,_=>rfl
 |(n,v)::r,m,h=>by
  unfold bindL;rw[rK fun w hw=>h w (QX _ hw)];split
  ·have:x≠n:=by rintro rfl;exact h v QU
   simp[this]
  ·rfl
theorem rM{kindOf:Str->Option NameKind}{x:Str}:∀{binds:List (Str×Q3)} {m:Str->Option Q3},(∀v,(x,v)∉binds)->bindC kindOf binds m x=m x
 |[],_,_=>rfl
 |(n,v)::r,m,h=>by
  unfold bindC;rw[rM fun w hw=>h w (QX _ hw)];split
  ·rfl
  ·have:x≠n:=by rintro rfl;exact h v QU
   simp[this]
theorem rL{kindOf:Str->Option NameKind}{x:Str}{v:Q3}:∀{P:List Str} {vs:List Q3} {i:Nat} {m:Str->Option Q3},P.Nodup->P[i]?=some x->vs[i]?=some v->kindOf x=some .local->
  bindL kindOf (P.zip vs) m x=some v
 |[],_,_,_,_,h,_,_=>by simp at h
 |_::_,[],_,_,_,_,h,_=>by simp at h
 |p::P,w::vs,0,m,nd,h1,h2,hk=>by
  simp at h1 h2;subst h1;subst h2;show bindL kindOf ((p,w)::P.zip vs) m p=_;unfold bindL;rw[rK fun v hv=>(Zk.mp nd).1 (List.of_mem_zip hv).1,if_pos hk];simp
 |p::P,w::vs,i+1,m,nd,h1,h2,hk=>by
  show bindL kindOf ((p,w)::P.zip vs) m x=_;unfold bindL;exact rL (i:=i) (Zk.mp nd).2 (by simpa using h1) (by simpa using h2) hk
theorem rN{kindOf:Str->Option NameKind}{x:Str}{v:Q3}:∀{P:List Str} {vs:List Q3} {i:Nat} {m:Str->Option Q3},P.Nodup->P[i]?=some x->vs[i]?=some v->kindOf x≠some .local->
  bindC kindOf (P.zip vs) m x=some v
 |[],_,_,_,_,h,_,_=>by simp at h
 |_::_,[],_,_,_,_,h,_=>by simp at h
 |p::P,w::vs,0,m,nd,h1,h2,hk=>by
  simp at h1 h2;subst h1;subst h2;show bindC kindOf ((p,w)::P.zip vs) m p=_;unfold bindC;rw[rM fun v hv=>(Zk.mp nd).1 (List.of_mem_zip hv).1,if_neg hk];simp
 |p::P,w::vs,i+1,m,nd,h1,h2,hk=>by
  show bindC kindOf ((p,w)::P.zip vs) m x=_;unfold bindC;exact rN (i:=i) (Zk.mp nd).2 (by simpa using h1) (by simpa using h2) hk
def jN(N:List Str)(vs:List V):St:=vs.map some++QY (N.length-vs.length) none
def rX(CX:CXT)(P:Qx)(w:Qg)(K:Q1)(mg:Str->Option Q3)(base:Heap)(N:List Str)(qual:Str)(scope:Zr)(f:Addr)(cd:Q3)(A:Qd)(outer:List Env)(s:Q4)(H:Hp)(E:XK):Cx where
 prog:=P
 w:=w
 K:=K
 mg:=mg
 base:=base
 A:=A.deeper (envOfC qual scope s.heap.objs.size f cd)
 N:=N
 s₀:=s
 H₀:=H
 env:=envOfC qual scope s.heap.objs.size f cd
 outer:=outer
 stack:=envOfC qual scope s.heap.objs.size f cd::outer
 ex:=[]
 calm:=true
 fn:=fun _=>true
 pn:=[]
 xe:=fun e s'=>wpAny (Qz P w) (A.deeper (envOfC qual scope s.heap.objs.size f cd)) (leaving (envOfC qual scope s.heap.objs.size f cd) e) (fun _ s''=>CX outer H s E e s'') (fun e' s''=>CX outer H s E e' s'') s'
theorem vx{sc:Zr}{n:Nat}{x:Str}(h:sc.names.lookup x=some .cell):∃c,(cellsFrom n sc.names []).lookup x=some c:=by
 have q:=PySem.W.cellsFrom_some sc.names n [] (.inl h);exact ZQ.mp q
theorem yL{CX:CXT}{P:Qx}{w:Qg}{K:Q1}{mg:Str->Option Q3}{base:Heap}{N ps:List Str}{qual:Str}{scope:Zr}{f:Addr}{cd:Q3}{A:Qd}{outer:List Env}{s s1:Q4}{H:Hp}{E:XK}{us:List Q3}{vs:List V}
  (S:aV N ps scope) (hd:A.handled=none) (e0:t7 P w K mg base A outer s H) (hl:vs.length=ps.length) (r:bR vs us)
  (x:InCallC s s.heap.objs.size (bindL (envOfC qual scope s.heap.objs.size f cd).kindOf (ps.zip us) fun _=>none) (cellsFrom (s.heap.objs.size+1) scope.names []) (bindC (envOfC qual scope s.heap.objs.size f cd).kindOf (ps.zip us) fun _=>none) s1) :
  Inv (rX CX P w K mg base N qual scope f cd A outer s H E) [] (jN N vs) H s1:=by
 have hpl:ps.length<=N.length:=by have:=congrArg List.length S.pre;rw[List.length_take]at this;omega
 obtain⟨h1,tk,rfl,hk⟩:=x.done;have noA:∀b:Addr,b∉(rX CX P w K mg base N qual scope f cd A outer s H E).ex:=fun b z=>absurd (show b∈([]:List Addr)from z) (by simp);refine⟨⟨e0.mod,S.kind,rfl,rfl,QQ _,fun y z c h1 h2=>?_,fun y hy=>?_,fun y c _ h=>?_,fun _=>hd,Around.frames_deeper e0.frames,.inr ⟨rfl,rfl⟩,fun b z=>absurd z (noA b),e0.bs,e0.bsz,fun b _ _=>noA b,fun b z=>absurd z (noA b),e0.funs,e0.frf⟩,
  rfl,e0.bare,Un.kept hk,⟨_,x.toInCall.ns,fun i y v h1 h2 h3=>?_⟩,fun y c h=>⟨_,x.cell y c h⟩,e0.hok.fresh (QQ _),fun y c h=>?_,fun p hp=>absurd (show p∈([]:List (Addr×Obj))from hp) (by simp),e0.hok.kept hk,?_⟩
 ·exact name_of_addr x.apart (PySem.mem_of_lookup h1) (PySem.mem_of_lookup h2)
 ·have hy:scope.names.lookup y=some .cell\/scope.names.lookup y=some .free:=hy;rcases hy with hy|hy
  ·exact vx hy
  ·exact absurd rfl (S.nofree _ (PySem.mem_of_lookup hy))
 ·exact Nat.le_of_lt (x.above y c (PySem.mem_of_lookup h))
 ·have hi:i<vs.length:=by
   unfold jN at h2;by_cases hi:i<vs.length
   ·exact hi
   ·rw[Qi (by simpa using hi)]at h2;rw[ZL]at h2;split at h2<;>cases h2
  have ha:vs[i]?=some v:=by
   unfold jN at h2;rw[Qo (by simpa using hi),Qr]at h2;cases e:vs[i]? with
   |none=>rw[e]at h2;cases h2
   |some a=>rw[e]at h2;cases h2;rfl
  obtain⟨u,hu,rv⟩:=r.get ha;have hp:ps[i]?=some y:=by
   rw[<-S.pre,List.getElem?_take_of_lt (by omega)];exact h1
  have ndP:ps.Nodup:=by rw[<-S.pre];exact S.nd.sublist (List.take_sublist _ _)
  refine⟨u,rv,?_⟩;rcases S.par y (List.mem_of_getElem? hp)with k|k
  ·exact .inl ⟨k,rL ndP hp hu k⟩
  ·obtain⟨c,e⟩:=vx (n:=s.heap.objs.size+1) k;refine .inr ⟨.inl k,c,e,?_⟩;have q:=x.cell y c e;rw[rN ndP hp hu (by show scope.names.lookup y≠_;rw[k];decide)]at q;exact q
 ·exact e0.hok.fresh (Nat.le_of_lt (x.above y c (PySem.mem_of_lookup h)))
 ·unfold jN;show _=N.length;rw[QC,Q8,List.length_replicate];omega
theorem IJ{CX:CXT}{P:Qx}{w:Qg}{K:Q1}{mg:Str->Option Q3}{base:Heap}{k:Nat}{f:Addr}{name qual:Str}{params:Arguments}{body:List Qm}{scope:Zr}{dV kV doc pm cdv ct oc:Q3}{an od:Option Addr}
  {osl:Array (Option Q3)} {N ps:List Str} {sp:Sp} (lk:K.lookup f=some ⟨oc,od,.func (PySem.W.fnOf name qual params body scope dV kV doc pm an cdv ct),osl⟩) (hcd:PySem.W.codeIn K cdv qual=true) (S:aV N ps scope)
  (len:∀vs H Q E,sp vs H Q E->vs.length=ps.length)
  (hbody:∀(A:Qd) (outer:List Env) (s:Q4) (H:Hp) (vs:List V) (Q:VK) (E:XK),fY k (A.deeper (envOfC qual scope s.heap.objs.size f cdv))->sp vs H Q E->
   ∃t,PSs (rX CX P w K mg base N qual scope f cdv A outer s H E) body t/\t { nx:=fun _ H'=>Q .non H',rt:=Q } (jN N vs) H) :
  lF P w K mg base CX (k+1) f (PySem.W.fnOf name qual params body scope dV kV doc pm an cdv ct) ps sp:=by
 refine⟨len,fun A outer s H args us vs Q E hr e0 hb r hsp=>?_⟩;have hl:=len _ _ _ _ hsp;have KX:K.In s.heap:=e0.mod.kin.keeps fun b o e=>(e0.bs b o e).1;have lim:s.heap.NoLimit:=e0.mod.nolimit.keeps fun b o e=>(e0.bs b o e).1;have hkind:∀y∈ps.zip us,scope.names.lookup y.1=some .local\/(scope.names.lookup y.1=some .cell/\((cellsFrom (s.heap.objs.size+1) scope.names []).lookup y.1).isSome=true):=fun⟨n,v⟩ hy=>by
  rcases S.par n (List.of_mem_zip hy).1 with q|q
  ·exact .inl q
  ·exact .inr ⟨q,PySem.W.cellsFrom_some _ _ _ (.inl q)⟩
 refine codeAny_call_function hr.depth (KX _ _ lk) rfl S.co S.gen rfl (PySem.W.codeRec_of KX hcd) (hb _ _ _ _ ?_);refine wpAny_newFunctionEnv_cells S.kind hkind fun env he s1 x=>?_;subst he;refine⟨lim.keeps x.toInCall.keep,codeAny_func ?_⟩;obtain⟨t,ht,hq⟩:=hbody A outer s H vs Q E (hr.deeper _) hsp;have I:Inv (rX CX P w K mg base N qual scope f cdv A outer s H E) [] (jN N vs) H s1:=yL S hr.hd e0 hl r x;refine Z6 (ht [] s1 (jN N vs) H _ I hq) (fun fl s' hs=>?_) fun e s' hs=>hs;have fin:∀{σ':St} {H':Hp} {v:V} {u:Q3},Inv (rX CX P w K mg base N qual scope f cdv A outer s H E) [] σ' H' s'->cE v u->Q v H'->CE outer P w H s Q u s':=
  fun{σ' H' v u} J rv q=>⟨v,H',J.os,J.bare,J.base,J.hok,rv,q⟩
 cases fl with
 |ret u=>
  obtain⟨v,σ',H',J,rv,q⟩:=hs;exact fin J rv q
 |next=>
  obtain⟨σ',H',J,q⟩:=hs;exact fin (v:=V.non) (u:=Value.none) J rfl q
 |brk=>
  obtain⟨_,_,_,q⟩:=hs;exact False.elim q
 |cont=>
  obtain⟨_,_,_,q⟩:=hs;exact False.elim q
section
variable{X:Cx}{x:Str}{p pos:Pos}{e:QH}{es:List QH}{t:TA}{id T:String}{r:List V->Hp->VK->Prop}
def tCB(r:List V->Hp->VK->Prop)(t:TA):TE:=fun σ H Q=>t σ H fun vs H1=>r vs H1 Q
theorem AW(hc:fD X (.builtin id) r)(hg:Gl X x)(hm:X.mg x=none)(hv:Qc x=some (.builtin id))(ha:PA X (e::es) t)(hn:x≠"__name__":=by decide)(hdb:(x == ("__debug__":Str))=false:=by decide)
  (he:QR (e::es) X.env=(false,eval e X.env)::QR es X.env:=by rfl) (hpl:(Z9 pos (QR es X.env)).any (·.1)=false:=by rfl):PE X (.Call (.Name x p) (e::es) [] pos) (tCB r t):=by
 intro pins s σ H Q I h;refine wpAny_Call_Name_kw (nZ I hg hm hv ?_ hn hdb);exact PyProof.Rows.callWith_builtin1 (thn (ha pos pins s σ H _ I h) fun us s1 ⟨vs,H1,I1,r1,q1⟩=>hc pins s1 σ H1 vs us Q I1 r1 q1) he hpl
theorem xX(hc:fD X (.type T) r)(hg:Gl X x)(hm:X.mg x=none)(hv:Qc x=some (.type T))(ha:PA X (e::es) t)(hn:x≠"__name__":=by decide)(hdb:(x == ("__debug__":Str))=false:=by decide)
  (he:QR (e::es) X.env=(false,eval e X.env)::QR es X.env:=by rfl) (hpl:(Z9 pos (QR es X.env)).any (·.1)=false:=by rfl):PE X (.Call (.Name x p) (e::es) [] pos) (tCB r t):=by
 intro pins s σ H Q I h;refine wpAny_Call_Name_kw (nZ I hg hm hv ?_ hn hdb);exact PyProof.Rows.callWith_type1 (thn (ha pos pins s σ H _ I h) fun us s1 ⟨vs,H1,I1,r1,q1⟩=>hc pins s1 σ H1 vs us Q I1 r1 q1) he hpl
end
end L2
namespace HT
open PySem PyProof.Rows
section
variable{prog:Qx}{w:Qg}{A:Qd}{E:Q3->Q4->Prop}{s:Q4}
theorem cat_tup{t b:Addr}{vs ws:List Q3}{Q:Q3->Q4->Prop}(ht:IsTup s.heap t vs.toArray)(hb:IsTup s.heap b ws.toArray)(hv:vs≠[])
  (h1:ws=[]->Q (.ref t) s) (h2:ws≠[]->Q (.ref s.heap.objs.size) { s with heap:=s.heap.push { cls:=.type "tuple",data:=.seq (vs++ws).toArray } })
  (hsz:vs.length+ws.length<=QB):wpAny (Qz prog w) A (binaryOp .Add (.ref t) (.ref b)) Q E s:=by
 obtain⟨⟨cls,dd,data,sl⟩,ho,hc,n,hd⟩:=id ht;obtain⟨⟨cls2,dd2,data2,sl2⟩,ho2,hc2,n2,hd2⟩:=id hb;simp only at hc hd hc2 hd2;subst hc hd hc2 hd2;have e:vs.toArray++ws.toArray=(vs++ws).toArray:=by simp
 by_cases hw:ws=[]
 ·exact concat_meets ⟨_,ho,rfl⟩ ⟨_,ho2,rfl⟩ noFill_tuple_add seq_tuple_add PySem.F.slot_tuple_add PySem.F.entry_tuple_add (PySem.F.args_tuple_add_2 _ _)
   (tuple_addW1 t b vs.toArray ws.toArray n n2 dd dd2 sl sl2 (by simpa using hv) (by simp[hw])) ⟨ho,ho2,h1 hw⟩
 ·refine concat_meets ⟨_,ho,rfl⟩ ⟨_,ho2,rfl⟩ noFill_tuple_add seq_tuple_add PySem.F.slot_tuple_add PySem.F.entry_tuple_add (PySem.F.args_tuple_add_2 _ _)
   (tuple_addW2 t b vs.toArray ws.toArray n n2 dd dd2 sl sl2 (by simpa using hv) (by simpa using hw) (by rw[QD,QD];exact hsz)) ⟨ho,ho2,?_⟩
  rw[e];exact h2 hw
def sIx(n d:Nat):Option Int->Nat
 |none=>d
 |some v=>if v<0 then(v+(n:Int)).toNat else min v.toNat n
def sIx_none(n d:Nat):sIx n d none=d:=rfl
theorem sIx_nat(n d k:Nat):sIx n d (some (k:Int))=min k n:=by
 show(if (k:Int)<0 then((k:Int)+(n:Int)).toNat else min (k:Int).toNat n)=min k n;rw[if_neg (by omega),ZD]
theorem Hd(n d:Nat)(hd:d<=n)(o:Option Int):sIx n d o<=n:=by
 cases o with
 |none=>exact hd
 |some v=>
  show(if v<0 then(v+(n:Int)).toNat else min v.toNat n)<=n;by_cases hv:v<0
  ·rw[if_pos hv];omega
  ·rw[if_neg hv];exact Nat.min_le_right _ _
theorem zh(v:Int)(n d:Nat):(if v<0 then max (v+(n:Int)) 0 else min v (n:Int))=((sIx n d (some v):Nat):Int):=by
 show(if v<0 then max (v+(n:Int)) 0 else min v (n:Int))=(((if v<0 then(v+(n:Int)).toNat else min v.toNat n):Nat):Int);by_cases hv:v<0
 ·simp only[if_pos hv];omega
 ·simp only[if_neg hv];omega
theorem wL(lo hi:Option Int)(n:Nat):Builtin.Slice.sliceAdjust lo hi 1 (n:Int)=(((sIx n 0 lo:Nat):Int),((sIx n n hi:Nat):Int)):=by
 have h1:¬((1:Int)<0):=by omega
 unfold Builtin.Slice.sliceAdjust;simp only[h1,if_false];refine Prod.ext ?_ ?_
 ·cases lo with
  |none=>rfl
  |some v=>exact zh v n 0
 ·cases hi with
  |none=>rfl
  |some v=>exact zh v n n
theorem vY(i j:Nat):Builtin.Slice.slicePlaces (i:Int) (j:Int) 1=j-i:=by
 unfold Builtin.Slice.slicePlaces;have h1:(1:Int)>0:=by omega
 simp only[h1,if_true,Int.ediv_one];split<;>omega
theorem nT{v:Q3}{o:Option Int}{Q:Option Int->Q4->Prop}(p:IsPart v o)(h:Q o s):wpAny (Qz prog w) A (Builtin.Slice.slicePartIndex v) Q E s:=by
 cases p with
 |none=>exact slicePart_none h
 |int i t=>exact slicePart_int h
theorem hJ{sl:Addr}{vl vu:Q3}{lo hi:Option Int}{n:Nat}{Q:Int×Int×Nat->Q4->Prop}(hs:s.heap.IsSliceOf sl vl vu .none)(pl:IsPart vl lo)(pu:IsPart vu hi)
  (h:Q (((sIx n 0 lo:Nat):Int),1,sIx n n hi-sIx n 0 lo) s):wpAny (Qz prog w) A (Builtin.Slice.sliceApplied (.ref sl) (pure (n:Int))) Q E s:=by
 obtain⟨os,hos,hcs,hds⟩:=id hs;unfold Builtin.Slice.sliceApplied Builtin.Slice.sliceFields;refine Q2 (Q2 (wpAny_field hos hds (x:=vl) rfl (Q2 (wpAny_field hos hds (x:=vu) rfl (Q2 (wpAny_field hos hds (x:=.none) rfl (QJ ?_)))))));refine Q2 (slicePart_none ?_);show wpAny _ _ (if ((1:Int) == 0)=true then _ else _) _ _ s;rw[if_neg (by decide)];refine Q2 (nT pl (Q2 (nT pu (Q2 (QJ ?_)))));show wpAny _ _ (match Builtin.Slice.sliceAdjust lo hi 1 (n:Int)with|(lo,hi)=>pure (lo,(1:Int),Builtin.Slice.slicePlaces lo hi 1)) _ _ s;rw[wL lo hi n];show wpAny _ _ (pure (((sIx n 0 lo:Nat):Int),(1:Int),Builtin.Slice.slicePlaces ((sIx n 0 lo:Nat):Int) ((sIx n n hi:Nat):Int) 1)) _ _ s;rw[vY];exact QJ h
theorem AN(xs:Array Q3)(i k:Nat):((Qa k).filterMap fun(m:Nat)=>xs[((i:Int)+(m:Int)*1).toNat]?).toArray=((xs.toList.drop i).take k).toArray:=by
 have e:(fun(m:Nat)=>xs[((i:Int)+(m:Int)*1).toNat]?)=fun m=>xs[i+m]?:=by
  funext m;have:((i:Int)+(m:Int)*1).toNat=i+m:=by omega
  rw[this]
 rw[e];have:=pick_run xs i k;rw[List.filterMap_map]at this;have e2:((fun x=>xs[x]?) ∘ fun x=>i+x)=fun m=>xs[i+m]?:=rfl;rw[e2]at this;rw[this]
theorem getItem_tuple_cut{t sl:Addr}{items:Array Q3}{vl vu:Q3}{lo hi:Option Int}{Q:Q3->Q4->Prop}(ht:IsTup s.heap t items)(hs:s.heap.IsSliceOf sl vl vu .none)(pl:IsPart vl lo)(pu:IsPart vu hi)
  (hw:¬(sIx items.size 0 lo=0/\sIx items.size items.size hi=items.size))
  (h:Q (.ref s.heap.objs.size) { s with heap:=s.heap.push { cls:=.type "tuple",data:=.seq ((items.toList.drop (sIx items.size 0 lo)).take (sIx items.size items.size hi-sIx items.size 0 lo)).toArray } })
  (hsz:items.size<=QB):wpAny (Qz prog w) A (getItem (.ref t) (.ref sl)) Q E s:=by
 have htake:sizeOk (.seq ((items.toList.drop (sIx items.size 0 lo)).take (sIx items.size items.size hi-sIx items.size 0 lo)).toArray):=by
  show((items.toList.drop (sIx items.size 0 lo)).take (sIx items.size items.size hi-sIx items.size 0 lo)).toArray.size<=QB;rw[QD,List.length_take,List.length_drop,Qk];omega
 have hj:sIx items.size items.size hi<=items.size:=Hd _ _ (QQ _) hi;obtain⟨os,hos,hcs,hds⟩:=id hs;have hTs:s.TypeIs (.ref sl) "slice":=⟨os,hos,hcs⟩;unfold getItem;try with_reducible refine wpAny_holding ?_
 first|refine Q2 (QJ ?_)|skip
 refine Q2 (wpAny_sequenceKey ht.typeIs (by decide) ?_);refine Q2 (wpAny_callSpecial?_slot (name:=Str.ofString "__getitem__") ht.typeIs PyProof.Rows.slot_tuple_getitem
  (wpAny_call_entry PyProof.Rows.slot_tuple_getitem ht.typeIs entry_tuple_getitem ?_ (args_tuple_getitem _ _)))
 show wpAny _ _ (Builtin.Tuple.tupleItemsOf (.ref t) >>= _) _ _ s;refine Q2 (tupleItemsOf_ ht ?_);refine Q2 (wpAny_typeOf hTs ?_);rw[if_pos (by decide)];refine Q2 (hJ hs pl pu ?_);have hno:¬((((sIx items.size 0 lo:Nat):Int) == 0&&(1:Int) == 1&&(sIx items.size items.size hi-sIx items.size 0 lo) == items.size)=true):=by
  intro q;rw[Zx,Zx]at q;have q1:((sIx items.size 0 lo:Nat):Int)=0:=eq_of_beq q.1.1;have q2:sIx items.size items.size hi-sIx items.size 0 lo=items.size:=eq_of_beq q.2;exact hw ⟨by omega,by omega⟩
 show wpAny _ _ (if (((sIx items.size 0 lo:Nat):Int) == 0&&(1:Int) == 1&&(sIx items.size items.size hi-sIx items.size 0 lo) == items.size)=true then _ else _) _ _ s;rw[if_neg hno,AN];first
  |exact Q2 (m:=Builtin.Tuple.tupleExact _) (wpAny_newObj_type (QJ ⟨_,rfl,QJ h⟩) htake)
  |exact Q2 (m:=Builtin.Tuple.tupleExact _) (wpAny_newObj_type (Q2 (QJ (QJ ⟨_,rfl,QJ h⟩))) htake)
  |exact Q2 (Q2 (m:=Builtin.Tuple.tupleExact _) (wpAny_newObj_type (QJ (QJ ⟨_,rfl,QJ h⟩)) htake))
  |exact Q2 (Q2 (m:=Builtin.Tuple.tupleExact _) (wpAny_newObj_type (QJ ⟨_,rfl,QJ h⟩) htake))
end
end HT
namespace L2
open PySem PySem.Spec PyProof.Rows
abbrev TO:=St->Hp->(Option Int->Hp->Prop)->Prop
def PO(X:Cx)(e:Option QH)(t:TO):Prop:=
 ∀(pins:List (Addr×Obj)) (s:Q4) (σ:St) (H:Hp) (Q:Option Int->Hp->Prop),Inv X pins σ H s->t σ H Q->
  wpAny (Qz X.prog X.w) X.A (evalPart e X.env) (fun u s'=>∃o H',Inv X pins σ H' s'/\IsPart u o/\Q o H') X.xe s
def xw:TO:=fun _ H Q=>Q none H
def GX(t:TE):TO:=fun σ H Q=>t σ H fun x H1=>∃i,x=.int i/\Q (some i) H1
section
variable{X:Cx}{e:QH}{te:TE}{lo hi:Option QH}{tl th:TO}{pos p2:Pos}
theorem EC:PO X none xw:=by
 intro pins s σ H Q I h;rw[evalPart_none];exact QJ ⟨none,H,I,.none,h⟩
theorem EB(h:PE X e te):PO X (some e) (GX te):=by
 intro pins s σ H Q I hw;rw[evalPart_some];refine thn (h pins s σ H _ I hw) fun u s1 hz=>?_;obtain⟨x,H1,I1,r1,q1⟩:=hz;obtain⟨i,rfl,q⟩:=q1;obtain⟨t,rfl⟩:=r1;exact⟨some i,H1,I1,.int i t,q⟩
def SlR(X:Cx)(r:V->Option Int->Option Int->Hp->VK->Prop):Prop:=
 ∀(pins:List (Addr×Obj)) (s:Q4) (σ:St) (H:Hp) (x:V) (v vl vu:Q3) (lo hi:Option Int) (sl:Addr) (Q:VK),Inv X pins σ H s->cE x v->s.heap.IsSliceOf sl vl vu .none->IsPart vl lo->IsPart vu hi->r x lo hi H Q->
  ∃T id,typeLookup (.type T) "__getitem__"=pure (some (.builtin id))/\s.TypeIs v T/\wpAny (Qz X.prog X.w) X.A (getItem v (.ref sl)) (EP X pins σ Q) X.xe s
theorem SlR.or{r r':V->Option Int->Option Int->Hp->VK->Prop}(h:SlR X r)(h':SlR X r'):SlR X (fun x lo hi H Q=>r x lo hi H Q\/r' x lo hi H Q):=by
 intro pins s σ H x v vl vu lo hi sl Q I rx hs pl pu q;rcases q with q|q
 ·exact h pins s σ H x v vl vu lo hi sl Q I rx hs pl pu q
 ·exact h' pins s σ H x v vl vu lo hi sl Q I rx hs pl pu q
def tSl(r:V->Option Int->Option Int->Hp->VK->Prop)(te:TE)(tl th:TO):TE:=fun σ H Q=>te σ H fun x H1=>tl σ H1 fun l H2=>th σ H2 fun u H3=>r x l u H3 Q
theorem AQ{r:V->Option Int->Option Int->Hp->VK->Prop}(hr:SlR X r)(he:PE X e te)(hl:PO X lo tl)(hu:PO X hi th):PE X (.Subscript e (.Slice lo hi none p2) pos) (tSl r te tl th):=by
 intro pins s σ H Q I h;refine Subscript_ (thn (he pins s σ H _ I h) fun v s1 hz=>?_);obtain⟨x,H1,I1,r1,q1⟩:=hz;refine wpAny_Slice (thn (hl pins s1 σ H1 _ I1 q1) fun vl s2 ⟨l,H2,I2,pl,q2⟩=>thn (hu pins s2 σ H2 _ I2 q2) fun vu s3 hz=>?_);obtain⟨u,H3,I3,pu,q3⟩:=hz;rw[evalPart_none];refine QJ ?_;have I4:Inv X pins σ H3 { s3 with heap:=s3.heap.push { cls:=.type "slice",data:=.fields #[vl,vu,.none] } }:=I3.kept (t':=s3.toks) fun b ob q=>Q5 _ q;obtain⟨T,id,hT,ht,hg⟩:=hr pins { s3 with heap:=s3.heap.push { cls:=.type "slice",data:=.fields #[vl,vu,.none] } } σ H3 x v vl vu l u s3.heap.objs.size Q I4 r1 (Heap.IsSliceOf.new ..) pl pu q3;show wpAny (Qz X.prog X.w) X.A (subscriptTail e (.Slice lo hi none p2) v (.ref s3.heap.objs.size)) (EP X pins σ Q) X.xe { s3 with heap:=s3.heap.push { cls:=.type "slice",data:=.fields #[vl,vu,.none] } };exact tail_any (ops:=[.ref s3.heap.objs.size,v]) ht hT hg (by with_unfolding_all rfl)
def C0(xs:List V)(lo hi:Option Int):List V:=(xs.drop (HT.sIx xs.length 0 lo)).take (HT.sIx xs.length xs.length hi-HT.sIx xs.length 0 lo)
theorem mU(xs:List V)(lo hi:Option Int):(C0 xs lo hi).length<=xs.length:=by
 unfold C0;rw[List.length_take,List.length_drop];omega
def MT(K:Q1):V->Option Int->Option Int->Hp->VK->Prop:=fun x lo hi H Q=>∃a xs,x=.ref a/\SqT K H a xs/\
 ¬(HT.sIx xs.length 0 lo=0/\HT.sIx xs.length xs.length hi=xs.length)/\∀p,H p=none->Q (.ref p) (upd H p (.tup (C0 xs lo hi)))
theorem Hc:SlR X (MT X.K):=by
 intro pins s σ H x v vl vu lo hi sl Q I rx hs pl pu h;obtain⟨a,xs,rfl,hx,hw,q⟩:=h;cases rx;obtain⟨its,r,ht,hz⟩:=I.tuple hx;have hlen:its.toArray.size=xs.length:=by rw[QD];exact r.length.symm
 refine⟨"tuple",_,PyProof.Rows.slot_tuple_getitem.lookup,ht.typeIs,?_⟩;refine HT.getItem_tuple_cut ht hs pl pu (by rw[hlen];exact hw) ?_ (by rw[hlen];exact hz);rw[hlen];refine⟨.ref s.heap.objs.size,_,I.laid (t':=s.toks) (o:=.tup (C0 xs lo hi)) (fun b ob q=>Q5 _ q) (QQ _) ?_,rfl,q _ (I.hok.fresh (QQ _))⟩;exact⟨Qp (mU xs lo hi) hz,_,(r.drop (HT.sIx xs.length 0 lo)).take (HT.sIx xs.length xs.length hi-HT.sIx xs.length 0 lo),IsTup.new _ _⟩
def KP(K:Q1):R2:=fun x y H Q=>∃a b xs ys,x=.ref a/\y=.ref b/\SqT K H a xs/\SqT K H b ys/\xs≠[]/\xs.length+ys.length<=QB/\
 (ys=[]->Q (.ref a) H)/\(ys≠[]->∀p,H p=none->Q (.ref p) (upd H p (.tup (xs++ys))))
theorem bR.nil_iff{xs:List V}{us:List Q3}(r:bR xs us):us=[]↔xs=[]:=by
 cases r with
 |nil=>simp
 |cons _ _=>simp
theorem EX:OpR X (binaryOp .Add) (KP X.K):=by
 intro pins s σ H x y v u Q I rx ry h;obtain⟨a,b,xs,ys,rfl,rfl,ha,hb,hx,hz,q1,q2⟩:=h;cases rx;cases ry;obtain⟨its,r1,p1,_⟩:=I.tuple ha;obtain⟨its2,r2,p2,_⟩:=I.tuple hb;refine HT.cat_tup p1 p2 (fun z=>hx (r1.nil_iff.mp z)) (fun z=>⟨.ref a,H,I,rfl,q1 (r2.nil_iff.mp z)⟩) (fun z=>?_) (by rw[<-r1.length,<-r2.length];exact hz);refine⟨.ref s.heap.objs.size,_,I.laid (t':=s.toks) (o:=.tup (xs++ys)) (fun b ob q=>Q5 _ q) (QQ _) ?_,rfl,q2 (fun w=>z (r2.nil_iff.mpr w)) _ (I.hok.fresh (QQ _))⟩;exact⟨by rw[QC];exact hz,_,r1.append r2,IsTup.new _ _⟩
end
def ixN(n:Nat)(i:Int):Option Nat:=if 0<=i then(if i<n then some i.toNat else none)else if -(n:Int)<=i then some (i+n).toNat else none
def atI{α:Type}(xs:List α)(i:Int):Option α:=(ixN xs.length i).bind fun j=>xs[j]?
theorem yI{n:Nat}{i:Int}{j:Nat}(h:ixN n i=some j):seqIndex? i n=some j/\j<n/\-(n:Int)<=i/\i<n:=by
 unfold ixN at h;by_cases h0:0<=i
 ·rw[if_pos h0]at h;by_cases h1:i<n
  ·rw[if_pos h1]at h;have e:i.toNat=j:=Option.some.inj h;exact⟨by rw[seqIndex_of h0 h1,e],by omega,by omega,h1⟩
  ·rw[if_neg h1]at h;cases h
 ·rw[if_neg h0]at h;by_cases h1:-(n:Int)<=i
  ·rw[if_pos h1]at h;have e:(i+n).toNat=j:=Option.some.inj h;exact⟨by rw[seqIndex_neg (by omega) h1,e],by omega,h1,by omega⟩
  ·rw[if_neg h1]at h;cases h
theorem zy{α:Type}{xs:List α}{i:Int}{v:α}(h:atI xs i=some v):∃j,seqIndex? i xs.length=some j/\xs[j]?=some v/\j<xs.length/\-(xs.length:Int)<=i/\i<xs.length:=by
 unfold atI at h;cases e:ixN xs.length i with
 |none=>rw[e]at h;cases h
 |some j=>
  rw[e]at h;obtain⟨h1,h2,h3,h4⟩:=yI e;exact⟨j,h1,h,h2,h3,h4⟩
theorem kW{α:Type}{xs:List α}{j:Nat}{v:α}(h:xs[j]?=some v):atI xs (j:Int)=some v:=by
 have hj:j<xs.length:=(Q9.mp h).1;have e:ixN xs.length (j:Int)=some j:=by
  unfold ixN;rw[if_pos (by omega),if_pos (by omega)];simp
 unfold atI;rw[e];exact h
def tR(b:QH):Prop:=∀o i,subscripted b false o i=operate [o,i] (getItem o i)
def IxR(X:Cx)(r:R2):Prop:=
 ∀(value slice:QH) (pins:List (Addr×Obj)) (s:Q4) (σ:St) (H:Hp) (x y:V) (v u:Q3) (Q:VK),Inv X pins σ H s->cE x v->cE y u->r x y H Q->
  subscripted slice false v u=operate [v,u] (getItem v u)->wpAny (Qz X.prog X.w) X.A (subscriptTail value slice v u) (EP X pins σ Q) X.xe s
def MtR(X:Cx)(id:String)(r:V->List V->Hp->VK->Prop):Prop:=
 ∀(pins:List (Addr×Obj)) (s:Q4) (σ:St) (H:Hp) (x:V) (xs:List V) (v:Q3) (us:List Q3) (Q:VK),Inv X pins σ H s->cE x v->bR xs us->r x xs H Q->
  wpAny (Qz X.prog X.w) X.A (call (.builtin id) (v::us)) (EP X pins σ Q) X.xe s
section
variable{X:Cx}{a b:QH}{ta tb:TE}{pos:Pos}
theorem IxR.or{r r':R2}(h:IxR X r)(h':IxR X r'):IxR X (fun x y H Q=>r x y H Q\/r' x y H Q):=by
 intro value slice pins s σ H x y v u Q I rx ry q hs;rcases q with q|q
 ·exact h value slice pins s σ H x y v u Q I rx ry q hs
 ·exact h' value slice pins s σ H x y v u Q I rx ry q hs
theorem K0{r:R2}(hr:IxR X r)(ha:PE X a ta)(hb:PE X b tb)(hs:tR b):PE X (.Subscript a b pos) (tOp r ta tb):=by
 intro pins s σ H Q I h;exact Subscript_ (Lz ha hb I h fun v u s2 x y H2 I2 rx ry q=>hr a b pins s2 σ H2 x y v u Q I2 rx ry q (hs _ _))
def MW(K:Q1):R2:=fun x y H Q=>∃p xs i v,x=.ref p/\y=.int i/\SqL K H p xs/\atI xs i=some v/\Q v H
def MV(K:Q1):R2:=fun x y H Q=>∃p xs i v,x=.ref p/\y=.int i/\SqT K H p xs/\atI xs i=some v/\Q v H
theorem Fi:IxR X (MW X.K):=by
 intro value slice pins s σ H x y v u Q I rx ry h hs;obtain⟨p,xs,i,z,rfl,rfl,hq,he,q⟩:=h;cases rx;obtain⟨t,rfl⟩:=ry;obtain⟨its,r,pl,hz⟩:=I.list hq;obtain⟨j,h1,h2,h3,h4,h5⟩:=zy he;obtain⟨w,ew,rw'⟩:=r.get h2;have hl:=r.length;have hn:=uQ;have fin:EP X pins σ Q w s:=⟨z,H,I,rw',q⟩;by_cases h0:0<=i
 ·have hj:i.toNat=j:=by
   rw[seqIndex_of h0 h5]at h1;exact Option.some.inj h1
  exact item_listR pl.isList h0 (by omega) (by rw[hj];simpa using ew) fin hs
 ·have hj:(i+(its.toArray.size:Int)).toNat=j:=by
   rw[seqIndex_neg (by omega) h4]at h1;rw[QD,<-hl];exact Option.some.inj h1
  exact subscriptTail_builtinR (x:=w) pl.isList.typeIs slot_list_getitem.lookup
   (wpAny_getItem_list_neg (Q:=fun r s'=>r=w/\EP X pins σ Q r s') pl.isList (by omega) (by rw[QD]<;>omega) (by omega) (by rw[hj];simpa using ew) ⟨rfl,fin⟩) hs
theorem IA:IxR X (MV X.K):=by
 intro value slice pins s σ H x y v u Q I rx ry h hs;obtain⟨p,xs,i,z,rfl,rfl,hq,he,q⟩:=h;cases rx;obtain⟨t,rfl⟩:=ry;obtain⟨its,r,pl,hz⟩:=I.tuple hq;obtain⟨j,h1,h2,h3,h4,h5⟩:=zy he;obtain⟨w,ew,rw'⟩:=r.get h2;have hl:=r.length;have hn:=uQ;have fin:EP X pins σ Q w s:=⟨z,H,I,rw',q⟩;exact subscriptTail_builtinR (x:=w) pl.typeIs slot_tuple_getitem.lookup
  (getItem_tuple (j:=j) (Q:=fun r s'=>r=w/\EP X pins σ Q r s') pl (by omega) (by omega) (by rw[QD,<-hl];exact h1) (by simpa using ew) ⟨rfl,fin⟩) hs
theorem wc(its:List Q3)(n j:Nat)(u:Q3):Obj.mapSeq (·.setIfInBounds j u) { cls:=.type "list",data:=.seq its.toArray n }={ cls:=.type "list",data:=.seq (its.set j u).toArray n }:=by
 simp[Obj.mapSeq]
theorem Inv.lst{pins:List (Addr×Obj)}{σ:St}{H:Hp}{s:Q4}{p:Addr}{xs:List V}(I:Inv X pins σ H s)(h:H p=some (.lst xs)) :
  ∃(its:List Q3) (n:Nat),bR xs its/\s.heap.get? p=some { cls:=.type "list",data:=.seq its.toArray n }/\xs.length<=QB:=by
 obtain⟨z,its,n,r,e⟩:=I.hok p _ h;exact⟨its,n,r,e,z⟩
theorem Inv.lstUpd{pins:List (Addr×Obj)}{σ:St}{H:Hp}{s:Q4}{p:Addr}{xs ys:List V}{its its':List Q3}{n n':Nat}{f:Obj->Obj}(I:Inv X pins σ H s)(h:H p=some (.lst xs))
  (ho:s.heap.get? p=some { cls:=.type "list",data:=.seq its.toArray n }) (hf:f { cls:=.type "list",data:=.seq its.toArray n }={ cls:=.type "list",data:=.seq its'.toArray n' }) (r:bR ys its') (hz:ys.length<=QB) (t:Nat) :
  Inv X pins σ (upd H p (.lst ys)) { s with heap:=s.heap.update p f,toks:=t }:=by
 have e:(s.heap.update p f).get? p=some { cls:=.type "list",data:=.seq its'.toArray n' }:=by
  rw[Heap.get?_update_self f ho (by rw[hf]<;>rfl),hf]
 refine I.write (x:=p) (e:=p) (by rw[h];trivial) (.inl rfl) (fun b u hb q=>(Heap.get?_update_other _ _ (Ne.symm hb)).trans q) ⟨_,e⟩ ?_;exact⟨hz,its',n',r,e⟩
def KI:V->V->V->Hp->(Hp->Prop)->Prop:=fun o i v H Q=>∃p xs k j,o=.ref p/\i=.int k/\H p=some (.lst xs)/\ixN xs.length k=some j/\Q (upd H p (.lst (xs.set j v)))
theorem Ar:LF X KI:=by
 intro pins s σ H o i v ov iv u Q I ro ri rv h;obtain⟨p,xs,k,j,rfl,rfl,hp,hj,q⟩:=h;cases ro;obtain⟨t,rfl⟩:=ri;obtain⟨its,n,r,ho,hz⟩:=I.lst hp;obtain⟨h1,h2,h3,h4⟩:=yI hj;have hl:=r.length;have hn:=uQ;have I':Inv X pins σ (upd H p (.lst (xs.set j v))) { s with heap:=s.heap.update p (Obj.mapSeq (·.setIfInBounds j u)) }:=
  I.lstUpd hp ho (wc its n j u) (r.set rv j) (by rw[Qt];exact hz) s.toks
 by_cases h0:0<=k
 ·have hk:k.toNat=j:=by
   rw[seqIndex_of h0 h4]at h1;exact Option.some.inj h1
  exact PySem.W.ki_setAt ho h0 (by omega) (by rw[QD,<-hl];exact h4) (by rw[hk];exact⟨_,I',q⟩)
 ·have hk:(k+(its.toArray.size:Int)).toNat=j:=by
   rw[seqIndex_neg (by omega) h3]at h1;rw[QD,<-hl];exact Option.some.inj h1
  exact PySem.W.ki_setBack ho (by omega) (by rw[QD,<-hl];exact h3) (by omega) (by rw[hk];exact⟨_,I',q⟩)
theorem qm(lo hi:Option Int)(n:Nat):(sliceBounds lo hi none n).1=((HT.sIx n 0 lo:Nat):Int)/\(sliceBounds lo hi none n).2.1=((HT.sIx n n hi:Nat):Int)/\(sliceBounds lo hi none n).2.2=1:=by
 refine⟨?_,?_,rfl⟩
 ·cases lo with
  |none=>simp[sliceBounds,HT.sIx]
  |some i=>
   simp only[sliceBounds,HT.sIx,Option.getD_none,show(1:Int)>0 by decide,if_true];by_cases h:i<0
   ·simp only[h,if_true]<;>omega
   ·simp only[h,if_false]<;>omega
 ·cases hi with
  |none=>simp[sliceBounds,HT.sIx]
  |some i=>
   simp only[sliceBounds,HT.sIx,Option.getD_none,show(1:Int)>0 by decide,if_true];by_cases h:i<0
   ·simp only[h,if_true]<;>omega
   ·simp only[h,if_false]<;>omega
theorem ox(its:List Q3)(lo hi:Option Int):slicePick its.toArray lo hi none=((its.drop (HT.sIx its.length 0 lo)).take (HT.sIx its.length its.length hi-HT.sIx its.length 0 lo)).toArray:=by
 obtain⟨h1,h2,h3⟩:=qm lo hi its.toArray.size;unfold slicePick;rw[h1,h2,h3];simp only[sliceRange_one,pick_run,QD]<;>rfl
def MU(K:Q1):V->Option Int->Option Int->Hp->VK->Prop:=fun x lo hi H Q=>∃a xs,x=.ref a/\SqL K H a xs/\∀p,H p=none->Q (.ref p) (upd H p (.lst (C0 xs lo hi)))
theorem Ej:SlR X (MU X.K):=by
 intro pins s σ H x v vl vu lo hi sl Q I rx hs pl pu h;obtain⟨a,xs,rfl,hx,q⟩:=h;cases rx;obtain⟨its,r,ht,hz⟩:=I.list hx;have hlen:=r.length;refine⟨"list",_,slot_list_getitem.lookup,ht.isList.typeIs,?_⟩;refine wpAny_getItem_list_slice ht.isList hs pl pu .none (by simp) ?_ (by rw[QD]<;>omega);rw[ox,<-hlen];refine⟨.ref s.heap.objs.size,_,I.laid (t':=s.toks) (o:=.lst (C0 xs lo hi)) (fun b ob q=>Q5 _ q) (QQ _) ?_,rfl,q _ (I.hok.fresh (QQ _))⟩;exact⟨Qp (mU xs lo hi) hz,_,0,(r.drop (HT.sIx xs.length 0 lo)).take (HT.sIx xs.length xs.length hi-HT.sIx xs.length 0 lo),QM _ rfl⟩
def nE:V->Bool
 |.non=>true
 |.bl _=>true
 |.int _=>true
 |.str _=>true
 |_=>false
def eqV:V->V->Bool
 |.non,.non=>true
 |.bl a,.bl b=>a == b
 |.bl a,.int b=>(if a then 1 else 0) == b
 |.int a,.bl b=>a == (if b then 1 else 0)
 |.int a,.int b=>a == b
 |.str a,.str b=>a == b
 |_,_=>false
theorem IS{A:Qd}{s:Q4}{y x:V}{u v:Q3}(ry:cE y u)(rx:cE x v)(fy:nE y=true)(fx:nE x=true):SeqAt.EqAt A s u v (eqV y x):=by
 cases y with
 |non=>
  cases ry;cases x with
  |non=>cases rx;exact SeqAt.EqAt.same _
  |bl b=>cases rx;exact SeqAt.EqAt.none_bool b
  |int b=>obtain⟨t,rfl⟩:=rx;exact SeqAt.EqAt.none_int b t
  |str b=>obtain⟨t,rfl⟩:=rx;exact SeqAt.EqAt.none_str b t
  |_=>exact absurd (show false=true from fx) Q6
 |bl a=>
  cases ry;cases x with
  |non=>cases rx;exact SeqAt.EqAt.bool_none a
  |bl b=>cases rx;exact SeqAt.EqAt.bool_bool a b
  |int b=>obtain⟨t,rfl⟩:=rx;exact SeqAt.EqAt.bool_int a b t
  |str b=>obtain⟨t,rfl⟩:=rx;exact SeqAt.EqAt.bool_str a b t
  |_=>exact absurd (show false=true from fx) Q6
 |int a=>
  obtain⟨t',rfl⟩:=ry;cases x with
  |non=>cases rx;exact SeqAt.EqAt.int_none a t'
  |bl b=>cases rx;exact SeqAt.EqAt.int_bool a t' b
  |int b=>obtain⟨t,rfl⟩:=rx;exact SeqAt.EqAt.int_int a t' b t
  |str b=>obtain⟨t,rfl⟩:=rx;exact SeqAt.EqAt.int_str a t' b t
  |_=>exact absurd (show false=true from fx) Q6
 |str a=>
  obtain⟨t',rfl⟩:=ry;cases x with
  |non=>cases rx;exact SeqAt.EqAt.str_none a t'
  |bl b=>cases rx;exact SeqAt.EqAt.str_bool a t' b
  |int b=>obtain⟨t,rfl⟩:=rx;exact SeqAt.EqAt.str_int a t' b t
  |str b=>obtain⟨t,rfl⟩:=rx;exact SeqAt.EqAt.str_str a t' b t
  |_=>exact absurd (show false=true from fx) Q6
 |_=>exact absurd (show false=true from fy) Q6
def eqU(x:V)(u:Q3):Bool:=match u with
 |.none=>eqV .non x
 |.bool b=>eqV (.bl b) x
 |.int i _=>eqV (.int i) x
 |.str z _=>eqV (.str z) x
 |_=>false
theorem CV{x y:V}{u:Q3}(r:cE y u)(f:nE y=true):eqU x u=eqV y x:=by
 cases y with
 |non=>cases r;rfl
 |bl b=>cases r;rfl
 |int i=>obtain⟨t,rfl⟩:=r;rfl
 |str z=>obtain⟨t,rfl⟩:=r;rfl
 |_=>exact absurd (show false=true from f) Q6
theorem mY{x:V}:∀{xs:List V} {us:List Q3},bR xs us->xs.all nE=true->us.any (eqU x)=xs.any fun y=>eqV y x
 |_,_,.nil,_=>rfl
 |y::xs,u::us,.cons r t,f=>by
  rw[List.all_cons,Zx]at f;rw[ZE,ZE,CV r f.1,mY t f.2]
theorem j7{A:Qd}{s:Q4}{x:V}{v:Q3}(rx:cE x v)(fx:nE x=true):∀{xs:List V} {us:List Q3},bR xs us->xs.all nE=true->∀u∈us,SeqAt.EqAt A s u v (eqU x u)
 |_,_,.nil,_=>fun u hu=>by cases hu
 |y::xs,u::us,.cons r t,f=>fun u' hu=>by
  rw[List.all_cons,Zx]at f;rcases Qq.mp hu with rfl|hu
  ·rw[CV r f.1];exact IS r rx f.1 fx
  ·exact j7 rx fx t f.2 u' hu
def inV(x:V)(xs:List V):Bool:=xs.any fun y=>eqV y x
def rIn(K:Q1)(neg:Bool):R2:=fun x y H Q=>∃p xs,y=.ref p/\(SqL K H p xs\/SqT K H p xs)/\nE x=true/\xs.all nE=true/\Q (.bl (if neg then !inV x xs else inV x xs)) H
theorem yb:OpR X (compareOp .In) (rIn X.K false):=by
 intro pins s σ H x y v u Q I rx ry h;obtain⟨p,xs,rfl,hq,fx,fs,q⟩:=h;cases ry;rcases hq with hq|hq
 ·obtain⟨its,r,pl,hz⟩:=I.list hq;refine SeqAt.in_listAt (eqU x) pl.isList (fun w hw=>j7 rx fx r fs w (by simpa using hw)) ⟨.bl _,H,I,rfl,?_⟩;rw[show its.toArray.any (eqU x)=its.any (eqU x)by simp,mY r fs];exact q
 ·obtain⟨its,r,pl,hz⟩:=I.tuple hq;refine SeqAt.in_tupleAt (eqU x) pl (fun w hw=>j7 rx fx r fs w (by simpa using hw)) ⟨.bl _,H,I,rfl,?_⟩;rw[show its.toArray.any (eqU x)=its.any (eqU x)by simp,mY r fs];exact q
theorem qz:OpR X (compareOp .NotIn) (rIn X.K true):=by
 intro pins s σ H x y v u Q I rx ry h;obtain⟨p,xs,rfl,hq,fx,fs,q⟩:=h;cases ry;rcases hq with hq|hq
 ·obtain⟨its,r,pl,hz⟩:=I.list hq;refine SeqAt.notIn_listAt (eqU x) pl.isList (fun w hw=>j7 rx fx r fs w (by simpa using hw)) ⟨.bl _,H,I,rfl,?_⟩;rw[show its.toArray.any (eqU x)=its.any (eqU x)by simp,mY r fs];exact q
 ·obtain⟨its,r,pl,hz⟩:=I.tuple hq;refine SeqAt.notIn_tupleAt (eqU x) pl (fun w hw=>j7 rx fx r fs w (by simpa using hw)) ⟨.bl _,H,I,rfl,?_⟩;rw[show its.toArray.any (eqU x)=its.any (eqU x)by simp,mY r fs];exact q
theorem rG:fD X (.builtin "len") (fun xs H Q=>∃p ys,xs=[.ref p]/\(SqL X.K H p ys\/SqT X.K H p ys)/\Q (.int ys.length) H):=by
 intro pins s σ H xs us Q I r h;obtain⟨p,ys,rfl,hq,q⟩:=h;obtain⟨u,rfl,rx⟩:=kC r;cases rx;have hn:=uQ;rcases hq with hq|hq
 ·obtain⟨its,r',pl,hz⟩:=I.list hq;have hlen:=r'.length;exact Calls.call_len_list pl.isList (by simp only[QD]<;>omega) ⟨.int ys.length,H,I.tok _,⟨s.toks+1,by rw[QD,hlen]⟩,q⟩
 ·obtain⟨its,r',pl,hz⟩:=I.tuple hq;have hlen:=r'.length;exact len_tuple pl (by simp only[QD]<;>omega) ⟨.int ys.length,H,I.tok _,⟨s.toks+1,by rw[QD,hlen]⟩,q⟩
theorem fD.or{f:Q3}{r r':List V->Hp->VK->Prop}(h:fD X f r)(h':fD X f r'):fD X f (fun xs H Q=>r xs H Q\/r' xs H Q):=by
 intro pins s σ H xs us Q I rs q;rcases q with q|q
 ·exact h pins s σ H xs us Q I rs q
 ·exact h' pins s σ H xs us Q I rs q
theorem iV:fD X (.type "list") (fun xs H Q=>∃p ys,xs=[.ref p]/\(SqL X.K H p ys\/SqT X.K H p ys)/\∀l,H l=none->Q (.ref l) (upd H l (.lst ys))):=by
 intro pins s σ H xs us Q I r h;obtain⟨p,ys,rfl,hq,q⟩:=h;obtain⟨u,rfl,rx⟩:=kC r;cases rx;have fin:∀(its:List Q3),bR ys its->ys.length<=QB->∀(h':Heap) (c':Nat),(∀b o',s.heap.get? b=some o'->h'.get? b=some o')->
   h'.get? s.heap.objs.size=some { cls:=.type "list",dict:=none,data:=.seq its.toArray c',slots:=#[] }->EP X pins σ Q (.ref s.heap.objs.size) { s with heap:=h' }:=fun its r' hz h' c' kp e=>
  ⟨.ref s.heap.objs.size,_,I.laid (t':=s.toks) kp (QQ _) (show dr X.prog X.w _ h' _ (.lst ys)from⟨hz,its,c',r',e⟩),rfl,q _ (I.hok.fresh (QQ _))⟩
 rcases hq with hq|hq
 ·obtain⟨its,r',pl,hz⟩:=I.list hq;have hlen:=r'.length;obtain⟨o,ho,hc,n,hd⟩:=pl.isList;exact call_list_seq p (.inl rfl) ho hc hd (fun h' c' kp e=>fin its r' hz h' c' kp e) (by simp only[QD]<;>omega)
 ·obtain⟨its,r',pl,hz⟩:=I.tuple hq;have hlen:=r'.length;obtain⟨o,ho,hc,n,hd⟩:=pl;exact call_list_seq p (.inr rfl) ho hc hd (fun h' c' kp e=>fin its r' hz h' c' kp e) (by simp only[QD]<;>omega)
theorem gY:fD X (.type "tuple") (fun xs H Q=>∃p ys,xs=[.ref p]/\((SqL X.K H p ys/\∀l,H l=none->Q (.ref l) (upd H l (.tup ys)))\/(SqT X.K H p ys/\Q (.ref p) H))):=by
 intro pins s σ H xs us Q I r h;obtain⟨p,ys,rfl,h⟩:=h;obtain⟨u,rfl,rx⟩:=kC r;cases rx;rcases h with⟨hq,q⟩|⟨hq,q⟩
 ·obtain⟨its,r',pl,hz⟩:=I.list hq;have hlen:=r'.length;refine call_tuple_list pl.isList (fun h' kp=>?_) (by simp only[QD]<;>omega);have I1:Inv X pins σ H { s with heap:=h' }:=I.kept (t':=s.toks) kp;have I2:Inv X pins σ (upd H h'.objs.size (.tup ys)) { s with heap:=h'.push { cls:=.type "tuple",data:=.seq its.toArray } }:=
   I1.laid (t':=s.toks) (fun b o e=>Q5 _ e) (QQ _) (show dr X.prog X.w _ _ _ (.tup ys)from⟨hz,its,r',IsTup.new _ _⟩)
  exact⟨.ref h'.objs.size,_,I2,rfl,q _ (I1.hok.fresh (QQ _))⟩
 ·obtain⟨its,r',pl,hz⟩:=I.tuple hq;exact call_tuple_same pl ⟨.ref p,H,I,rfl,q⟩
def tyV(K:Q1)(T:String)(x:V)(H:Hp):Prop:=match x with
 |.str _=>T="str"
 |.int _=>T="int"
 | .ref p=>(T="list"/\∃xs,SqL K H p xs)\/(T="tuple"/\∃o,K.lookup p=some o/\o.cls=.type "tuple"/\o.dict=none)\/
   (T="dict"/\((∃kvs,H p=some (.dK kvs))\/∃kvs,H p=some (.dT kvs)))\/(T="set"/\∃S n,H p=some (.set S n))
 |_=>False
theorem GV{pins:List (Addr×Obj)}{σ:St}{H:Hp}{s:Q4}{T:String}{x:V}{v:Q3}(I:Inv X pins σ H s)(r:cE x v)(ty:tyV X.K T x H) :
  s.TypeIs v T/\∀a,v=.ref a->∃ob,s.heap.get? a=some ob/\ob.dict=none:=by
 cases x with
 |str z=>
  obtain⟨t,rfl⟩:=r;cases (show T="str" from ty);exact⟨typeIs_str s z t,fun _ e=>nomatch e⟩
 |int i=>
  obtain⟨t,rfl⟩:=r;cases (show T="int" from ty);exact⟨typeIs_int s i t,fun _ e=>nomatch e⟩
 |ref p=>
  cases r;rcases ty with⟨rfl,xs,hq⟩|⟨rfl,o,hk,hc,hd⟩|⟨rfl,hk⟩|⟨rfl,S,n,hk⟩
  ·obtain⟨its,_,pl,_⟩:=I.list hq;refine⟨pl.isList.typeIs,fun a e=>?_⟩;cases e;obtain⟨o,n,e,c,hd,_⟩:=pl;exact⟨o,e,hd⟩
  ·refine⟨⟨o,I.kIn p o hk,hc⟩,fun a e=>?_⟩;cases e;exact⟨o,I.kIn _ o hk,hd⟩
  ·have z:∃o,s.heap.get? p=some o/\o.ExactDict:=by
    rcases hk with⟨kvs,hk⟩|⟨kvs,hk⟩
    ·obtain⟨_,_,_,_,o,_,_,e,ex,_⟩:=I.hok p _ hk;exact⟨o,e,ex⟩
    ·obtain⟨_,_,_,_,o,_,_,e,ex,_⟩:=I.hok p _ hk;exact⟨o,e,ex⟩
   obtain⟨o,e,ex⟩:=z;refine⟨⟨o,e,ex.1⟩,fun a e2=>?_⟩;cases e2;exact⟨o,e,ex.2.1⟩
  ·obtain⟨o,_,_,_,e,ex,_⟩:=I.hok p _ hk;refine⟨⟨o,e,ex.1⟩,fun a e2=>?_⟩;cases e2;exact⟨o,e,ex.2.1⟩
 |_=>exact False.elim ty
def tBM(K:Q1)(T:String)(r:V->List V->Hp->VK->Prop)(to:TE)(t:TA):TE:=fun σ H Q=>to σ H fun x H1=>tyV K T x H1/\t σ H1 fun xs H2=>r x xs H2 Q
variable{o e:QH}{es:List QH}{to:TE}{t:TA}{name:Str}{apos cpos:Pos}{T id:String}{r:V->List V->Hp->VK->Prop}
theorem K1(pa:PlainAttrs T)(slot:Slot T name id)(hty:typeOf (.builtin id)=pure (.type "method_descriptor"))(hm:MtR X id r)(ho:PE X o to)(ha:PA X (e::es) t)
  (hbase:attributeBase o name X.env (eval o X.env)=eval o X.env:=by rfl)
  (hfew:((Z9 cpos (QR (e::es) X.env)).all (fun x=>!x.1)&&(backToKw cpos (keywordEach [] X.env)).all (fun x=>x.1.isSome)
   && decide ((e::es).length+([]:List Keyword).length+(if ([]:List Keyword).isEmpty then 0 else 1)<30))=true:=by rfl)
  (hline:(apos.endLine == cpos.line)=true:=by rfl) (hs:QR (e::es) X.env=(false,eval e X.env)::QR es X.env:=by rfl) (hplain:(Z9 cpos (QR es X.env)).any (·.1)=false:=by rfl) :
  PE X (.Call (.Attribute o name apos) (e::es) [] cpos) (tBM X.K T r to t):=by
 intro pins s σ H Q I h;refine wpAny_Call_method_late hbase hfew hline rfl (thn (ho pins s σ H _ I h) fun v s1 hz=>?_);obtain⟨x,H1,I1,r1,ty,q1⟩:=hz;obtain⟨h1,h2⟩:=GV I1 r1 ty;refine⟨T,id,pa,slot,hty,h1,h2,?_⟩;have hA:=ha cpos pins s1 σ H1 _ I1 q1;rw[hs]at hA ⊢;refine Calls.callWith_builtin (by show(false||(Z9 cpos (QR es X.env)).any (·.1))=false;rw[hplain]<;>rfl) (Calls.evalArgs_plain ?_);exact thn hA fun us s2 ⟨vs,H2,I2,r2,q2⟩=>hm pins s2 σ H2 x vs v us Q I2 r1 r2 q2
end
def MtM(X:Cx)(id:String)(r:V->List V->Hp->VK->Prop):Prop:=
 ∀(pins:List (Addr×Obj)) (s:Q4) (σ:St) (H:Hp) (x:V) (xs:List V) (v:Q3) (us:List Q3) (Q:VK),Inv X pins σ H s->cE x v->bR xs us->r x xs H Q->
  wpAny (Qz X.prog X.w) X.A (call (.builtin id) (v::us)) (EP X pins σ Q) X.xe s
theorem bR.one:∀{x:V} {us:List Q3},bR [x] us->∃u,us=[u]/\cE x u
 |_,_,.cons r .nil=>⟨_,rfl,r⟩
theorem bR.eraseIdx:∀{xs:List V} {us:List Q3} (i:Nat),bR xs us->bR (xs.eraseIdx i) (us.eraseIdx i)
 |_,_,_,.nil=>.nil
 |_,_,0,.cons _ t=>t
 |_,_,i+1,.cons r t=>.cons r (bR.eraseIdx i t)
theorem bR.rep{xs:List V}{us:List Q3}(h:bR xs us):∀k:Nat,bR (QY k xs).flatten (QY k us).flatten
 |0=>.nil
 |k+1=>by
  rw[ZO,ZO,Zf,Zf];exact bR.append h (bR.rep h k)
theorem qF{α:Type}:∀(l:List α) (i:Nat),(l.eraseIdx i).length<=l.length
 |[],_=>QQ _
 |_::_,0=>Nat.le_succ _
 |_::r,i+1=>Nat.succ_le_succ (qF r i)
theorem mO(its:List Q3):∀(k:Nat) (acc:List Q3),
  List.foldl (fun x1 x2=>x1++x2) acc.toArray (QY k its.toArray)=(acc++(QY k its).flatten).toArray
 |0,acc=>by simp
 |k+1,acc=>by
  have e:acc.toArray++its.toArray=(acc++its).toArray:=by simp
  have e2:(acc++its)++(QY k its).flatten=acc++(QY (k+1) its).flatten:=by
   rw[ZO,Zf,Qw]
  rw[<-e2,<-mO its k (acc++its),<-e,ZO,List.foldl_cons]
section
variable{X:Cx}{pins:List (Addr×Obj)}{σ:St}{H:Hp}{s:Q4}{l:Addr}{xs ys:List V}
theorem Inv.lset{its its':List Q3}{n:Nat}{f:Array Q3->Array Q3}{t':Nat}(I:Inv X pins σ H s)(hH:H l=some (.lst xs))
  (e:s.heap.get? l=some { cls:=.type "list",data:=.seq its.toArray n }) (hf:f its.toArray=its'.toArray) (hv:bR ys its') (hz:ys.length<=QB) :
  Inv X pins σ (upd H l (.lst ys)) { s with heap:=s.heap.update l (Obj.mapSeq f),toks:=t' }:=by
 have q:=PySem.IsL.update e f;rw[hf]at q;refine I.write (x:=l) (e:=l) (by rw[hH];exact trivial) (.inl rfl) (fun b' u hb hu=>(Heap.get?_update_other s.heap (Obj.mapSeq f) (Ne.symm hb)).trans hu) ⟨_,q⟩ ?_;exact⟨hz,its',_,hv,q⟩
theorem Inv.lnew{its:List Q3}{t':Nat}(I:Inv X pins σ H s)(hv:bR ys its)(hz:ys.length<=QB) :
  Inv X pins σ (upd H s.heap.objs.size (.lst ys)) { s with heap:=s.heap.push { cls:=.type "list",data:=.seq its.toArray },toks:=t' }:=
 I.laid (fun _ _ q=>Q5 _ q) (QQ _) ⟨hz,its,0,hv,QM _ rfl⟩
def Inv.fresh(I:Inv X pins σ H s):H s.heap.objs.size=none:=I.hok.fresh (QQ _)
theorem Inv.lstM(I:Inv X pins σ H s)(hH:H l=some (.lst xs)):xs.length<=QB/\∃(its:List Q3) (n:Nat),bR xs its/\xs.length=its.length/\s.heap.get? l=some { cls:=.type "list",data:=.seq its.toArray n }:=by
 obtain⟨z,its,n,r,e⟩:=I.hok l _ hH;exact⟨z,its,n,r,r.length,e⟩
theorem A7{n:Nat}(h:n<=QB):Builtin.List.listTooLong n=false:=by
 unfold Builtin.List.listTooLong;exact decide_eq_false (by omega)
end
section
variable{X:Cx}
def xM:V->List V->Hp->VK->Prop:=fun x vs H Q=>∃l xs y,x=.ref l/\vs=[y]/\H l=some (.lst xs)/\xs.length<QB/\Q .non (upd H l (.lst (xs++[y])))
theorem mB:MtM X "list.append" xM:=by
 intro pins s σ H x vs v us Q I rx rv h;obtain⟨l,xs,y,rfl,rfl,hH,hz,q⟩:=h;cases rx;obtain⟨u,rfl,ru⟩:=rv.one;obtain⟨z,its,n,r,hl,e⟩:=I.lstM hH;refine call_meets F.slot_list_append ⟨_,e,rfl⟩ F.entry_list_append (F.args_list_append_2 _ _) (PySem.list_append l its.toArray n u (by rw[QD];omega)) ⟨e,?_⟩;refine⟨.non,_,I.lset (its':=its++[u]) hH e (by simp) (r.append (.cons ru .nil)) ?_,rfl,q⟩;rw[QC,List.length_singleton];omega
def Cq:V->List V->Hp->VK->Prop:=fun x vs H Q=>∃l xs i k y,x=.ref l/\vs=[.int i]/\H l=some (.lst xs)/\-(2^63)<=i/\i<2^63/\seqIndex? i xs.length=some k/\xs[k]?=some y/\Q y (upd H l (.lst (xs.eraseIdx k)))
theorem A9:MtM X "list.pop" Cq:=by
 intro pins s σ H x vs v us Q I rx rv h;obtain⟨l,xs,i,k,y,rfl,rfl,hH,h1,h2,hk,hy,q⟩:=h;cases rx;obtain⟨u,rfl,ru⟩:=rv.one;obtain⟨t,rfl⟩:=ru;obtain⟨z,its,n,r,hl,e⟩:=I.lstM hH;obtain⟨w,hw,rw'⟩:=r.get hy;refine call_meets F.slot_list_pop ⟨_,e,rfl⟩ F.entry_list_pop (F.args_list_pop_2 _ _)
  (MeetsSeq.list_pop_at l its.toArray n i t k w (fitsIndex_both h1 h2) (by rw[QD,<-hl];exact hk) (by rw[<-Zv];exact hw) (by rw[QD];omega)) ⟨e,?_⟩
 refine⟨y,_,I.lset (its':=its.eraseIdx k) hH e ?_ (r.eraseIdx k) ?_,rw',q⟩
 ·show its.toArray.eraseIdxIfInBounds k=(its.eraseIdx k).toArray;rw[List.eraseIdxIfInBounds_toArray]
 ·have:=qF xs k;omega
def Jj:R2:=fun x y H Q=>∃l b xs zs,x=.ref l/\y=.ref b/\H l=some (.lst xs)/\H b=some (.lst zs)/\xs.length+zs.length<=QB/\∀p,H p=none->Q (.ref p) (upd H p (.lst (xs++zs)))
theorem HX:OpR X (binaryOp .Add) Jj:=by
 intro pins s σ H x y v u Q I rx ry h;obtain⟨l,b,xs,zs,rfl,rfl,hH,hB,hz,q⟩:=h;cases rx;cases ry;obtain⟨z,its,n,r,hl,e⟩:=I.lstM hH;obtain⟨z2,its2,n2,r2,hl2,e2⟩:=I.lstM hB;refine PySem.P.add_list e e2 ?_ (by rw[QD,QD];omega);have ea:its.toArray++its2.toArray=(its++its2).toArray:=by simp
 rw[ea];exact⟨.ref _,_,I.lnew (t':=s.toks) (r.append r2) (by rw[QC];omega),rfl,q _ I.fresh⟩
def KJ:R2:=fun x y H Q=>∃l k xs,x=.ref l/\y=.int k/\H l=some (.lst xs)/\-(2^63)<=k/\k<2^63/\xs.length*k.toNat<=QB/\
 ∀p,H p=none->Q (.ref p) (upd H p (.lst (QY k.toNat xs).flatten))
theorem sP{α:Type}(xs:List α)(k:Nat):(QY k xs).flatten.length=k*xs.length:=by
 induction k with
 |zero=>simp
 |succ k ih=>rw[ZO,Zf,QC,ih,Nat.succ_mul,Nat.add_comm]
theorem HV:OpR X (binaryOp .Mult) KJ:=by
 intro pins s σ H x y v u Q I rx ry h;obtain⟨l,k,xs,rfl,rfl,hH,h1,h2,hz,q⟩:=h;cases rx;obtain⟨t,rfl⟩:=ry;obtain⟨z,its,n,r,hl,e⟩:=I.lstM hH;have hlen:its.toArray.size*k.toNat<=QB:=by rw[QD,<-hl];exact hz
 have hcap:¬its.toArray.size*k.toNat>(2^63-1) / 8:=by
  have:(QB:Nat)<=(2^63-1) / 8:=by decide
  omega
 have hfit:¬(!Builtin.List.listFitsIndex k)=true:=by
  rw[fitsIndex_both h1 h2];exact Q6
 have hlong:¬Builtin.List.listTooLong (its.toArray.size*k.toNat)=true:=by
  rw[A7 hlen];exact Q6
 have hnew:List.foldl (fun x1 x2=>x1++x2) #[] (QY (if its.toArray.isEmpty=true then 0 else k.toNat) its.toArray)=(QY k.toNat its).flatten.toArray:=by
  have f0:∀m:Nat,List.foldl (fun x1 x2=>x1++x2) #[] (QY m its.toArray)=(QY m its).flatten.toArray:=fun m=>by
   have:=mO its m [];rw[Qs]at this;exact this
  rw[f0];cases its with
  |nil=>simp
  |cons a r'=>rw[if_neg (by simp)]
 refine wpAny_binaryOp_repeat_ref (T:="list") (U:="int") (by decide) ⟨_,e,rfl⟩ (fun s'=>typeIs_int s' k t) noFill_list_mul F.fills_int_mul F.slot_int_rmul repeat_list F.slot_int_index.lookup
  (call_meets F.slot_int_rmul (typeIs_int s k t) F.entry_int_rmul (F.args_int_rmul_2 _ _) (int___rmul___int_list k t l its.toArray n)
   ⟨e,rfl,⟨_,e,rfl⟩,call_meets F.slot_list_mul ⟨_,e,rfl⟩ F.entry_list_mul (F.args_list_mul_2 _ _) (AutoListH.list___mul___list_int_3 l its.toArray n k t hfit hcap hlong) ⟨e,?_⟩⟩)
 rw[hnew];exact⟨.ref _,_,I.lnew (t':=s.toks) (r.rep k.toNat) (by rw[sP,Nat.mul_comm];exact hz),rfl,q _ I.fresh⟩
end
section
variable{κ:Type}[DecidableEq κ]
def jc(kvs:List (κ×V))(k:κ):Option V:=(kvs.find? fun kv=>decide (kv.1=k)).map (·.2)
def m8(kvs:List (κ×V))(k:κ)(v:V):List (κ×V):=
 if (kvs.any fun kv=>decide (kv.1=k))=true then kvs.map (fun kv=>if kv.1=k then(kv.1,v)else kv)else kvs++[(k,v)]
def pL(kvs:List (κ×V))(k:κ):List (κ×V):=kvs.filter fun kv=>decide (kv.1≠k)
def dZ{p:κ×V}{r:List (κ×V)}{k:κ}(e:p.1=k):jc (p::r) k=some p.2:=by simp[jc,Ql,e]
def d8{p:κ×V}{r:List (κ×V)}{k:κ}(e:¬p.1=k):jc (p::r) k=jc r k:=by simp[jc,Ql,e]
theorem lR(k:κ):∀kvs:List (κ×V),(kvs.any fun kv=>decide (kv.1=k))=(jc kvs k).isSome
 |[]=>rfl
 |p::r=>by
  rw[ZE];by_cases e:p.1=k
  ·simp only[dZ e,decide_eq_true e,Bool.true_or,ZU]
  ·rw[d8 e,decide_eq_false e,Ze];exact lR k r
theorem ug(k j:κ)(y:V):∀kvs:List (κ×V),jc (kvs.map fun kv=>if kv.1=k then(kv.1,y)else kv) j=(jc kvs j).map fun x=>if j=k then y else x
 |[]=>rfl
 |p::r=>by
  have ih:=ug k j y r;rw[QF];by_cases h:p.1=k
  ·rw[if_pos h];by_cases e:p.1=j
   ·rw[dZ (p:=(p.1,y)) e,dZ e,ZF,if_pos (e.symm.trans h)]
   ·rw[d8 (p:=(p.1,y)) e,d8 e,ih]
  ·rw[if_neg h];by_cases e:p.1=j
   ·rw[dZ (p:=p) e,dZ e,ZF,if_neg (fun z=>h (e.trans z))]
   ·rw[d8 (p:=p) e,d8 e,ih]
theorem qh(k j:κ)(y:V):∀kvs:List (κ×V),jc kvs k=none->jc (kvs++[(k,y)]) j=if j=k then some y else jc kvs j
 |[],_=>by
  by_cases e:k=j
  ·rw[if_pos e.symm];exact dZ (p:=(k,y)) e
  ·rw[if_neg (fun z=>e z.symm)];exact d8 (p:=(k,y)) e
 |p::r,hn=>by
  rw[ZH];have hk:¬p.1=k:=fun z=>by rw[dZ z]at hn;cases hn
  rw[d8 hk]at hn;have ih:=qh k j y r hn;by_cases e:p.1=j
  ·rw[dZ e,dZ e,if_neg (fun z=>hk (e.trans z))]
  ·rw[d8 e,d8 e,ih]
theorem An(kvs:List (κ×V))(k j:κ)(y:V):jc (m8 kvs k y) j=if j=k then some y else jc kvs j:=by
 unfold m8;by_cases a:(kvs.any fun kv=>decide (kv.1=k))=true
 ·rw[if_pos a,ug];rw[lR]at a;by_cases e:j=k
  ·obtain⟨x,hx⟩:=ZQ.mp a;rw[if_pos e,e,hx,ZF,if_pos rfl]
  ·rw[if_neg e];cases jc kvs j with
   |none=>rfl
   |some x=>rw[ZF,if_neg e]
 ·rw[if_neg a];refine qh k j y kvs ?_;rw[lR]at a;cases q:jc kvs k with
  |none=>rfl
  |some x=>rw[q]at a;exact(a rfl).elim
theorem jB(kvs:List (κ×V))(k:κ)(v:V):(m8 kvs k v).length<=kvs.length+1:=by
 unfold m8;split
 ·rw[Q8];omega
 ·rw[QC,QV,Zh];omega
theorem pX.isSome_eq{o:Option V}{u:Option Q3}(r:pX o u):o.isSome=u.isSome:=by
 cases o with
 |none=>cases u with
  |none=>rfl
  |some _=>exact(show False from r).elim
 |some _=>cases u with
  |none=>exact(show False from r).elim
  |some _=>rfl
theorem pX.getD{o:Option V}{u:Option Q3}{d:V}{d':Q3}(r:pX o u)(rd:cE d d'):cE (o.getD d) (u.getD d'):=by
 cases o with
 |none=>cases u with
  |none=>exact rd
  |some _=>exact(show False from r).elim
 |some _=>cases u with
  |none=>exact(show False from r).elim
  |some _=>exact r
theorem KV.val{kvs:List (κ×V)}{vs:List (κ×Q3)}(r:KV kvs vs)(k:κ):pX (jc kvs k) (valueAt vs k):=by
 unfold KV at r;induction r with
 |nil=>exact True.intro
 |@cons p q ps qs h t ih=>
  obtain⟨h1,h2⟩:=h;by_cases e:p.1=k
  ·have e':q.1=k:=h1.symm.trans e;have b:valueAt (q::qs) k=some q.2:=by simp[valueAt,Ql,e']
   rw[dZ e,b];exact h2
  ·have e':¬q.1=k:=fun z=>e (h1.trans z);have b:valueAt (q::qs) k=valueAt qs k:=by simp[valueAt,Ql,e']
   rw[d8 e,b];exact ih
theorem KV.any{kvs:List (κ×V)}{vs:List (κ×Q3)}(r:KV kvs vs)(k:κ):(kvs.any fun kv=>decide (kv.1=k))=vs.any fun kv=>decide (kv.1=k):=by
 unfold KV at r;induction r with
 |nil=>rfl
 |cons h t ih=>rw[ZE,ZE,ih,h.1]
theorem KV.repl{kvs:List (κ×V)}{vs:List (κ×Q3)}(r:KV kvs vs)(k:κ){y:V}{u:Q3}(ry:cE y u) :
  KV (kvs.map fun kv=>if kv.1=k then(kv.1,y)else kv) (vs.map fun kv=>if kv.1=k then(kv.1,u)else kv):=by
 unfold KV at r ⊢;induction r with
 |nil=>exact .nil
 |@cons p q ps qs h t ih=>
  rw[QF,QF];refine .cons ?_ ih;obtain⟨h1,h2⟩:=h;by_cases e:p.1=k
  ·rw[if_pos e,if_pos (h1.symm.trans e)];exact⟨h1,ry⟩
  ·rw[if_neg e,if_neg (fun z=>e (h1.trans z))];exact⟨h1,h2⟩
theorem KV.put{kvs:List (κ×V)}{vs:List (κ×Q3)}(r:KV kvs vs)(k:κ){y:V}{u:Q3}(ry:cE y u):KV (m8 kvs k y) (stored vs k u):=by
 unfold m8 stored;rw[r.any k];by_cases e:(vs.any fun kv=>decide (kv.1=k))=true
 ·rw[if_pos e,if_pos e];exact r.repl k ry
 ·rw[if_neg e,if_neg e];exact Paired.snoc r ⟨rfl,ry⟩
theorem KV.drop{kvs:List (κ×V)}{vs:List (κ×Q3)}(r:KV kvs vs)(k:κ):KV (pL kvs k) (without vs k):=by
 unfold KV at r ⊢;unfold pL without;induction r with
 |nil=>exact .nil
 |@cons p q ps qs h t ih=>
  obtain⟨h1,h2⟩:=h;rw[List.filter_cons,List.filter_cons];by_cases e:p.1=k
  ·have a:¬decide (p.1≠k)=true:=by simp[e]
   have b:¬decide (q.1≠k)=true:=by simp[h1.symm.trans e]
   rw[if_neg a,if_neg b];exact ih
  ·have e':¬q.1=k:=fun z=>e (h1.trans z);have a:decide (p.1≠k)=true:=by simp[e]
   have b:decide (q.1≠k)=true:=by simp[e']
   rw[if_pos a,if_pos b];exact .cons ⟨h1,h2⟩ ih
def KV.length{kvs:List (κ×V)}{vs:List (κ×Q3)}(r:KV kvs vs):kvs.length=vs.length:=Paired.length r
def BF(kvs:List (κ×V))(k:κ):(pL kvs k).length<=kvs.length:=List.length_filter_le _ _
end
theorem qG{P:Qx}{w:Qg}{k:Key}{u:Q3}(r:cE (kV k) u):(bC P w).is k u=true:=by
 cases k with
 |inl i=>obtain⟨t,e⟩:=(show ∃t,u=Value.int i t from r);subst e;exact sM P w i t
 |inr x=>obtain⟨t,e⟩:=(show ∃t,u=Value.str x t from r);subst e;exact sL P w x t
theorem qH{P:Qx}{w:Qg}:∀{ks:List Key} {us:List Q3},bR (ks.map kV) us->ItemsAre (bC P w) ks us
 |[],_,r=>by rw[ZY]at r;cases r;exact .nil
 |k::ks,_,r=>by
  rw[QF]at r;cases r with
  |cons h t=>exact .cons (qG h) (qH t)
abbrev KT(H:Hp):List (List Key×V)->List (List Key×Addr×Q3)->Prop:=Paired fun p q=>p.1=q.1/\H q.2.1=some (.tup (p.1.map kV))/\cE p.2 q.2.2
theorem KT.val{H:Hp}{kvs:List (List Key×V)}{xs:List (List Key×Addr×Q3)}(r:KT H kvs xs)(k:List Key):pX (jc kvs k) ((atKey xs k).map (·.2)):=by
 induction r with
 |nil=>exact True.intro
 |@cons p q ps qs h t ih=>
  obtain⟨h1,_,h2⟩:=h;by_cases e:p.1=k
  ·have e':q.1=k:=h1.symm.trans e;have b:atKey (q::qs) k=some q.2:=by simp[atKey,Ql,e']
   rw[dZ e,b];exact h2
  ·have e':¬q.1=k:=fun z=>e (h1.trans z);have b:atKey (q::qs) k=atKey qs k:=by simp[atKey,Ql,e']
   rw[d8 e,b];exact ih
theorem KT.repl{H:Hp}{kvs:List (List Key×V)}{xs:List (List Key×Addr×Q3)}(r:KT H kvs xs)(k:List Key){y:V}{u:Q3}(ry:cE y u) :
  KT H (kvs.map fun kv=>if kv.1=k then(kv.1,y)else kv) (xs.map (putAt k u)):=by
 induction r with
 |nil=>exact .nil
 |@cons p q ps qs h t ih=>
  rw[QF,QF];refine .cons ?_ ih;obtain⟨h1,h2,h3⟩:=h;unfold putAt;by_cases e:p.1=k
  ·rw[if_pos e,if_pos (h1.symm.trans e)];exact⟨h1,h2,ry⟩
  ·rw[if_neg e,if_neg (fun z=>e (h1.trans z))];exact⟨h1,h2,h3⟩
theorem KT.put{H:Hp}{kvs:List (List Key×V)}{xs:List (List Key×Addr×Q3)}(r:KT H kvs xs)(k:List Key){b:Addr}{y:V}{u:Q3}(hb:H b=some (.tup (k.map kV)))(ry:cE y u) :
  KT H (m8 kvs k y) (storedH xs k b u):=by
 have e:(kvs.any fun kv=>decide (kv.1=k))=(atKey xs k).isSome:=by
  rw[lR,(r.val k).isSome_eq,Option.isSome_map]
 unfold m8 storedH;rw[e];by_cases q:(atKey xs k).isSome=true
 ·rw[if_pos q,if_pos q];exact r.repl k ry
 ·rw[if_neg q,if_neg q];exact Paired.snoc r ⟨rfl,hb,ry⟩
theorem KT.keeps{H H':Hp}{kvs:List (List Key×V)}{xs:List (List Key×Addr×Q3)}(r:KT H kvs xs)(ht:∀b ys,H b=some (.tup ys)->H' b=some (.tup ys)):KT H' kvs xs:=
 Paired.mapP r fun _ _ z=>⟨z.1,ht _ _ z.2.1,z.2.2⟩
section
variable{P:Qx}{w:Qg}{H:Hp}{h:Heap}{a:Addr}
def Hh{u:HO}(ok:HOk P w H h)(e:Rd H a u):dr P w H h a u:=e.ok ok
theorem rC{kvs:List (Key×V)}(ok:HOk P w H h)(e:Rd H a (.dK kvs)):kvs.length<=QB/\(a == sysModules)=false/\∃vs,KV kvs vs/\h.DictOf (bC P w) a vs:=
 show dr P w H h a (.dK kvs)from Hh ok e
theorem pM{kvs:List (Key×V)}(ok:HOk P w H h)(e:H a=some (.dK kvs)):kvs.length<=QB/\(a == sysModules)=false/\∃vs,KV kvs vs/\h.DictOf (bC P w) a vs:=rC ok (.inl e)
theorem n5{ks:List Key}(ok:HOk P w H h)(e:H a=some (.tup (ks.map kV))):(tupleKind (bC P w)).is h ks a:=by
 obtain⟨_,its,r,o,h1,h2,n,h3⟩:=(show dr P w H h a (.tup (ks.map kV))from ok a _ e);exact⟨o,its.toArray,n,h1,h2,h3,by simpa using qH r⟩
theorem rA{kvs:List (List Key×V)}(ok:HOk P w H h)(e:Rd H a (.dT kvs)):kvs.length<=QB/\(a == sysModules)=false/\
  ∃xs,KT H kvs xs/\h.DictOfH (tupleKind (bC P w)) a xs:=by
 obtain⟨z,y,xs,r,o,es,ep,h1,h2,h3,h4,h5⟩:=(show dr P w H h a (.dT kvs)from Hh ok e);refine⟨z,y,xs,r,o,es,ep,h1,h2,h3,h4,fun x hx=>?_,h5⟩;have all:∀{l:List (List Key×V)} {m:List (List Key×Addr×Q3)},KT H l m->∀x∈m,(tupleKind (bC P w)).is h x.1 x.2.1:=by
  intro l m q;induction q with
  |nil=>intro x hx;exact nomatch hx
  |@cons p q ps qs hq t ih=>
   intro x hx;rcases Qq.mp hx with e|hx
   ·subst e;exact n5 ok (by rw[<-hq.1];exact hq.2.1)
   ·exact ih x hx
 exact all r x hx
theorem Ls{kvs:List (List Key×V)}(ok:HOk P w H h)(e:H a=some (.dT kvs)):kvs.length<=QB/\(a == sysModules)=false/\
  ∃xs,KT H kvs xs/\h.DictOfH (tupleKind (bC P w)) a xs:=rA ok (.inl e)
end
def DGet(H:Hp)(a:Addr)(y:V)(r:Option V):Prop:=
 (∃kvs k,Rd H a (.dK kvs)/\y=kV k/\r=jc kvs k)\/∃kvs k b,Rd H a (.dT kvs)/\y=.ref b/\H b=some (.tup (k.map kV))/\r=jc kvs k
def Jf(H:Hp)(a:Addr)(y v:V)(H':Hp):Prop:=
 (∃kvs k,H a=some (.dK kvs)/\y=kV k/\kvs.length<QB/\H'=upd H a (.dK (m8 kvs k v)))\/
 ∃kvs k b,H a=some (.dT kvs)/\y=.ref b/\H b=some (.tup (k.map kV))/\kvs.length<QB/\H'=upd H a (.dT (m8 kvs k v))
theorem DGet.k{H:Hp}{a:Addr}{kvs:List (Key×V)}{k:Key}(e:H a=some (.dK kvs)):DGet H a (kV k) (jc kvs k):=.inl ⟨kvs,k,.inl e,rfl,rfl⟩
theorem Jf.k{H:Hp}{a:Addr}{kvs:List (Key×V)}{k:Key}{v:V}(e:H a=some (.dK kvs))(hl:kvs.length<QB):Jf H a (kV k) v (upd H a (.dK (m8 kvs k v))):=.inl ⟨kvs,k,e,rfl,hl,rfl⟩
section
variable{X:Cx}{pins:List (Addr×Obj)}{σ:St}{H:Hp}{s:Q4}{a:Addr}{y v:V}{u r:Q3}{o:Option V}{A:Qd}{E:Q3->Q4->Prop}
theorem Inv.big(I:Inv X pins σ H s):sysModules<s.heap.objs.size:=by
 have h:mainGlobals<s.heap.objs.size:=(I.mod.glob.keeps I.bk).lt;exact Nat.lt_trans (by decide) h
theorem zf{Q:Q3->Q4->Prop}(hu:A.units+1<cLine)(I:Inv X pins σ H s)(g:DGet H a y (some v))(ry:cE y u)(h:∀w' s',Inv X pins σ H s'->cE v w'->Q w' s') :
  wpAny (Qz X.prog X.w) A (getItem (.ref a) u) Q E s:=by
 rcases g with⟨kvs,k,e,ey,l⟩|⟨kvs,k,b,e,ey,eb,l⟩
 ·subst ey;obtain⟨z,hd,vs,rel,dd⟩:=rC I.hok e;obtain⟨w',hw,rw'⟩:=pX.some_of (v:=v) (o:=valueAt vs k) (by rw[l];exact rel.val k);exact wpAny_getItem_of (qG ry) dd.mapOf hw (h w' _ (I.tok _) rw')
 ·subst ey;cases (show u=Value.ref b from ry);obtain⟨z,hd,xs,rel,dd⟩:=rA I.hok e;obtain⟨w',hw,rw'⟩:=pX.some_of (v:=v) (o:=(atKey xs k).map (·.2)) (by rw[l];exact rel.val k);obtain⟨p,hp,hp2⟩:=Z0.mp hw;refine wpAny_getItem_heap (tupleKind_room_in1 hu) (n5 I.hok eb) dd hp ?_;rw[hp2];exact h w' _ (I.tok _) rw'
theorem Nk{Q:Q3->Q4->Prop}(hu:A.units+1<cLine)(I:Inv X pins σ H s)(g:DGet H a y o)(ry:cE y u)(h:∀s',Inv X pins σ H s'->Q (.bool o.isSome) s') :
  wpAny (Qz X.prog X.w) A (compareOp .In u (.ref a)) Q E s:=by
 rcases g with⟨kvs,k,e,ey,l⟩|⟨kvs,k,b,e,ey,eb,l⟩
 ·subst ey;obtain⟨z,hd,vs,rel,dd⟩:=rC I.hok e;refine wpAny_in_of (qG ry) hd dd.mapOf ?_;rw[<-(rel.val k).isSome_eq,<-l];exact h _ (I.tok _)
 ·subst ey;cases (show u=Value.ref b from ry);obtain⟨z,hd,xs,rel,dd⟩:=rA I.hok e;refine wpAny_in_heap (tupleKind_room_in1 hu) (n5 I.hok eb) hd dd ?_;have q:=(rel.val k).isSome_eq;rw[Option.isSome_map]at q;rw[<-q,<-l];exact h _ (I.tok _)
theorem Fz{Q:Q3->Q4->Prop}(hu:A.units+1<cLine)(I:Inv X pins σ H s)(g:DGet H a y o)(ry:cE y u)(h:∀s',Inv X pins σ H s'->Q (.bool (!o.isSome)) s') :
  wpAny (Qz X.prog X.w) A (compareOp .NotIn u (.ref a)) Q E s:=by
 rcases g with⟨kvs,k,e,ey,l⟩|⟨kvs,k,b,e,ey,eb,l⟩
 ·subst ey;obtain⟨z,hd,vs,rel,dd⟩:=rC I.hok e;refine wpAny_notIn_of (qG ry) hd dd.mapOf ?_;rw[<-(rel.val k).isSome_eq,<-l];exact h _ (I.tok _)
 ·subst ey;cases (show u=Value.ref b from ry);obtain⟨z,hd,xs,rel,dd⟩:=rA I.hok e;refine wpAny_notIn_heap (tupleKind_room_in1 hu) (n5 I.hok eb) hd dd ?_;have q:=(rel.val k).isSome_eq;rw[Option.isSome_map]at q;rw[<-q,<-l];exact h _ (I.tok _)
theorem pQ{h':Heap}{t':Nat}{ob:HO}(I:Inv X pins σ H s)(mu:Mut (H a))(hs:Heap.SameBut a s.heap h')(he:∃q,h'.get? a=some q)(new:dr X.prog X.w (upd H a ob) h' a ob) :
  Inv X pins σ (upd H a ob) { s with heap:=h',toks:=t' }:=
 I.write (x:=a) (e:=a) mu (.inl rfl) (fun b q hb z=>(hs.2 b hb).trans z) he new
theorem y9{P:Qx}{w:Qg}{H':Hp}{h':Heap}{kvs:List (Key×V)}{vs:List (Key×Q3)}(z:kvs.length<=QB)(hd:(a == sysModules)=false)(rel:KV kvs vs)(dd:h'.DictOf (bC P w) a vs) :
  dr P w H' h' a (.dK kvs):=⟨z,hd,vs,rel,dd⟩
theorem ze{H':Hp}{Q:Unit->Q4->Prop}(hu:A.units+1<cLine)(I:Inv X pins σ H s)(g:Jf H a y v H')(ry:cE y u)(rv:cE v r)(h:∀s',Inv X pins σ H' s'->Q () s') :
  wpAny (Qz X.prog X.w) A (setItem (.ref a) u r) Q E s:=by
 rcases g with⟨kvs,k,e,ey,l,eH⟩|⟨kvs,k,b,e,ey,eb,l,eH⟩
 ·subst ey eH;obtain⟨z,hd,vs,rel,dd⟩:=pM I.hok e;have hz:vs.length<=QB:=by rw[<-rel.length];exact z
  have hl:(m8 kvs k v).length<=QB:=by have:=jB kvs k v;omega
  refine wpAny_setItem_pairs (hsz:=hz) (qG ry) dd fun h' dd' hs=>h _ ?_;have he:∃q,h'.get? a=some q:=let ⟨q,_,_,hq,_⟩:=dd';⟨q,hq⟩
  exact pQ I (by rw[e];exact True.intro) hs he (y9 hl hd (rel.put k rv) dd')
 ·subst ey eH;cases (show u=Value.ref b from ry);obtain⟨z,hd,xs,rel,dd⟩:=Ls I.hok e;have hz:xs.length<=QB:=by rw[<-Paired.length rel];exact z
  have hl:(m8 kvs k v).length<=QB:=by have:=jB kvs k v;omega
  refine wpAny_setItem_heap (hsz:=hz) (tupleKind_room_in1 hu) (n5 I.hok eb) dd fun h' dd' hs=>h _ ?_;obtain⟨q,es,ep,hq,h2,h3,h4,_,h5⟩:=dd';refine pQ I (by rw[e];exact True.intro) hs ⟨q,hq⟩ ⟨hl,hd,_,(rel.put k eb rv).keeps fun c ys ec=>?_,q,es,ep,hq,h2,h3,h4,h5⟩;rw[aP (Lc ec e (fun z=>nomatch z))];exact ec
end
section
variable{X:Cx}{pins:List (Addr×Obj)}{σ:St}{H:Hp}{s:Q4}{a:Addr}{kvs:List (Key×V)}{k:Key}{u:Q3}{A:Qd}{E:Q3->Q4->Prop}
theorem Lu{v:V}{more:List Q3}{Q:Q3->Q4->Prop}(I:Inv X pins σ H s)(e:H a=some (.dK kvs))(ry:cE (kV k) u)(l:jc kvs k=some v)(hm:more=[]\/∃x,more=[x])
  (h:∀w' s',Inv X pins σ (upd H a (.dK (pL kvs k))) s'->cE v w'->Q w' s'):wpAny (Qz X.prog X.w) A (call (.builtin "dict.pop") (.ref a::u::more)) Q E s:=by
 obtain⟨z,hd,vs,rel,dd⟩:=pM I.hok e;obtain⟨w',hw,rw'⟩:=pX.some_of (v:=v) (o:=valueAt vs k) (by rw[<-l];exact rel.val k);have hp:(keyPart u).isSome=true:=by
  cases k with
  |inl i=>obtain⟨t,q⟩:=(show ∃t,u=Value.int i t from ry);subst q;rfl
  |inr x=>obtain⟨t,q⟩:=(show ∃t,u=Value.str x t from ry);subst q;rfl
 have ha:argsOk "dict.pop" ⟨.ref a::u::more,[]⟩:=by
  rcases hm with q|⟨x,q⟩
  ·subst q;exact PySem.F.args_dict_pop_2 _ _
  ·subst q;exact PySem.F.args_dict_pop_3 _ _ _
 refine call_meetsIn PySem.F.slot_dict_pop dd.typeIs PySem.F.entry_dict_pop ha (meets_dict_pop_there (bC X.prog X.w) a (qG ry) more hm hp)
  ⟨vs,w',dd,by rw[<-rel.length];exact z,hw,fun h' dd' hs=>h w' _ ?_ rw'⟩
 have he:∃q,h'.get? a=some q:=let ⟨q,_,_,hq,_⟩:=dd';⟨q,hq⟩
 exact pQ I (by rw[e];exact True.intro) hs he (y9 (Qp (BF kvs k) z) hd (rel.drop k) dd')
theorem Lw{Q:Q3->Q4->Prop}(I:Inv X pins σ H s)(e:Rd H a (.dK kvs))(h:∀t s',Inv X pins σ H s'->Q (.int kvs.length t) s'):wpAny (Qz X.prog X.w) A (call (.builtin "len") [.ref a]) Q E s:=by
 obtain⟨z,hd,vs,rel,dd⟩:=rC I.hok e;refine call_len_dict hd dd (by rw[<-rel.length];rw[sizeLine_eq]at z;omega) ?_;rw[<-rel.length];exact h _ _ (I.tok _)
end
def JB(i:QH):Prop:=∀ov iv,subscripted i false ov iv=operate [ov,iv] (getItem ov iv)
theorem Ed{prog:Qx}{w:Qg}{A:Qd}{E:Q3->Q4->Prop}{s:Q4}{env:Env}{value slice:QH}{pos:Pos}{T id:String}{Q:Q3->Q4->Prop}
  (hl:typeLookup (.type T) "__getitem__"=pure (some (.builtin id))) (hs:JB slice)
  (h:wpAny (Qz prog w) A (eval value env) (fun o s₁=>wpAny (Qz prog w) A (eval slice env) (fun i s₂=>s₂.TypeIs o T/\wpAny (Qz prog w) A (getItem o i) Q E s₂) E s₁) E s) :
  wpAny (Qz prog w) A (eval (.Subscript value slice pos) env) Q E s:=by
 refine Subscript_ (Z6 h (fun o s₁ h₁=>Z6 h₁ (fun i s₂ h₂=>?_) fun _ _ x=>x) fun _ _ x=>x);obtain⟨hT,h₂⟩:=h₂;unfold subscriptTail;refine Q2 ?_;rw[getitemInPython_of_ne hT.not_modules];refine Q2 (wpAny_specialOf hT hl ?_);have fin:wpAny (Qz prog w) A (subscripted slice false o i) (fun r s₃=>wpAny (Qz prog w) A (letTemporaryGo value o r >>= fun _=>pure r) Q E s₃) E s₂:=by
  rw[hs o i];exact wpAny_operating (Z6 h₂ (fun r s₃ h₃=>Q2 (wpAny_letTemporaryGo (QJ h₃))) fun _ _ x=>x)
 first
  |exact QJ (Q2 fin)
  |exact Q2 (QJ (Q2 fin))
  |exact Q2 fin
theorem tK{X:Cx}{pins:List (Addr×Obj)}{σ:St}{H:Hp}{s:Q4}{a:Addr}{y:V}{o:Option V}(I:Inv X pins σ H s)(g:DGet H a y o):s.TypeIs (.ref a) "dict":=by
 rcases g with⟨kvs,k,e,_,_⟩|⟨kvs,k,b,e,_,_,_⟩
 ·obtain⟨_,_,vs,_,dd⟩:=rC I.hok e;exact dd.typeIs
 ·obtain⟨_,_,xs,_,dd⟩:=rA I.hok e;exact dd.typeIs
def G7(td ty:TE):TE:=fun σ H Q=>td σ H fun x H1=>ty σ H1 fun y H2=>∃a v,x=.ref a/\DGet H2 a y (some v)/\Q v H2
def KG(ty td:TE):TE:=fun σ H Q=>ty σ H fun y H1=>td σ H1 fun x H2=>∃a o,x=.ref a/\DGet H2 a y o/\Q (.bl o.isSome) H2
def sC(ty td:TE):TE:=fun σ H Q=>ty σ H fun y H1=>td σ H1 fun x H2=>∃a o,x=.ref a/\DGet H2 a y o/\Q (.bl (!o.isSome)) H2
def He(td ty tv:TE):TS:=fun D σ H=>tv σ H fun v H1=>td σ H1 fun x H2=>ty σ H2 fun y H3=>∃a H4,x=.ref a/\Jf H3 a y v H4/\D.nx σ H4
section
variable{X:Cx}{o i value:QH}{pos pos':Pos}{td ty tv:TE}
theorem EJ(hu:X.A.units+1<cLine)(ho:PE X o td)(hi:PE X i ty)(hs:JB i):PE X (.Subscript o i pos) (G7 td ty):=by
 intro pins s σ H Q I h;refine Ed PySem.F.slot_dict_getitem.lookup hs (thn (ho pins s σ H _ I h) fun u s1 ⟨x,H1,I1,rx,q1⟩=>thn (hi pins s1 σ H1 _ I1 q1) fun iv s2 hz=>?_);obtain⟨y,H2,I2,ry,a,v,ex,g,q2⟩:=hz;subst ex;obtain rfl:u=Value.ref a:=rx;exact⟨tK I2 g,zf hu I2 g ry fun w' s3 I3 rw'=>⟨v,H2,I3,rw',q2⟩⟩
theorem HN(hu:X.A.units+1<cLine)(hi:PE X i ty)(ho:PE X o td):PC X .In i o (KG ty td):=by
 intro pins s σ H Q I h;refine thn (hi pins s σ H _ I h) fun iv s1 ⟨y,H1,I1,ry,q1⟩=>thn (ho pins s1 σ H1 _ I1 q1) fun u s2 hz=>?_;obtain⟨x,H2,I2,rx,a,ov,ex,g,q2⟩:=hz;subst ex;obtain rfl:u=Value.ref a:=rx;exact Nk hu I2 g ry fun s3 I3=>⟨.bl ov.isSome,H2,I3,rfl,q2⟩
theorem xY(hu:X.A.units+1<cLine)(hi:PE X i ty)(ho:PE X o td):PC X .NotIn i o (sC ty td):=by
 intro pins s σ H Q I h;refine thn (hi pins s σ H _ I h) fun iv s1 ⟨y,H1,I1,ry,q1⟩=>thn (ho pins s1 σ H1 _ I1 q1) fun u s2 hz=>?_;obtain⟨x,H2,I2,rx,a,ov,ex,g,q2⟩:=hz;subst ex;obtain rfl:u=Value.ref a:=rx;exact Fz hu I2 g ry fun s3 I3=>⟨.bl (!ov.isSome),H2,I3,rfl,q2⟩
theorem Ez(hu:X.A.units+1<cLine)(ho:PE X o td)(hi:PE X i ty)(hv:PE X value tv)(hs:ZT value (some (.Subscript o i pos')) pos.line X.env=pure false) :
  PS X (.Assign [.Subscript o i pos'] value pos) (He td ty tv):=by
 intro pins s σ H D I h;refine wpAny_Assign_Subscript (thn (hv pins s σ H _ I h) fun r s1 ⟨v,H1,I1,rv,q1⟩=>thn (ho pins s1 σ H1 _ I1 q1) fun u s2 ⟨x,H2,I2,rx,q2⟩=>thn (hi pins s2 σ H2 _ I2 q2) fun iv s3 hz=>?_) hs;obtain⟨y,H3,I3,ry,a,H4,ex,g,q3⟩:=hz;subst ex;obtain rfl:u=Value.ref a:=rx;exact ze hu I3 g ry rv fun s4 I4=>⟨σ,H4,I4,q3⟩
end
theorem vj{P:Qx}{w:Qg}{H:Hp}(h:Heap)(hb:sysModules<h.objs.size):dr P w H (h.push { cls:=.type "dict",data:=.dict #[] }) h.objs.size (.dK []):=
 ⟨ZZ _,beq_eq_false_iff_ne.mpr (Ne.symm (Qj hb)),[],.nil,Heap.DictOf.new h⟩
def Cg:TE:=fun _ H Q=>∀p,H p=none->Q (.ref p) (upd H p (.dK []))
section
variable{X:Cx}{pos:Pos}
theorem AU:PE X (.Dict [] [] pos) Cg:=fun pins s σ H Q I h=>
 wpAny_Dict_empty ⟨.ref s.heap.objs.size,_,I.laid (a:=s.heap.objs.size) (o:=.dK []) (t':=s.toks) (fun _ _ q=>Q5 _ q) (QQ _) (vj s.heap I.big),rfl,h _ (I.hok.fresh (QQ _))⟩
end
def ui:List (TE×TE)->St->Hp->(List (V×V)->Hp->Prop)->Prop
 |[],_,H,Q=>Q [] H
 |(tk,tv)::r,σ,H,Q=>tk σ H fun x H1=>tv σ H1 fun y H2=>ui r σ H2 fun ps H3=>Q ((x,y)::ps) H3
abbrev VV:List (V×V)->List (Q3×Q3)->Prop:=Paired fun p q=>cE p.1 q.1/\cE p.2 q.2
def PPs(X:Cx)(pos:Pos)(keys:List (Option QH))(values:List QH)(trs:List (TE×TE)):Prop:=
 ∀(pins:List (Addr×Obj)) (s:Q4) (σ:St) (H:Hp) (Q:List (V×V)->Hp->Prop),Inv X pins σ H s->ui trs σ H Q->
  wpAny (Qz X.prog X.w) X.A (evalPairs (pairTrees keys values X.env pos)) (fun vs s'=>∃ps H',Inv X pins σ H' s'/\VV ps vs/\Q ps H') X.xe s
def EA{X:Cx}{pos:Pos}:PPs X pos [] [] []:=fun pins s σ H Q I h=>pairTrees_nil_walk ⟨[],H,I,.nil,h⟩
theorem AM{X:Cx}{pos:Pos}{k v:QH}{ks:List (Option QH)}{vs:List QH}{tk tv:TE}{trs:List (TE×TE)}(hk:PE X k tk)(hv:PE X v tv)(hr:PPs X pos ks vs trs) :
  PPs X pos (some k::ks) (v::vs) ((tk,tv)::trs):=fun pins s σ H Q I h=>
 pairTrees_cons_walk (thn (hk pins s σ H _ I h) fun u s1 ⟨x,H1,I1,rx,q1⟩=>thn (hv pins s1 σ H1 _ I1 q1) fun w2 s2 ⟨y,H2,I2,ry,q2⟩=>
  thn (hr pins s2 σ H2 _ I2 q2) fun ws s3 ⟨ps,H3,I3,rel,q3⟩=>⟨(x,y)::ps,H3,I3,.cons ⟨rx,ry⟩ rel,q3⟩)
def lu(kvs more:List (Key×V)):List (Key×V):=more.foldl (fun acc kv=>m8 acc kv.1 kv.2) kvs
theorem KV.merge:∀{more:List (Key×V)} {rs:List (Key×Q3)} {kvs:List (Key×V)} {vs:List (Key×Q3)},KV more rs->KV kvs vs->KV (lu kvs more) (merged vs rs):=by
 intro more rs kvs vs r;unfold KV at r;induction r generalizing kvs vs with
 |nil=>intro q;exact q
 |@cons p q ps qs h t ih=>
  intro r0;have e:KV (m8 kvs p.1 p.2) (stored vs q.1 q.2):=by
   have:=r0.put p.1 h.2;rw[<-h.1];exact this
  exact ih e
theorem j8:∀(more kvs:List (Key×V)),(lu kvs more).length<=kvs.length+more.length
 |[],kvs=>by show kvs.length<=kvs.length+0;omega
 |p::r,kvs=>by
  have h1:=j8 r (m8 kvs p.1 p.2);have h2:=jB kvs p.1 p.2;show(lu (m8 kvs p.1 p.2) r).length<=_;rw[QV];omega
theorem oa{P:Qx}{w:Qg}:∀{kvs:List (Key×V)} {ws:List (Q3×Q3)},VV (kvs.map fun kv=>(kV kv.1,kv.2)) ws->∃rs,Carries (bC P w) ws rs/\KV kvs rs
 |[],_,r=>by rw[ZY]at r;cases r;exact⟨[],True.intro,.nil⟩
 |p::kvs,_,r=>by
  rw[QF]at r;cases r with
  |@cons a b as bs h t=>
   obtain⟨rs,c,q⟩:=oa (P:=P) (w:=w) t;obtain⟨b1,b2⟩:=b;exact⟨(p.1,b2)::rs,⟨qG h.1,rfl,c⟩,.cons ⟨rfl,h.2⟩ q⟩
def G6(trs:List (TE×TE)):TE:=fun σ H Q=>∀p,H p=none->ui trs σ (upd H p (.dK [])) fun ps H2=>H2 p=some (.dK [])/\∃kvs:List (Key×V),ps=kvs.map (fun kv=>(kV kv.1,kv.2))/\kvs.length<=15/\Q (.ref p) (upd H2 p (.dK (lu [] kvs)))
theorem EI{X:Cx}{pos:Pos}{keys:List (Option QH)}{values:List QH}{trs:List (TE×TE)}(h:PPs X pos keys values trs)(hall:keys.all (·.isSome)=true)(hl:keys.length=values.length)(h0:keys≠[])
  (h15:keys.length<=15):PE X (.Dict keys values pos) (G6 trs):=by
 intro pins s σ H Q I q;have hn:=I.hok.fresh (QQ s.heap.objs.size);have I1:=I.laid (a:=s.heap.objs.size) (o:=.dK []) (h':=s.heap.push { cls:=.type "dict",data:=.dict #[] }) (t':=s.toks) (fun _ _ q=>Q5 _ q) (QQ _) (vj s.heap I.big);refine wpAny_Dict_walk (knd:=bC X.prog X.w) hall hl h0 h15 (thn (h pins _ σ _ _ I1 (q _ hn)) fun ws s2 hz=>?_);obtain⟨ps,H2,I2,rel,e,kvs,ep,lk,q2⟩:=hz;subst ep;obtain⟨rs,c,rk⟩:=oa (P:=X.prog) (w:=X.w) rel;obtain⟨z,hd,vs0,r0,dd⟩:=pM I2.hok e;cases r0;refine⟨rs,c,dd,fun h' dd' hs=>⟨.ref s.heap.objs.size,_,?_,rfl,q2⟩⟩;have hz:(lu [] kvs).length<=QB:=by
  have h1:=j8 kvs [];rw[Zh]at h1;rw[sizeLine_eq];omega
 have he:∃q,h'.get? s.heap.objs.size=some q:=let ⟨q,_,_,hq,_⟩:=dd';⟨q,hq⟩
 exact pQ I2 (by rw[e];exact True.intro) hs he (y9 hz hd (rk.merge .nil) dd')
structure M1(X:Cx)(o:QH)(m:Str)(apos:Pos)(e:QH)(cpos:Pos):Prop where
 base:attributeBase o m X.env (eval o X.env)=eval o X.env
 few:((Z9 cpos (QR [e] X.env)).all (fun x=>!x.1)&&(backToKw cpos (keywordEach [] X.env)).all (fun x=>x.1.isSome)
  && decide (([e]:List QH).length+([]:List Keyword).length+(if ([]:List Keyword).isEmpty then 0 else 1)<30))=true
 line:(apos.endLine == cpos.line)=true
 trees:Z9 cpos (QR [e] X.env)=[(false,eval e X.env)]
structure M2(X:Cx)(o:QH)(m:Str)(apos:Pos)(e f:QH)(cpos:Pos):Prop where
 base:attributeBase o m X.env (eval o X.env)=eval o X.env
 few:((Z9 cpos (QR [e,f] X.env)).all (fun x=>!x.1)&&(backToKw cpos (keywordEach [] X.env)).all (fun x=>x.1.isSome)
  && decide (([e,f]:List QH).length+([]:List Keyword).length+(if ([]:List Keyword).isEmpty then 0 else 1)<30))=true
 line:(apos.endLine == cpos.line)=true
 trees:Z9 cpos (QR [e,f] X.env)=[(false,eval e X.env),(false,eval f X.env)]
def IsD(H:Hp)(a:Addr):Prop:=(∃kvs,Rd H a (.dK kvs))\/∃kvs,Rd H a (.dT kvs)
theorem CJ{X:Cx}{pins:List (Addr×Obj)}{σ:St}{H:Hp}{s:Q4}{a:Addr}(I:Inv X pins σ H s)(d:IsD H a) :
  s.TypeIs (.ref a) "dict"/\(∀b,Value.ref a=.ref b->∃ob,s.heap.get? b=some ob/\ob.dict=none)/\(a == sysModules)=false:=by
 rcases d with⟨kvs,e⟩|⟨kvs,e⟩
 ·obtain⟨_,hd,vs,_,dd⟩:=rC I.hok e;refine⟨dd.typeIs,fun b q=>?_,hd⟩;cases q;obtain⟨ob,_,_,h1,h2,_⟩:=dd;exact⟨ob,h1,h2.2.1⟩
 ·obtain⟨_,hd,xs,_,dd⟩:=rA I.hok e;refine⟨dd.typeIs,fun b q=>?_,hd⟩;cases q;obtain⟨ob,_,_,h1,h2,_⟩:=dd;exact⟨ob,h1,h2.2.1⟩
section
variable{X:Cx}{pins:List (Addr×Obj)}{σ:St}{H:Hp}{s:Q4}{a:Addr}{y d:V}{u r:Q3}{o:Option V}{A:Qd}{E:Q3->Q4->Prop}
theorem IU{Q:Q3->Q4->Prop}(hu:A.units+1<cLine)(I:Inv X pins σ H s)(g:DGet H a y o)(ry:cE y u)(rd:cE d r)(h:∀w' s',Inv X pins σ H s'->cE (o.getD d) w'->Q w' s') :
  wpAny (Qz X.prog X.w) A (call (.builtin "dict.get") [.ref a,u,r]) Q E s:=by
 rcases g with⟨kvs,k,e,ey,l⟩|⟨kvs,k,b,e,ey,eb,l⟩
 ·subst ey;obtain⟨z,hd,vs,rel,dd⟩:=rC I.hok e;refine call_meetsIn PySem.F.slot_dict_get dd.typeIs PySem.F.entry_dict_get (PySem.F.args_dict_get_3 _ _ _) (meets_dict_get_default (bC X.prog X.w) a (qG ry) hd r) ⟨_,dd.mapOf,h _ _ (I.tok _) ?_⟩;rw[l];exact(rel.val k).getD rd
 ·subst ey;cases (show u=Value.ref b from ry);obtain⟨z,hd,xs,rel,dd⟩:=rA I.hok e;refine call_meetsIn PySem.F.slot_dict_get dd.typeIs PySem.F.entry_dict_get (PySem.F.args_dict_get_3 _ _ _) (meetsH_dict_get_default (tupleKind (bC X.prog X.w)) a b hd r) ⟨tupleKind_room_in1 hu,k,xs,n5 I.hok eb,dd,h _ _ (I.tok _) ?_⟩;rw[l];exact(rel.val k).getD rd
end
def Ci(td ty tx:TE):TE:=fun σ H Q=>td σ H fun x H1=>∃a,x=.ref a/\IsD H1 a/\ty σ H1 fun y H2=>tx σ H2 fun z H3=>∃o,DGet H3 a y o/\Q (o.getD z) H3
def Ce(td ty:TE):TE:=fun σ H Q=>td σ H fun x H1=>∃a,x=.ref a/\IsD H1 a/\ty σ H1 fun y H2=>∃kvs k v,H2 a=some (.dK kvs)/\y=kV k/\jc kvs k=some v/\Q v (upd H2 a (.dK (pL kvs k)))
section
variable{X:Cx}{o e f:QH}{apos cpos:Pos}{td ty tx:TE}
theorem AV(hu:X.A.units+1<cLine)(ho:PE X o td)(he:PE X e ty)(hf:PE X f tx)(m:M2 X o "get" apos e f cpos):PE X (.Call (.Attribute o "get" apos) [e,f] [] cpos) (Ci td ty tx):=by
 intro pins s σ H Q I h;refine wpAny_Call_method m.base m.few m.line PySem.F.plainAttrs_dict PySem.F.slot_dict_get PySem.F.type_dict_get (thn (ho pins s σ H _ I h) fun u s1 hz=>?_);obtain⟨x,H1,I1,rx,a,ex,d,q1⟩:=hz;subst ex;obtain rfl:u=Value.ref a:=rx;obtain⟨t1,t2,_⟩:=CJ I1 d;refine⟨t1,t2,?_⟩;rw[m.trees];refine Calls.callWith_builtin rfl (Calls.evalArgs_plain (Calls.spliced_cons (thn (he pins s1 σ H1 _ I1 q1) fun iv s2 ⟨y,H2,I2,ry,q2⟩=>
  Calls.spliced_cons (thn (hf pins s2 σ H2 _ I2 q2) fun fv s3 ⟨z,H3,I3,rz,ov,g,q3⟩=>Calls.spliced_nil ?_))))
 exact IU hu I3 g ry rz fun w' s4 I4 rw'=>⟨_,H3,I4,rw',q3⟩
theorem AS(ho:PE X o td)(he:PE X e ty)(m:M1 X o "pop" apos e cpos):PE X (.Call (.Attribute o "pop" apos) [e] [] cpos) (Ce td ty):=by
 intro pins s σ H Q I h;refine wpAny_Call_method m.base m.few m.line PySem.F.plainAttrs_dict PySem.F.slot_dict_pop PySem.F.type_dict_pop (thn (ho pins s σ H _ I h) fun u s1 hz=>?_);obtain⟨x,H1,I1,rx,a,ex,d,q1⟩:=hz;subst ex;obtain rfl:u=Value.ref a:=rx;obtain⟨t1,t2,_⟩:=CJ I1 d;refine⟨t1,t2,?_⟩;rw[m.trees];refine Calls.callWith_builtin rfl (Calls.evalArgs_plain (Calls.spliced_cons (thn (he pins s1 σ H1 _ I1 q1) fun iv s2 ⟨y,H2,I2,ry,kvs,k,v,ea,ey,l,q2⟩=>Calls.spliced_nil ?_)));subst ey;exact Lu I2 ea ry l (.inl rfl) fun w' s3 I3 rw'=>⟨v,_,I3,rw',q2⟩
end
end L2
namespace Att
open PySem PySem.W PySem.Calls PyProof.Rows
theorem mM{P:Params}{h:Heap}:∀(ns:List Int) (vs:List Q3),WellAll P h vs (ns.map WData.int)->IntsAre vs ns:=by
 intro ns;induction ns with
 |nil=>
  intro vs w;rw[ZY]at w;cases w;exact .nil
 |cons n ns ih=>
  intro vs w;rw[QF]at w;cases w with
  |cons a b=>
   cases a;exact .cons _ _ (ih _ b)
theorem xD{l:OpenLaw}{n:Nat}(hn:l.most=some n){P:Params}{h:Heap}{args:List WData}{vals:List Q3}
  (hpre:l.row.toRowW.claim.pre args=true) (hwl:WellAll P h vals args) :
  ∃a vs ns,vals=[Value.ref a]/\args=[WData.list (ns.map WData.int)]/\h.get? a=some { cls:=.type "list",data:=.seq vs.toArray }/\IntsAre vs ns/\ns.length<=n:=by
 have hsh:WShape.hasAll [] args [.list .int]=true:=(pre_splitW hpre).1;have hc:l.pre.holds [] { args:=args }=true:=(pre_splitW hpre).2;obtain⟨d,r,rfl,h1,h2⟩:=hasAllW_cons hsh;obtain rfl:=hasAllW_nil h2;obtain⟨xs,rfl,h3⟩:=hasW_list h1;obtain⟨ns,rfl⟩:=items_int h3;have hlen:ns.length<=n:=by
  unfold OpenLaw.pre at hc;have h4:(WTm.not (.lt (.lit (.int (n:Int))) (.len (.arg 0)))).holds [] { args:=[.list (ns.map .int)] }=true:=by
   have h4:=(holds_andW hc).1;rw[hn]at h4;exact h4
  have h5:=condW_of h4 (w_not (w_lt w_lit (w_len_list (w_arg rfl))));rw[Q8]at h5;refine Nat.le_of_not_lt fun q=>?_;have q':(n:Int)<((ns.length:Nat):Int):=by omega
  first
   |(rw[decide_eq_true q']at h5;exact absurd h5 (by decide))
   |(simp at h5;omega)
 cases hwl with
 |cons w1 w2=>
  cases w2;cases w1 with
  |list ho hall=>exact⟨_,_,ns,rfl,rfl,ho,mM ns _ hall,hlen⟩
theorem xV(l:OpenLaw)(args:List WData):l.row.toRowW.claim.post args (.bool true) args=true:=
 postW_of (r:=l.row.toRowW) (X:=(true == true))
  (show WShape.has [] (.bool true) .bool=true by first|rfl|decide|simp[WShape.has,WShape.arms,WShape.armsAll])
  (show(WTm.eq .res (.lit (.bool true))).value [] { args:=args,res:=some (.bool true),after:=args }=some (.bool (true == true))from w_eq_bool (w_res rfl) w_lit) rfl
theorem attach_call{l:OpenLaw}{n:Nat}{q:Qx}{dW:List Str}{XP:(Str->Option Q3)->Heap->Prop}{YP:Qg->Heap->Prop}{d:DefRec}
  (hn:l.most=some n) (hdf:d.params.defaults=[])
  (call:∀(w:Qg) (s₀ s₁:Q4) (mg mb:Str->Option Q3) (fa:Addr) (o:Obj) (pm cd doc:Q3) (a:Addr) (vs:List Q3) (ns:List Int),
   Ground q dW [] XP w s₀ mg mb s₁.heap->YP w s₁.heap->
   s₁.heap.get? fa=some o->o.data=.func (docDef d.name d.params d.body d.scope pm cd doc)->s₁.heap.CodeRec cd d.name->mg d.name=some (.ref fa)->
   s₁.heap.get? a=some { cls:=.type "list",data:=.seq vs.toArray }->IntsAre vs ns->ns.length<=n->s₁.gens=#[]->
   codeAny (Qz l.prog w) callerA (.call (.ref fa) ⟨[.ref a],[]⟩) (fun r s'=>r=.ok (.ret (.bool true))/\OldK s₁.heap s'.heap/\s'.os=s₁.os/\AllBare s'.gens) s₁) :
  WalkO q dW XP YP l.row.toRowW d [] (fun f vs=>PySem.call f vs):=by
 intro w s₀ s₁ mg mb G Y fa o pm cd doc dV kV ho hd hcd hD hmg hg args vals as hpre hlay hrd hwl hlo;obtain rfl:dV=.none:=Dflts.none hD hdf;obtain rfl:kV=.none:=Dflts.noKw hD;obtain⟨a,vs,ns,rfl,rfl,hobj,hints,hlen⟩:=xD hn hpre hwl;refine enter_call (codeAny_mono (call w s₀ s₁ mg mb fa o pm cd doc a vs ns G Y ho (fd_plain hd) hcd hmg hobj hints hlen hg) fun r s' hq=>?_);obtain⟨rfl,h2,h3,h4⟩:=hq;exact⟨.inl ⟨.bool true,.bool true,[],rfl,fun _=>rfl,.bool true,xV l _,fun _=>⟨List.Pairwise.nil,fun _ hm=>(nomatch hm)⟩⟩,h2,h3,h4⟩
end Att
namespace L2
open PySem PySem.Spec PyProof.Rows
theorem ik:∀{vs:List Q3} {ns:List Int},IntsAre vs ns->bR (ns.map V.int) vs
 |_,_,.nil=>.nil
 |_,_,.cons n t h=>.cons ⟨t,rfl⟩ (ik h)
def b7(s:Qm)(j:Nat):Qm:=match s with
 |.ClassDef _ _ _ body _ _ _ _ _ _ _=>body.getD j (.Pass ⟨0,0,0,0⟩)
 |_=>.Pass ⟨0,0,0,0⟩
def jF(s:Qm):Arguments:=match s with
 |.FunctionDef _ a _ _ _ _ _ _ _ _=>a
 |_=>{ posonlyargs:=[],args:=[],vararg:=none,kwonlyargs:=[],kw_defaults:=[],kwarg:=none,defaults:=[] }
def dP(s:Qm):List Qm:=match s with
 |.FunctionDef _ _ b _ _ _ _ _ _ _=>b
 |_=>[]
def aA(s:Qm):Zr:=match s with
 |.FunctionDef _ _ _ _ _ _ sc _ _ _=>sc
 |_=>{ kind:=.function,names:=[],isGenerator:=false,isCoroutine:=false }
abbrev CX0:CXT:=fun _ _ _ _ _ _=>False
abbrev E0:XK:=fun _ _ _=>False
def AX{X:Cx}:jq CX0 X E0:=fun _ _ _ _ _ _ _ h=>h.elim
structure Fun(K:Q1)(x qual:Str)(st:Qm)(f:Addr)(fd:ZP):Prop where
 ex:∃(oc:Q3) (od:Option Addr) (kV doc pm:Q3) (an:Option Addr) (cdv ct:Q3) (osl:Array (Option Q3)),
  fd=PySem.W.fnOf x qual (jF st) (dP st) (aA st) .none kV doc pm an cdv ct/\K.lookup f=some ⟨oc,od,.func fd,osl⟩/\PySem.W.codeIn K cdv qual=true
 kp:PySem.W.keepIn K (.ref f)=true
section
variable{P:Qx}{w:Qg}{K:Q1}{mg:Str->Option Q3}{base:Heap}
theorem Fun.ok{x qual:Str}{st:Qm}{f:Addr}{fd:ZP}{N ps:List Str}{k:Nat}{sp:Sp}(F:Fun K x qual st f fd)(S:aV N ps (aA st))(len:∀vs H Q E,sp vs H Q E->vs.length=ps.length)
  (hbody:∀(cdv:Q3) (A:Qd) (outer:List Env) (s:Q4) (H:Hp) (vs:List V) (Q:VK) (E:XK),fY k (A.deeper (envOfC qual (aA st) s.heap.objs.size f cdv))->sp vs H Q E->
   ∃t,PSs (rX CX0 P w K mg base N qual (aA st) f cdv A outer s H E).nox (dP st) t/\t { nx:=fun _ H'=>Q .non H',rt:=Q } (jN N vs) H):lF P w K mg base CX0 (k+1) f fd ps sp:=by
 obtain⟨oc,od,kV,doc,pm,an,cdv,ct,osl,rfl,lk,hcd⟩:=F.ex;refine IJ lk hcd S len fun A outer s H vs Q E hr hsp=>?_;obtain⟨t,h,q⟩:=hbody cdv A outer s H vs Q E hr hsp;exact⟨t,h.nox,q⟩
theorem Fun.binds{x qual:Str}{st:Qm}{f:Addr}{fd:ZP}{ps:List Str}(F:Fun K x qual st f fd)
  (h:∀(kV doc pm:Q3) (an:Option Addr) (cdv ct:Q3) (us:List Q3),us.length=ps.length->bindArgs (PySem.W.fnOf x qual (jF st) (dP st) (aA st) .none kV doc pm an cdv ct) ⟨us,[]⟩=pure (ps.zip us)):ig K fd ps []:=by
 obtain⟨oc,od,kV,doc,pm,an,cdv,ct,osl,rfl,lk,hcd⟩:=F.ex;exact .all (h kV doc pm an cdv ct)
theorem CP{x qual:Str}{st:Qm}{f:Addr}{oc:Q3}{od an:Option Addr}{osl:Array (Option Q3)}{kV doc pm cdv ct:Q3}(l:K.lookup f=some ⟨oc,od,.func (PySem.W.fnOf x qual (jF st) (dP st) (aA st) .none kV doc pm an cdv ct),osl⟩)
  (c:PySem.W.codeIn K cdv qual=true) (k:PySem.W.keepIn K (.ref f)=true):Fun K x qual st f (PySem.W.fnOf x qual (jF st) (dP st) (aA st) .none kV doc pm an cdv ct):=⟨⟨oc,od,kV,doc,pm,an,cdv,ct,osl,rfl,l,c⟩,k⟩
end
theorem cV{A:Qd}{k:Nat}(hr:fY k A):A.units+1<cLine:=Nat.lt_of_le_of_lt (Nat.add_le_add_left (by decide:1<=64) _) hr.units
def xC{n:Nat}(h:n<=1000):n<QB:=Nat.lt_of_le_of_lt h (by decide)
section
variable{X:Cx}
theorem pv(i:Nat){x:Str}{pos:Pos}(hN:X.N[i]?=some x:=by rfl)(hv:Vis X.env.scope x:=by first|exact Or.inl rfl|exact Or.inr (Or.inl rfl)|exact Or.inr (Or.inr rfl))(hd:(x == ("__debug__":Str))=false:=by decide)
  (hcd:(x == ("__classdict__":Str))=false:=by decide):PE X (.Name x pos) (Ji i):=HD hN hv hd hcd
theorem zm:fD X (.builtin "len") (fun xs H Q=>∃a kvs,xs=[V.ref a]/\H a=some (.dK kvs)/\Q (.int kvs.length) H):=by
 intro pins s σ H xs us Q I r h;obtain⟨a,kvs,rfl,ha,q⟩:=h;obtain⟨u,rfl,ru⟩:=kC r;cases ru;exact Lw I (.inl ha) fun t s' I'=>⟨.int kvs.length,H,I',⟨t,rfl⟩,q⟩
end
theorem IC{A B:Prop}(h:B):if false=true then A else B:=by
 rw[if_neg Q6];exact h
theorem IB{A B:Prop}(h:A):if true=true then A else B:=by
 rw[if_pos rfl];exact h
def C7(H H':Hp):Prop:=∀b o,H b=some o->H' b=some o
def C7.refl(H:Hp):C7 H H:=fun _ _ h=>h
end L2
namespace OG
open PySem PySem.Spec PyProof.Rows L2
structure WE(X:Cx)(e:QH)(t:TE):Prop where
 h:PE X e t
structure WT(X:Cx)(e:QH)(t:TT):Prop where
 h:PT X e t
structure WW(X:Cx)(e:QH)(t:TT):Prop where
 h:PW X e t
structure WA(X:Cx)(es:List QH)(t:TA):Prop where
 h:PA X es t
structure WS(X:Cx)(st:Qm)(t:TS):Prop where
 h:PS X st t
structure WSs(X:Cx)(st:List Qm)(t:TS):Prop where
 h:PSs X st t
structure WI(X:Cx)(tg iter:QH)(wi:TI):Prop where
 h:PI X tg iter wi
structure WG(X:Cx)(target:QH)(t:TG):Prop where
 h:PG X target t
structure WGs(X:Cx)(ts:List QH)(t:TGs):Prop where
 h:PGs X ts t
structure WC(X:Cx)(op:CmpOp)(a b:QH)(t:TE):Prop where
 h:PC X op a b t
structure WO(X:Cx)(e:Option QH)(t:TO):Prop where
 h:PO X e t
section
variable{X:Cx}
def aI{i j pos}:WE X (.Constant (.int i) j pos) (tC (.int i)):=⟨HK ⟩
def dY{b j pos}:WE X (.Constant (.bool b) j pos) (tC (.bl b)):=⟨K2 ⟩
def fE{j pos}:WE X (.Constant .none j pos) (tC .non):=⟨HI ⟩
def ax{x j pos}:WE X (.Constant (.str x) j pos) (tC (.str x)):=⟨HF ⟩
end
section
variable{X:Cx}
variable{a b:QH}{pos:Pos}
theorem w9{op:CmpOp}{t:TE}(h:WC X op a b t)(h1:behindInMarks op b=false:=by first|exact nobehind _ (by decide) (by decide)|rfl):WT X (.Compare a [op] [b] pos) (tB t):=⟨Ht h.h h1⟩
end
section
variable{X:Cx}
variable{pos:Pos}
theorem DD{e:QH}{t:TE}(h:WE X e t)(he:∀whole,isTrue e X.env whole=(do let v <-whole;standAt e.pos;holding [v] (truthy v)):=by intro _;rfl):WT X e (tB t):=⟨Hr h.h he⟩
end
section
variable{X:Cx}
variable{a:QH}{pos:Pos}
variable{tA:TT}
def zV(ha:WT X a tA):WW X (.BoolOp .And [a] pos) tA:=⟨Es ha.h⟩
def DB(ha:WT X a tA):WW X (.BoolOp .Or [a] pos) tA:=⟨Ho ha.h⟩
end
section
variable{X:Cx}
variable{a b:QH}{pos:Pos}
variable{tA tB':TT}{rest:List QH}
theorem DC(ha:WT X a tA)(hb:WW X (.BoolOp .And (b::rest) pos) tB'):WW X (.BoolOp .And (a::b::rest) pos) (LU tA tB'):=⟨Hq ha.h hb.h⟩
theorem GL(ha:WT X a tA)(hb:WW X (.BoolOp .Or (b::rest) pos) tB'):WW X (.BoolOp .Or (a::b::rest) pos) (tOr tA tB'):=⟨KS ha.h hb.h⟩
end
section
variable{X:Cx}
variable{a:QH}{pos:Pos}
variable{tA:TT}
def DG(ha:WT X a tA):WT X (.UnaryOp .Not a pos) (LP tA):=⟨Hs ha.h⟩
end
section
variable{X:Cx}
variable{a:QH}{pos:Pos}
def DO{op}{t:TE}(h:WE X a t):WE X (.BoolOp op [a] pos) t:=⟨HG h.h⟩
end
section
variable{X:Cx}
variable{a b:QH}{ta tb:TE}{pos:Pos}
variable{rest:List QH}
theorem DS(ha:WE X a ta)(hb:WE X (.BoolOp .And (b::rest) pos) tb):WE X (.BoolOp .And (a::b::rest) pos) (Ha ta tb):=⟨HM ha.h hb.h⟩
theorem GP(ha:WE X a ta)(hb:WE X (.BoolOp .Or (b::rest) pos) tb):WE X (.BoolOp .Or (a::b::rest) pos) (LO ta tb):=⟨KY ha.h hb.h⟩
end
section
variable{X:Cx}
variable{a:QH}{ta:TE}{pos:Pos}
def DP(ha:WE X a ta):WE X (.UnaryOp .Not a pos) (GY ta):=⟨HH ha.h⟩
end
section
variable{X:Cx}
def zX :WSs X [] G0:=⟨Ex ⟩
end
section
variable{X:Cx}{st:Qm}{rest:List Qm}{t u:TS}
def xc(h1:WS X st t)(h2:WSs X rest u):WSs X (st::rest) (LM t u):=⟨AJ h1.h h2.h⟩
end
section
variable{X:Cx}{st:Qm}{t:TS}
def zW(h1:WS X st t):WSs X [st] t:=⟨Ew h1.h⟩
end
section
variable{X:Cx}{pos:Pos}
def xg :WS X (.Break pos) Cj:=⟨AL ⟩
end
section
variable{X:Cx}{e:QH}{te:TE}{pos:Pos}
def zY(he:WE X e te)(hs:ZT e none pos.line X.env=pure false:=by rfl):WS X (.Expr e pos) (G5 te):=⟨Ey he.h hs⟩
def DI(he:WE X e te):WS X (.Return (some e) pos) (LN te):=⟨Hw he.h⟩
end
section
variable{X:Cx}{t u:TS}{pos:Pos}
theorem GN{c:QH}{a b:List Qm}{tc:TT}(hc:WT X c tc)(ha:WSs X a t)(hb:WSs X b u):WS X (.If c a b pos) (LR tc t u):=⟨KU hc.h ha.h hb.h⟩
end
section
variable{X:Cx}{st:Qm}
def xf :WS X st Cd:=⟨AK ⟩
end
section
variable{X:Cx}{pos:Pos}
theorem bb{i:Nat}{x:Str}(hN:X.N.Nodup)(hi:X.N[i]?=some x)(hx:Loc X.env.scope x)(hf:X.fn x=true\/X.env.scope.names.lookup x=some .local:=by first|exact .inl rfl|exact .inr rfl|assumption):WG X (.Name x pos) (wz i):=⟨EF hN hi hx hf⟩
end
section
variable{X:Cx}
def Aa :WGs X [] Mg:=⟨EE ⟩
theorem xi{e:QH}{es:List QH}{t:TG}{u:TGs}(h1:WG X e t)(h2:WGs X es u)(hs:(assignEach (e::es) X.env).map (·.2)=assign e X.env::(assignEach es X.env).map (·.2):=by rfl):WGs X (e::es) (II t u):=⟨AO h1.h h2.h hs⟩
end
section
variable{X:Cx}{pos:Pos}
theorem DL{es:List QH}{k:Nat}{t:TGs}{n:Nat}(hc:X.calm=true)(h:WGs X es t)(hn:(assignEach es X.env).length=n:=by rfl)(hst:(assignEach es X.env).findIdx? (·.1)=none:=by rfl):WG X (.Tuple es k pos) (Me X.K n t):=⟨HB hc h.h hn hst⟩
theorem DM {o i : QH} {to ti : TE} {t : JA} (ho : WE X o to) (hi : WE X i ti) (hs : LF X t) (ha : ∀ v, assign (.Subscript o i pos) X.env v = (do
   let ov <-holding [v] (eval o X.env)
   let iv <-holding [v,ov] (eval i X.env)
   standAt pos
   holding [v,ov,iv] (setItem ov iv v)
   release [v,ov,iv] []):=by intro _;rfl):WG X (.Subscript o i pos) (Mf to ti t):=⟨HC ho.h hi.h hs ha⟩
theorem xh{tg e:QH}{te:TE}{g:TG}(he:WE X e te)(hg:WG X tg g)(hs:swapsWithSole [tg] e pos.line X.env=pure false:=by rfl)(hw:swappedStores [tg] e X.env=pure none:=by rfl)(h1:(assignEach [tg] X.env).map (·.2)=[assign tg X.env]:=by rfl):WS X (.Assign [tg] e pos) (G9 te g):=⟨Hz he.h hg.h hs hw h1⟩
theorem DH{i:Nat}{x:Str}{e:QH}{te:TE}{pos':Pos}(hN:X.N.Nodup)(hi:X.N[i]?=some x)(hx:Loc X.env.scope x)(he:WE X e te)(hs:ZT e (some (.Name x pos')) pos.line X.env=pure false:=by rfl)(hf:X.fn x=true\/X.env.scope.names.lookup x=some .local:=by first|exact .inl rfl|exact .inr rfl|assumption):WS X (.Assign [.Name x pos'] e pos) (G9 te (wz i)):=⟨Hv hN hi hx he.h hs hf⟩
end
section
variable{X:Cx}{tg:QH}
def z9{l:QH}{tl:TE}(hl:WE X l tl):WI X tg l (IH X.K tl):=⟨ED hl.h⟩
def DK{l:QH}{tl:TE}(hl:WE X l tl):WI X tg l (Md X.K tl):=⟨HA hl.h⟩
theorem vJ{a:QH}{ta:TA}{p pos:Pos}(hg:Gl X "range")(hm:X.mg "range"=none)(ha:WA X [a] ta)(hs:QR [a] X.env=[(false,eval a X.env)]:=by rfl):WI X tg (.Call (.Name "range" p) [a] [] pos) (IG ta):=⟨xW hg hm ha.h hs⟩
theorem sg{iter:QH}{body:List Qm}{wi:TI}{g:TG}{tb:TS}{pos:Pos}(hp:PassesOwn (Qz X.prog X.w) X.A X.env X.xe)(hc:X.calm=true)(hi:WI X tg iter wi)(hg:WG X tg g)(hb:WSs X body tb)(hs:∀x,foldedSetIterable iter X.env x=pure x:=by intro _;rfl):WS X (.For tg iter body [] pos) (G3 wi g tb):=⟨Hx hp hc hi.h hg.h hb.h hs⟩
end
section
variable{X:Cx}{a b:QH}{ta tb:TE}{pos:Pos}
theorem GQ{op:Operator}{r:R2}(ho:OpR X (binaryOp op) r)(ha:WE X a ta)(hb:WE X b tb):WE X (.BinOp a op b pos) (tOp r ta tb):=⟨KZ ho ha.h hb.h⟩
end
section
variable{X:Cx}{a:QH}{ta:TE}{pos:Pos}
theorem GO{op:UnaryOp}{r:V->Hp->VK->Prop}(ho:UnR X (unaryOp op) r)(ha:WE X a ta):WE X (.UnaryOp op a pos) (tUn r ta):=⟨KW ho ha.h⟩
end
section
variable{X:Cx}{a b:QH}{ta tb:TE}{pos:Pos}
theorem Ag{op:CmpOp}{r:R2}(ho:OpR X (compareOp op) r)(ha:WE X a ta)(hb:WE X b tb)(hm:behindInMarks op b=false):WE X (.Compare a [op] [b] pos) (tOp r ta tb):=⟨EK ho ha.h hb.h hm⟩
theorem oi{op:CmpOp}{r:R2}(ho:OpR X (compareOp op) r)(ha:WE X a ta)(hb:WE X b tb)(hm:behindInMarks op b=false):WT X (.Compare a [op] [b] pos) (GW (tOp r ta tb)):=⟨Eu ho ha.h hb.h hm⟩
end
section
variable{X:Cx}{e:QH}{f:Str}{pos:Pos}{ta:TE}
theorem DR(he:WE X e ta)(hb:attributeBase e f X.env (eval e X.env)=eval e X.env):WE X (.Attribute e f pos) (LS X.K ta f):=⟨HL he.h hb⟩
end
section
variable{X:Cx}{o value:QH}{f:Str}{pos pos':Pos}{ta tv:TE}
theorem DJ(ha:WE X o ta)(hv:WE X value tv)(hs:ZT value (some (.Attribute o f pos')) pos.line X.env=pure false):WS X (.Assign [.Attribute o f pos'] value pos) (LV X.K ta tv f):=⟨Hy ha.h hv.h hs⟩
end
section
variable{X:Cx}
def sh :WA X [] GZ:=⟨HP ⟩
end
section
variable{X:Cx}{e:QH}{es:List QH}{te:TE}{t:TA}
theorem lP(ha:WE X e te)(hr:WA X es t)(hs:QR (e::es) X.env=(false,eval e X.env)::QR es X.env:=by rfl):WA X (e::es) (Ec te t):=⟨EO ha.h hr.h hs⟩
end
section
variable{X:Cx}{es:List QH}{t:TA}{pos:Pos}
def DN{x1}(h:WA X es t):WE X (.Tuple es x1 pos) (LL t):=⟨HE h.h⟩
def DQ(h:WA X es t):WE X (.List es pos) (LQ t):=⟨HJ h.h⟩
end
section
variable{X:Cx}{CX:CXT}{k:Nat}{f C:Addr}{fd:ZP}{ps:List Str}{sp:Sp}{dvs:List V}{ds:List Q3}{E:XK}{m:Str}{pos apos:Pos}{e o:QH}{es:List QH}{ta:TE}{t:TA}
theorem Ab {pl : Sem Bool} (he : WE X o ta) (c : Cls X.K C) (hm : FL X.K C m f) (F : lF X.prog X.w X.K X.mg X.base CX k f fd ps sp) (hr : fY k X.A) (hb : ig X.K fd ps ds) (hd : bR dvs ds) (hx : jq CX X E) (ha : WA X (e :: es) t) (hst : QR (e :: es) X.env = (false, eval e X.env) :: QR es X.env := by rfl) (hpl : (Z9 pos (QR es X.env)).any (·.1) = false := by rfl) (ht : eval (.Call (.Attribute o m apos) (e :: es) [] pos) X.env = (do
   let ov <-eval o X.env
   standAt apos.atName
   let (f,first) <-holding [ov] (getMethod ov m pl)
   callWith pos f first (Z9 pos (QR (e::es) X.env)) (backToKw pos (keywordEach [] X.env))):=by rfl):WE X (.Call (.Attribute o m apos) (e::es) [] pos) (xy C m sp dvs E ta t):=⟨EG he.h c hm F hr hb hd hx ha.h hst hpl ht⟩
end
section
variable{X:Cx}{CX:CXT}{k:Nat}{f C:Addr}{fd:ZP}{ps:List Str}{sp:Sp}{dvs:List V}{ds:List Q3}{E:XK}{m:Str}{pos apos:Pos}{o:QH}{ta:TE}
theorem xk {pl : Sem Bool} (he : WE X o ta) (c : Cls X.K C) (hm : FL X.K C m f) (F : lF X.prog X.w X.K X.mg X.base CX k f fd ps sp) (hr : fY k X.A) (hb : ig X.K fd ps ds) (hd : bR dvs ds) (hx : jq CX X E) (ht : eval (.Call (.Attribute o m apos) [] [] pos) X.env = (do
   let ov <-eval o X.env
   standAt apos.atName
   let (f,first) <-holding [ov] (getMethod ov m pl)
   callWith pos f first (Z9 pos (QR [] X.env)) (backToKw pos (keywordEach [] X.env))):=by rfl):WE X (.Call (.Attribute o m apos) [] [] pos) (xy C m sp dvs E ta GZ):=⟨AR he.h c hm F hr hb hd hx ht⟩
end
section
variable{X:Cx}{CX:CXT}{k:Nat}{f C:Addr}{fd:ZP}{ps:List Str}{sp:Sp}{dvs:List V}{ds:List Q3}{E:XK}{x:Str}{p pos:Pos}{e:QH}{es:List QH}{t:TA}
theorem Ad(M:Mk X.K C f)(F:lF X.prog X.w X.K X.mg X.base CX k f fd ps sp)(hr:fY (k+1) X.A)(hg:Gl X x)(hm:X.mg x=some (.ref C))(hb:ig X.K fd ps ds)(hd:bR dvs ds)(hx:jq CX X E)(ha:WA X (e::es) t)(hdb:(x == ("__debug__":Str))=false:=by decide)(he:QR (e::es) X.env=(false,eval e X.env)::QR es X.env:=by rfl)(hpl:(Z9 pos (QR es X.env)).any (·.1)=false:=by rfl):WE X (.Call (.Name x p) (e::es) [] pos) (Eb C sp dvs E t):=⟨EH M F hr hg hm hb hd hx ha.h hdb he hpl⟩
end
section
variable{X:Cx}{x:Str}{p pos:Pos}{e:QH}{es:List QH}{t:TA}{id:String}{r:List V->Hp->VK->Prop}
theorem qe(hc:fD X (.builtin id) r)(hg:Gl X x)(hm:X.mg x=none)(hv:Qc x=some (.builtin id))(ha:WA X (e::es) t)(hn:x≠"__name__":=by decide)(hdb:(x == ("__debug__":Str))=false:=by decide)(he:QR (e::es) X.env=(false,eval e X.env)::QR es X.env:=by rfl)(hpl:(Z9 pos (QR es X.env)).any (·.1)=false:=by rfl):WE X (.Call (.Name x p) (e::es) [] pos) (tCB r t):=⟨AW hc hg hm hv ha.h hn hdb he hpl⟩
end
section
variable{X:Cx}{x:Str}{p pos:Pos}{e:QH}{es:List QH}{t:TA}{T:String}{r:List V->Hp->VK->Prop}
theorem vK(hc:fD X (.type T) r)(hg:Gl X x)(hm:X.mg x=none)(hv:Qc x=some (.type T))(ha:WA X (e::es) t)(hn:x≠"__name__":=by decide)(hdb:(x == ("__debug__":Str))=false:=by decide)(he:QR (e::es) X.env=(false,eval e X.env)::QR es X.env:=by rfl)(hpl:(Z9 pos (QR es X.env)).any (·.1)=false:=by rfl):WE X (.Call (.Name x p) (e::es) [] pos) (tCB r t):=⟨xX hc hg hm hv ha.h hn hdb he hpl⟩
end
section
variable{X:Cx}
def z8 :WO X none xw:=⟨EC ⟩
end
section
variable{X:Cx}{e:QH}{te:TE}
def z7(h:WE X e te):WO X (some e) (GX te):=⟨EB h.h⟩
end
section
variable{X:Cx}{e:QH}{te:TE}{lo hi:Option QH}{tl th:TO}{pos p2:Pos}
theorem xj{r:V->Option Int->Option Int->Hp->VK->Prop}(hr:SlR X r)(he:WE X e te)(hl:WO X lo tl)(hu:WO X hi th):WE X (.Subscript e (.Slice lo hi none p2) pos) (tSl r te tl th):=⟨AQ hr he.h hl.h hu.h⟩
end
section
variable{X:Cx}{a b:QH}{ta tb:TE}{pos:Pos}
theorem GR{r:R2}(hr:IxR X r)(ha:WE X a ta)(hb:WE X b tb)(hs:tR b):WE X (.Subscript a b pos) (tOp r ta tb):=⟨K0 hr ha.h hb.h hs⟩
end
section
variable{X:Cx}
variable{o e:QH}{es:List QH}{to:TE}{t:TA}{name:Str}{apos cpos:Pos}{T id:String}{r:V->List V->Hp->VK->Prop}
theorem Cb (pa : PlainAttrs T) (slot : Slot T name id) (hty : typeOf (.builtin id) = pure (.type "method_descriptor")) (hm : MtR X id r) (ho : WE X o to) (ha : WA X (e :: es) t) (hbase : attributeBase o name X.env (eval o X.env) = eval o X.env := by rfl) (hfew : ((Z9 cpos (QR (e :: es) X.env)).all (fun x => !x.1) && (backToKw cpos (keywordEach [] X.env)).all (fun x => x.1.isSome)
   && decide ((e::es).length+([]:List Keyword).length+(if ([]:List Keyword).isEmpty then 0 else 1)<30))=true:=by rfl) (hline:(apos.endLine == cpos.line)=true:=by rfl) (hs:QR (e::es) X.env=(false,eval e X.env)::QR es X.env:=by rfl) (hplain:(Z9 cpos (QR es X.env)).any (·.1)=false:=by rfl):WE X (.Call (.Attribute o name apos) (e::es) [] cpos) (tBM X.K T r to t):=⟨K1 pa slot hty hm ho.h ha.h hbase hfew hline hs hplain⟩
end
section
variable{X:Cx}{o i:QH}{pos:Pos}{td ty:TE}
theorem Af(hu:X.A.units+1<cLine)(ho:WE X o td)(hi:WE X i ty)(hs:JB i):WE X (.Subscript o i pos) (G7 td ty):=⟨EJ hu ho.h hi.h hs⟩
end
section
variable{X:Cx}{o i:QH}{td ty:TE}
def DT(hu:X.A.units+1<cLine)(hi:WE X i ty)(ho:WE X o td):WC X .In i o (KG ty td):=⟨HN hu hi.h ho.h⟩
def vN(hu:X.A.units+1<cLine)(hi:WE X i ty)(ho:WE X o td):WC X .NotIn i o (sC ty td):=⟨xY hu hi.h ho.h⟩
end
section
variable{X:Cx}{o i value:QH}{pos pos':Pos}{td ty tv:TE}
theorem zZ(hu:X.A.units+1<cLine)(ho:WE X o td)(hi:WE X i ty)(hv:WE X value tv)(hs:ZT value (some (.Subscript o i pos')) pos.line X.env=pure false):WS X (.Assign [.Subscript o i pos'] value pos) (He td ty tv):=⟨Ez hu ho.h hi.h hv.h hs⟩
end
section
variable{X:Cx}{pos:Pos}
def xn :WE X (.Dict [] [] pos) Cg:=⟨AU ⟩
end
theorem Ae{X:Cx}{pos:Pos}{keys:List (Option QH)}{values:List QH}{trs:List (TE×TE)}(h:PPs X pos keys values trs)(hall:keys.all (·.isSome)=true)(hl:keys.length=values.length)(h0:keys≠[])(h15:keys.length<=15):WE X (.Dict keys values pos) (G6 trs):=⟨EI h hall hl h0 h15⟩
section
variable{X:Cx}{o e f:QH}{apos cpos:Pos}{td ty tx:TE}
theorem xp(hu:X.A.units+1<cLine)(ho:WE X o td)(he:WE X e ty)(hf:WE X f tx)(m:M2 X o "get" apos e f cpos):WE X (.Call (.Attribute o "get" apos) [e,f] [] cpos) (Ci td ty tx):=⟨AV hu ho.h he.h hf.h m⟩
end
section
variable{X:Cx}{o e:QH}{apos cpos:Pos}{td ty:TE}
theorem xm(ho:WE X o td)(he:WE X e ty)(m:M1 X o "pop" apos e cpos):WE X (.Call (.Attribute o "pop" apos) [e] [] cpos) (Ce td ty):=⟨AS ho.h he.h m⟩
end
section
variable{X:Cx}
theorem wpv(i:Nat){x:Str}{pos:Pos}(hN:X.N[i]?=some x:=by rfl)(hv:Vis X.env.scope x:=by first|exact Or.inl rfl|exact Or.inr (Or.inl rfl)|exact Or.inr (Or.inr rfl))(hd:(x == ("__debug__":Str))=false:=by decide)(hcd:(x == ("__classdict__":Str))=false:=by decide):WE X (.Name x pos) (Ji i):=⟨pv i hN hv hd hcd⟩
end
def WW.pt{X:Cx}{e:QH}{t:TT}(h:WW X e t):WT X e t:=⟨h.h.pt⟩
section
variable{X:Cx}{e:QH}
def wO(i j:Int):Prop:=0<j/\j.natAbs.log2<9000
theorem uM:OpR X (binaryOp .FloorDiv) (rI wO fun i j=>.int (i / j)):=opI fun i j _ _ _ _ _ hc q=>by
 refine PyProof.Rows.floordiv_int (by have:=hc.1;omega) ?_ (.inl (PyProof.noPylong_of_log2 hc.2));rw[Int.fdiv_eq_ediv_of_nonneg i (Int.le_of_lt hc.1)];exact q
theorem tM:fD X (.builtin "isinstance") (fun xs H Q=>∃(x:V) (T:String) (t:Q3) (k:Bool),xs=[x,.ty T]/\vA X.K H x t/\PySem.W.kitOne X.K t (.type T)=some k/\Q (.bl k) H):=by
 rintro pins s σ H xs us Q I r ⟨x,T,t,k,rfl,ty,e,q⟩;obtain⟨u,w',rfl,ru,rw'⟩:=Am r;cases rw';exact yK I ru ty e fun tk=>⟨.bl k,H,I.tok tk,rfl,q⟩
end
def gO{H:Hp}{p:Addr}(h:H p=none)(o:HO):C7 H (upd H p o):=fun b u q=>by rw[aP (dQ q h)];exact q
def Def(K:Q1)(mg:Str->Option Q3)(x:Str)(st:Qm)(ps:List Str):Prop:=
 ∃f fd,Fun K x x st f fd/\ig K fd ps []/\mg x=some (.ref f)
def Has(P:Qx)(w:Qg)(K:Q1)(mg:Str->Option Q3)(base:Heap)(x:Str)(k:Nat)(ps:List Str)(sp:Sp):Prop:=
 ∃f fd,lF P w K mg base CX0 k f fd ps sp/\ig K fd ps []/\PySem.W.keepIn K (.ref f)=true/\mg x=some (.ref f)
section
variable{P:Qx}{w:Qg}{K:Q1}{mg:Str->Option Q3}{base:Heap}{x:Str}{st:Qm}{ps N:List Str}{k j:Nat}{sp:Sp}
theorem Has.mono(h:Has P w K mg base x j ps sp)(l:j<=k):Has P w K mg base x k ps sp:=by
 obtain⟨f,fd,a,b,c,d⟩:=h;exact⟨f,fd,a.mono l,b,c,d⟩
theorem Def.has(d:Def K mg x st ps)(S:aV N ps (aA st))(len:∀vs H Q E,sp vs H Q E->vs.length=ps.length)
  (hbody:∀(f:Addr) (cdv:Q3) (A:Qd) (outer:List Env) (s:Q4) (H:Hp) (vs:List V) (Q:VK) (E:XK),fY k (A.deeper (envOfC x (aA st) s.heap.objs.size f cdv))->sp vs H Q E->
   ∃t,WSs (rX CX0 P w K mg base N x (aA st) f cdv A outer s H E).nox (dP st) t/\t { nx:=fun _ H'=>Q .non H',rt:=Q } (jN N vs) H):Has P w K mg base x (k+1) ps sp:=by
 obtain⟨f,fd,F,b,m⟩:=d;exact⟨f,fd,F.ok S len (fun cdv A outer s H vs Q E hr h=>let ⟨t,a,b⟩:=hbody f cdv A outer s H vs Q E hr h;⟨t,a.h,b⟩),b,F.kp,m⟩
end
theorem GS{X:Cx}{k:Nat}{ps:List Str}{sp:Sp}{x:Str}{p pos:Pos}{e:QH}{es:List QH}{t:TA}(F:Has X.prog X.w X.K X.mg X.base x k ps sp)(hr:fY k X.A)(hg:Gl X x)
  (ha:WA X (e::es) t) (hdb:(x == ("__debug__":Str))=false:=by decide) (he:QR (e::es) X.env=(false,eval e X.env)::QR es X.env:=by rfl) (hpl:(Z9 pos (QR es X.env)).any (·.1)=false:=by rfl) :
  WE X (.Call (.Name x p) (e::es) [] pos) (G8 sp [] E0 t):=by
 obtain⟨f,fd,a,b,c,d⟩:=F;exact⟨EL a hr hg d c b .nil AX ha.h hdb he hpl⟩
structure Blt(mg:Str->Option Q3):Prop where
 len:mg "len"=none
 isinstance:mg "isinstance"=none
 int:mg "int"=none
 bool:mg "bool"=none
 str:mg "str"=none
 tuple:mg "tuple"=none
 list:mg "list"=none
 range:mg "range"=none
 min:mg "min"=none
 sum:mg "sum"=none
 all:mg "all"=none
 zip:mg "zip"=none
 sorted:mg "sorted"=none
 dict:mg "dict"=none
 enumerate:mg "enumerate"=none
 any:mg "any"=none
 max:mg "max"=none
 set:mg "set"=none
def ql{n:Nat}(h:n<=1000):n<=QB:=Nat.le_of_lt (xC h)
theorem wk{n:Nat}(h:n<2^60):n.log2<1920:=by
 by_cases e:n=0
 ·subst e;decide
 ·have:=(Nat.log2_lt e).mpr h;omega
def pT:Qc "int"=some (.type "int"):=rfl
def zv:Qc "bool"=some (.type "bool"):=rfl
def gM:Qc "tuple"=some (.type "tuple"):=rfl
def iW:Qc "list"=some (.type "list"):=rfl
def mV:Qc "isinstance"=some (.builtin "isinstance"):=rfl
def BQ:Qc "min"=some (.builtin "min"):=rfl
def BR:Qc "max"=some (.builtin "max"):=rfl
def BS:Qc "all"=some (.builtin "all"):=rfl
def pV:Qc "any"=some (.builtin "any"):=rfl
def g6:Qc "sorted"=some (.builtin "sorted"):=rfl
theorem nQ{X:Cx}{x:Str}{T:String}{pos:Pos}(hg:Gl X x)(hm:X.mg x=none)(hv:Qc x=some (.type T))(hn:x≠"__name__":=by decide)(hd:(x == ("__debug__":Str))=false:=by decide):WE X (.Name x pos) (tC (.ty T)):=
 ⟨EM hg hm hv rfl hn hd⟩
theorem Fun.okW{P:Qx}{w:Qg}{K:Q1}{mg:Str->Option Q3}{base:Heap}{x qual:Str}{st:Qm}{f:Addr}{fd:ZP}{N ps:List Str}{k:Nat}{sp:Sp}(F:Fun K x qual st f fd)(S:aV N ps (aA st))(len:∀vs H Q E,sp vs H Q E->vs.length=ps.length)
  (hbody:∀(cdv:Q3) (A:Qd) (outer:List Env) (s:Q4) (H:Hp) (vs:List V) (Q:VK) (E:XK),fY k (A.deeper (envOfC qual (aA st) s.heap.objs.size f cdv))->sp vs H Q E->
   ∃t,WSs (rX CX0 P w K mg base N qual (aA st) f cdv A outer s H E).nox (dP st) t/\t { nx:=fun _ H'=>Q .non H',rt:=Q } (jN N vs) H):lF P w K mg base CX0 (k+1) f fd ps sp:=
 F.ok S len fun cdv A outer s H vs Q E hr h=>let ⟨t,a,b⟩:=hbody cdv A outer s H vs Q E hr h;⟨t,a.h,b⟩
def vH(env:Env):List (Str×Addr)->Prop
 |[]=>True
 |p::r=>env.cells.lookup p.1=some p.2/\vH env r
theorem vH.look{env:Env}:∀{cl:List (Str×Addr)} {y:Str} {c:Addr},vH env cl->cl.lookup y=some c->env.cells.lookup y=some c
 |[],_,_,_,h=>by simp at h
 |(n,d)::r,y,c,a,h=>by
  obtain⟨a1,a2⟩:=a;rw[ZC]at h;by_cases e:(y == n)=true
  ·rw[e]at h;have e':y=n:=by simpa using e
   subst e';cases h;exact a1
  ·have e':(y == n)=false:=by simpa using e
   rw[e']at h;exact vH.look a2 h
abbrev cxC(X:Cx)(Nc:List Str)(scope:Zr)(cl:List (Str×Addr))(s3:Q4)(H3:Hp)(fp:List Addr):Cx where
 prog:=X.prog
 w:=X.w
 K:=X.K
 mg:=X.mg
 base:=X.base
 A:=X.A
 N:=Nc
 s₀:=s3
 H₀:=H3
 env:=compEnvC scope cl s3.heap.objs.size X.env
 outer:=X.stack
 stack:=X.stack
 ex:=fp
 fn:=fun _=>false
 calm:=X.calm
 pn:=[]
 xe:=fun _ _=>False
def stC(n:Nat)(caps:List Nat)(σ:L2.St):L2.St:=QY n none++caps.map fun i=>(σ[i]?).getD none
def Ap(wi:TI)(g:TG)(te:TE)(n:Nat)(caps:List Nat):TE:=fun σ H Q=>wi σ H fun J H1=>∀l,H1 l=none->∃W:Nat->Nat->L2.St->Hp->Prop,(∃m,W 0 m (stC n caps σ) (upd H1 l (.lst [])))/\
 ∀i m σ' H2,W i m σ' H2->(J.stop i H2/\Q (.ref l) H2)\/(J.go i H2/\∃N:L2.St->Hp->Prop,(∀σ'' H',N σ'' H'->∃m',m'<m/\W (i+1) m' σ'' H')/\
  ∀x H3,J.yld i H2 x H3->g x σ' H3 fun σ2 H4=>te σ2 H4 fun v H5=>∃ys,H5 l=some (.lst ys)/\ys.length<QB/\N σ2 (upd H5 l (.lst (ys++[v]))))
theorem rF{prog:Qx}{w:Qg}{A:Qd}{R:Result->Q4->Prop}{s:Q4}{elt target iter:QH}{scope:Zr}{pos:Pos}{it acc:Q3}{env:Env}(I:Nat->Q4->Prop)
  (turn:∀n s,I n s->wpAny (Qz prog w) A (pyNext it) (fun r s₁=>match r with
   |none=>R (.ok .next) s₁
   | some v=>wpAny (Qz prog w) A (letOwnedTupleGo target it v) (fun _ s₁'=>wpAny (Qz prog w) A (assign target env v) (fun _ s₂=>wpAny (Qz prog w) A (eval elt env) (fun x s₃=>
     wpAny (Qz prog w) A (call (.builtin "list.append") [acc,x]) (fun _ s₄=>∃m,m<n/\I m s₄) (fun _ _=>False) s₃)
     (fun _ _=>False) s₂) (fun _ _=>False) s₁') (fun _ _=>False) s₁) (fun _ _=>False) s)
  (n:Nat) (h:I n s) :
  codeAny (Qz prog w) A (.compLoop (.ListComp elt [⟨target,iter,[],0⟩] scope pos) 0 it acc env) R s:=by
 refine codeAny_loop rfl I (fun n s hI=>?_) n h;show wpAny _ _ ((compTurn (.ListComp elt [⟨target,iter,[],0⟩] scope pos) 0 it acc env).onRaise (fun x=>do noteFrame x env;theTreesLotGoes x)) _ _ s;refine wpAny_noted ?_;rw[compTurn_list1];refine Q2 (wpAny_standAt (Q2 (Z6 (turn n s hI) (fun r s₁ h₁=>?_) fun _ _ h'=>h'.elim)));cases r with
 |none=>exact QJ h₁
 |some v=>
  refine Q2 (Z6 h₁ (fun _ s₁' h₁'=>?_) fun _ _ h'=>h'.elim);exact Q2 (Z6 h₁' (fun _ s₂ h₂=>Q2 (Q2 (Z6 h₂ (fun x s₃ h₃=>Q2 (Z6 h₃
   (fun _ s₄ h₄=>QJ (QJ ⟨rfl,h₄⟩)) fun _ _ h'=>h'.elim)) fun _ _ h'=>h'.elim))) fun _ _ h'=>h'.elim)
section
variable{X:Cx}{pins:List (Addr×Obj)}{σ:L2.St}{H:Hp}{s:Q4}{Nc capN:List Str}{scope:Zr}{cl:List (Str×Addr)}{fp:List Addr}{n:Nat}{caps:List Nat}
def Cap(X:Cx)(scope:Zr)(cl:List (Str×Addr))(i:Nat)(y:Str):Prop:=X.N[i]?=some y/\X.env.scope.names.lookup y=some .cell/\(relabel scope X.env).names.lookup y=some .cell/\∃c,cl.lookup y=some c
theorem Inv.comp{h1:Heap}{t':Nat}(I:Inv X pins σ H s)(hc:X.calm=true)(f2:∀b∈fp,wU X pins H b)(fo:∀b∈fp,b<s.heap.objs.size)(hkind:scope.kind=.function)(hcl:vH X.env cl)
  (hhas:((relabel scope X.env).names.all fun p=>!(p.2 == .cell||p.2 == .free)||(cl.lookup p.1).isSome)=true)
  (hcap:Paired (Cap X scope cl) caps capN) (tn:List Str) (hN:Nc=tn++capN) (hn:tn.length=n)
  (hns:h1.Ns s.heap.objs.size (fun _=>none)) (hk:∀b o,s.heap.get? b=some o->h1.get? b=some o) :
  Inv (cxC X Nc scope cl s H fp) [] (stC n caps σ) H { s with heap:=h1,toks:=t' }:=by
 have lkc:∀y c,cl.lookup y=some c->X.env.cells.lookup y=some c:=fun y c e=>hcl.look e;refine⟨⟨I.ok.mod,?_,I.ok.glob,I.ok.blt,QQ _,fun x y c a b=>I.ok.inj x y c (lkc _ _ a) (lkc _ _ b),fun x hx=>?_,fun x c z=>(nomatch z),I.ok.hd,I.ok.frames,.inl rfl,fun b hb=>⟨Qj (fo b hb),fun x c e=>(f2 b hb).2.2.2.2.1 x c (lkc _ _ e)⟩,I.bs,Qp I.ok.bsz I.sz,
  fun b o e hb=>?_,fun b hb z=>?_,I.stack,I.stkFree⟩,rfl,I.bare,Un.kept hk,⟨_,hns,fun i y v h1' h2 h3=>?_⟩,fun y c e=>?_,I.hok.fresh (QQ _),fun y c e=>I.freeC y c (lkc _ _ e),fun p hp=>(by simp at hp),I.hok.kept hk,?_⟩
 ·exact hkind
 ·have hx':(relabel scope X.env).names.lookup x=some .cell\/(relabel scope X.env).names.lookup x=some .free:=hx;have mem:∀{k},(relabel scope X.env).names.lookup x=some k->(x,k)∈(relabel scope X.env).names:=fun{k} e=>by
   generalize (relabel scope X.env).names=L at e;induction L with
   |nil=>simp at e
   |cons p r ih=>
    obtain⟨a,b⟩:=p;rw[ZC]at e;by_cases q:(x == a)=true
    ·rw[q]at e;cases e;have:x=a:=by simpa using q
     subst this;exact QU
    ·rw[show(x == a)=false by simpa using q]at e;exact QX _ (ih e)
  have fin:∀{k},(k=NameKind.cell\/k=.free)->(relabel scope X.env).names.lookup x=some k->∃c,cl.lookup x=some c:=fun{k} hk' e=>by
   have:=List.all_eq_true.mp hhas _ (mem e);dsimp only at this;have q:(cl.lookup x).isSome=true:=by
    rcases hk' with z|z<;>subst z<;>simpa using this
   exact ZQ.mp q
  rcases hx' with e|e
  ·exact fin (.inl rfl) e
  ·exact fin (.inr rfl) e
 ·rcases(f2 b hb).2.2.2.1 with z|z
  ·exact I.ok.noex b o e z
  ·exact absurd (QL (QK e) I.ok.bsz) (Nat.not_lt.mpr z)
 ·rcases Qq.mp (I.stkSub b z)with q|q
  ·exact(f2 b hb).2.1 q
  ·exact(f2 b hb).2.2.1 q
 ·obtain⟨m,hm,hl⟩:=I.loc;have h2':(stC n caps σ)[i]?=some (some v):=h2;have h1'':Nc[i]?=some y:=h1';unfold stC at h2';by_cases hi:i<n
  ·rw[Qo (by simpa using hi),ZL,if_pos hi]at h2';cases h2'
  ·rw[Qi (by simp;omega),List.length_replicate,Qr]at h2';rw[hN,Qi (by omega),hn]at h1'';have key:∀(j:Nat) {caps:List Nat} {capN:List Str},Paired (Cap X scope cl) caps capN->capN[j]?=some y->(Option.map (fun i=>(σ[i]?).getD none) caps[j]?)=some (some v)->∃k,Cap X scope cl k y/\σ[k]?=some (some v):=by
    intro j;induction j with
    |zero=>
     intro caps capN P e1 e2;cases P with
     |nil=>simp at e1
     |@cons a b l r p t=>
      simp at e1 e2;subst e1;cases q:σ[a]? with
      |none=>rw[q]at e2;simp at e2
      |some w'=>rw[q]at e2;simp at e2;subst e2;exact⟨a,p,q⟩
    |succ j ih=>
     intro caps capN P e1 e2;cases P with
     |nil=>simp at e1
     |cons p t=>exact ih t (by simpa using e1) (by simpa using e2)
   obtain⟨k,⟨c1,c2,c3,c,c4⟩,e⟩:=key _ hcap h1'' h2';obtain⟨u,r,lk⟩:=hl k y v c1 e (.inr (.inl c2));refine⟨u,r,.inr ⟨.inl c3,c,c4,?_⟩⟩;rcases lk with⟨z,_⟩|⟨_,c',e',o,ho,hd⟩
   ·have z':X.env.scope.names.lookup y=some .local:=z;rw[c2]at z';cases z'
   ·rw[lkc _ _ c4]at e';cases e';exact⟨o,hk _ _ ho,hd⟩
 ·obtain⟨v,o,ho,hd⟩:=I.cell y c (lkc _ _ e);exact⟨v,o,hk _ _ ho,hd⟩
 ·show(stC n caps σ).length=Nc.length;have pl:caps.length=capN.length:=Paired.length hcap;unfold stC;rw[QC,List.length_replicate,Q8,hN,QC,hn,pl]
end
theorem vt{X:Cx}{Nc capN tn:List Str}{scope:Zr}{cl:List (Str×Addr)}{n:Nat}{caps:List Nat}{tg iter elt:QH}{pos:Pos}{wi:TI}{g:TG}{te:TE}
  (hc:X.calm=true) (hi:WI X tg iter wi) (hg:∀s3 H3 fp,WG (cxC X Nc scope cl s3 H3 fp) tg g) (he:∀s3 H3 fp,WE (cxC X Nc scope cl s3 H3 fp) elt te)
  (hclos:closureFor scope X.env=pure cl) (hkind:scope.kind=.function) (hnl:∀x∈scope.names,x.2=.local->scope.names.lookup x.1=some .local) (hcell:∀x∈scope.names,x.2≠.cell)
  (hcl:vH X.env cl) (hhas:((relabel scope X.env).names.all fun p=>!(p.2 == .cell||p.2 == .free)||(cl.lookup p.1).isSome)=true)
  (hcap:Paired (Cap X scope cl) caps capN) (hN:Nc=tn++capN) (hn:tn.length=n)
  {use:Option (Q3->Sem Unit)} {pins:List (Addr×Obj)} {σ:L2.St} {H:Hp} {s:Q4} {Q:VK} {Qf:Q3->Q4->Prop} (I:Inv X pins σ H s) (h:Ap wi g te n caps σ H Q)
  (hend:∀(D C:Addr) (s6:Q4) (H5:Hp) (m:Str->Option Q3),Inv X pins σ H5 s6->s6.heap.Ns C m->H5 C=none->C≠X.env.locals->X.s₀.heap.objs.size<=C->(∀x c,X.env.cells.lookup x=some c->c≠C)->(∀p∈X.pn++pins,p.1≠C)->Q (.ref D) H5->compPost (Qz X.prog X.w) X.A X.xe use Qf (.ref D) C (.ok .next) s6)
  (hs:∀x,foldedSetIterable iter X.env x=pure x) :
  wpAny (Qz X.prog X.w) X.A (comprehension (.ListComp elt [⟨tg,iter,[],0⟩] scope pos) scope X.env (firstIterPos [⟨tg,iter,[],0⟩] pos) (newList []) (firstAsync [⟨tg,iter,[],0⟩]) (firstIter [⟨tg,iter,[],0⟩] X.env) use) Qf X.xe s:=by
 refine wpAny_comprehension_free (use:=use) (g:=⟨tg,iter,[],0⟩) (gs:=[]) rfl hs hclos hkind hnl (thn (hi.h pins s σ H _ I h) fun v s1 h1=>thn h1 fun itv s2 h2=>?_);obtain⟨it,fp,tnn,J,H2,rfl,I2,T,st2,f2,hW⟩:=h2;have hD:=I2.fresh;obtain⟨W,⟨m0,w0⟩,turn⟩:=hW _ hD;refine wpAny_newObj_type (wpAny_newFunctionEnv hcell (by intro y hy;simp at hy) (fun h₁ hns₁ hsb₁=>?_) hkind);dsimp only at hns₁ hsb₁ ⊢;have I3:Inv X pins σ (upd H2 s2.heap.objs.size (.lst [])) { s2 with heap:=s2.heap.push { cls:=.type "list",dict:=none,data:=.seq ([]:List Q3).toArray },toks:=s2.toks }:=I2.lnew (its:=[]) .nil (ZZ _);generalize hs3:({ s2 with heap:=s2.heap.push { cls:=.type "list",dict:=none,data:=.seq ([]:List Q3).toArray },toks:=s2.toks }:Q4)=s3 at I3;have es3:s3.heap=s2.heap.push { cls:=.type "list",dict:=none,data:=.seq ([]:List Q3).toArray }:=by rw[<-hs3]
 generalize hDD:s2.heap.objs.size=D at *;have kept:∀b o,s3.heap.get? b=some o->h₁.get? b=some o:=fun b o e=>by
  have lt:=QK e;rw[es3]at lt e;exact hsb₁.extBut b o (Qj lt) (Q5 _ e)
 have old:∀b o,s2.heap.get? b=some o->s3.heap.get? b=some o:=fun b o e=>by rw[es3];exact Q5 _ e
 have ltD:∀b∈fp,b<D:=fun b hb=>by
  obtain⟨o,e,_⟩:=T.obj 0 _ st2 b hb;rw[<-hDD];exact QK e
 have fo:∀b∈fp,b<s3.heap.objs.size:=fun b hb=>by
  obtain⟨o,e,_⟩:=T.obj 0 _ st2 b hb;exact QK (old _ _ e)
 have f3:∀b∈fp,wU X pins (upd H2 D (.lst [])) b:=fun b hb=>by
  refine⟨?_,(f2 b hb).2⟩;rw[aP (Qj (ltD b hb))];exact(f2 b hb).1
 rw[<-es3]at hns₁ hsb₁ ⊢;have Ic:=fun t'=>Inv.comp (h1:=h₁) (t':=t') (Nc:=Nc) (n:=n) I3 hc f3 fo hkind hcl hhas hcap tn hN hn hns₁ kept;have stat:∀{H':Hp},(∀b∈fp,H' b=none)->∀b∈fp,wU (cxC X Nc scope cl s3 (upd H2 D (.lst [])) fp) [] H' b:=fun hn' b hb=>by
  refine⟨hn' b hb,Qj (fo b hb),fun z=>?_,.inl hb,fun x c e=>(f2 b hb).2.2.2.2.1 x c (hcl.look e),fun p hp=>(by simp at hp)⟩;rcases Qq.mp (I3.stkSub b z)with q|q
  ·exact(f2 b hb).2.1 q
  ·exact(f2 b hb).2.2.1 q
 have loop:∀s4:Q4,(∃t',s4={ s3 with heap:=h₁,toks:=t' })->codeAny (Qz X.prog X.w) X.A (.compLoop (.ListComp elt [⟨tg,iter,[],0⟩] scope pos) 0 (.ref it) (.ref D) (compEnvC scope cl s3.heap.objs.size X.env))
   (compPost (Qz X.prog X.w) X.A X.xe use Qf (.ref D) s3.heap.objs.size) s4:=by
  rintro s4 ⟨t',rfl⟩;refine rF (fun n' s'=>∃i σ' H',Inv (cxC X Nc scope cl s3 (upd H2 D (.lst [])) fp) [] σ' H' s'/\tnn i s'.heap/\(∀b∈fp,H' b=none)/\W i n' σ' H') ?_ m0
   ⟨0,_,_,Ic t',T.keep 0 _ _ st2 fun b hb o e=>kept _ _ (old _ _ e),fun b hb=>(f3 b hb).1,w0⟩
  rintro n' s5 ⟨i,σ5,H5,I5,st5,fr5,w5⟩;rcases turn i n' σ5 H5 w5 with⟨stop,qn⟩|⟨go,N,hN',step⟩
  ·refine thn (T.done (cxC X Nc scope cl s3 (upd H2 D (.lst [])) fp) rfl rfl rfl hc i [] s5 σ5 H5 (fun _ _=>False) I5 (stat fr5) st5 stop) fun r s6 ⟨hr,I6⟩=>?_;subst hr;obtain⟨m,hm,_⟩:=I6.loc;have I7:Inv X pins σ H5 s6:=Inv.call' (ch:=fp) I3 I6.os I6.base I6.hok I6.bare fun b hb=>⟨(f2 b hb).2.2.2.1,(f2 b hb).2.1,(f2 b hb).2.2.2.2.1,(f2 b hb).2.2.2.2.2⟩;exact hend D _ s6 H5 m I7 hm I6.free (Ne.symm (Qj I3.lt)) I3.sz (fun x c e=>by
     obtain⟨v',o,ho,_⟩:=I3.cell x c e;exact Qj (QK ho)) (fun p hp=>Qj (QK (I3.pin p hp).1)) qn
  ·refine thn (T.item (cxC X Nc scope cl s3 (upd H2 D (.lst [])) fp) rfl rfl rfl hc i [] s5 σ5 H5 (fun _ _=>False) I5 (stat fr5) st5 go) fun r s6 ⟨u,hr,h6⟩=>?_;subst hr;refine thn h6 fun _ s7 hz=>?_;obtain⟨x,H7,I7,r7,y7,st7,fr7⟩:=hz;have I7':=I7.pinned (stat fr7) (T.obj _ _ st7);refine thn ((hg s3 (upd H2 D (.lst [])) fp).h _ s7 σ5 H7 x u _ I7' r7 (step x H7 y7)) fun _ s8 hz=>?_;obtain⟨σ8,H8,I8,q8⟩:=hz;refine thn ((he s3 (upd H2 D (.lst [])) fp).h _ s8 σ8 H8 _ I8 q8) fun v9 s9 hz=>?_;obtain⟨x9,H9,I9,r9,ys,hy,hlt,q9⟩:=hz;refine thn (mB (X:=cxC X Nc scope cl s3 (upd H2 D (.lst [])) fp) _ s9 σ8 H9 (.ref D) [x9] (.ref D) [v9] (fun _ H'=>N σ8 H') I9 rfl (.cons r9 .nil) ⟨D,ys,x9,rfl,rfl,hy,hlt,q9⟩) fun _ s10 hz=>?_;obtain⟨_,H10,I10,_,q10⟩:=hz;obtain⟨m',hm,w10⟩:=hN' σ8 H10 q10;refine⟨m',hm,i+1,σ8,H10,I10.unpinned,T.keep _ _ _ st7 fun b hb o e=>(I10.pin (b,o) (QN _ (QN _ (fN hb e)))).1,fun b hb=>?_,w10⟩;obtain⟨o,e,d⟩:=T.obj _ _ st7 b hb;exact(I10.pin (b,o) (QN _ (QN _ (fN hb e)))).2.1
 have e4:∀t',({ s2 with heap:=h₁,toks:=t' }:Q4)={ s3 with heap:=h₁,toks:=t' }:=fun t'=>by rw[<-hs3]
 refine codeAny_compStart_list (loop _ ⟨_,e4 _⟩) (T.self _ 0 _ _ _ (T.keep 0 _ _ st2 fun b hb o e=>kept _ _ (old _ _ e)) (loop _ ⟨_,e4 _⟩))
theorem ud{X:Cx}{Nc capN tn:List Str}{scope:Zr}{cl:List (Str×Addr)}{n:Nat}{caps:List Nat}{tg iter elt:QH}{pos:Pos}{wi:TI}{g:TG}{te:TE}
  (hc:X.calm=true) (hi:WI X tg iter wi) (hg:∀s3 H3 fp,WG (cxC X Nc scope cl s3 H3 fp) tg g) (he:∀s3 H3 fp,WE (cxC X Nc scope cl s3 H3 fp) elt te)
  (hclos:closureFor scope X.env=pure cl) (hkind:scope.kind=.function) (hnl:∀x∈scope.names,x.2=.local->scope.names.lookup x.1=some .local) (hcell:∀x∈scope.names,x.2≠.cell)
  (hcl:vH X.env cl) (hhas:((relabel scope X.env).names.all fun p=>!(p.2 == .cell||p.2 == .free)||(cl.lookup p.1).isSome)=true)
  (hcap:Paired (Cap X scope cl) caps capN) (hN:Nc=tn++capN) (hn:tn.length=n)
  (hs:∀x,foldedSetIterable iter X.env x=pure x:=by intro _;rfl) :
  WE X (.ListComp elt [⟨tg,iter,[],0⟩] scope pos) (Ap wi g te n caps):=by
 constructor;intro pins s σ H Q I h;rw[eval_ListComp];refine vt hc hi hg he hclos hkind hnl hcell hcl hhas hcap hN hn I h (fun D C s6 H5 m I7 hm fr nl sz cn pn qn=>⟨m,hm,fun h' hs'=>?_⟩) hs;exact⟨.ref D,H5,I7.turned (t':=s6.toks) (it:=C) (fun b o hb e=>hs'.extBut b o hb e) fr nl (.inr sz) cn pn,rfl,qn⟩
section
variable{X:Cx}
theorem sj:∀{bs:List Bool} {us:List Q3} {i:Nat} {v:Q3},bR (bs.map V.bl) us->us[i]?=some v->∃b,bs[i]?=some b/\v=.bool b
 |[],_,_,_,r,e=>by cases r;simp at e
 |b::bs,_,0,_,.cons r _,e=>by
  have r':_=Value.bool b:=r;simp at e;subst e;exact⟨b,by simp,r'⟩
 |b::bs,_,i+1,v,.cons _ t,e=>by
  obtain⟨b',e1,e2⟩:=sj (i:=i) (v:=v) t (by simpa using e);exact⟨b',by simpa using e1,e2⟩
theorem BY(bs:List Bool):(Qa bs.length).all (fun i=>(bs[i]?).getD true)=bs.all id:=by
 rw[ZK,List.all_eq_true,List.all_eq_true];constructor
 ·intro h b hb;obtain⟨i,hi,e⟩:=List.mem_iff_getElem.mp hb;have:=h i (ZJ.mpr hi);rw[Q7 hi,Zq,e]at this;exact this
 ·intro h i hi;have hi':=ZJ.mp hi;have:=h _ (Zb hi');rw[Q7 hi',Zq];exact this
theorem yg{h:Heap}{b:Addr}{o:Obj}(e:h.get? b=some o):¬b∈[h.objs.size]:=fun z=>by
 have z':b=h.objs.size:=by simpa using z
 exact absurd (QK e) (by rw[z'];exact ZN _)
theorem BN(hc:X.calm=true):fD X (.builtin "all") (fun xs H Q=>∃(p:Addr) (bs:List Bool),xs=[.ref p]/\SqL X.K H p (bs.map V.bl)/\Q (.bl (bs.all id)) H):=by
 intro pins s σ H xs us Q I r h;obtain⟨p,bs,rfl,hq,q⟩:=h;obtain⟨u,rfl,rx⟩:=kC r;cases rx;obtain⟨its,rv,pl,hz⟩:=I.list hq;have hlen:=rv.length;rw[Q8]at hlen;refine call_all_walk (wpAny_pyIter_list pl.isList ?_);have lt:p<s.heap.objs.size:=by obtain⟨o,e,_⟩:=pl.isList;exact QK e
 refine⟨s.heap.objs.size,_,_,_,_,_,fun i=>(bs[i]?).getD true,rfl,Walks.list (show X.A.in1.handled=none from I.ok.hd hc) s.heap.objs.size p (Qj lt) its.toArray,⟨⟨_,QM _ rfl,rfl,rfl⟩,pl.isList.at fun o e=>Q5 _ e⟩,?_,fun h' tk hk=>?_⟩
 ·intro i v s' Q' E' hP hQ;have hP':its.toArray[i]?=some v:=hP;obtain⟨b,e1,e2⟩:=sj rv (by simpa using hP');subst e2;dsimp only at hQ;rw[e1,Zq]at hQ;exact wpAny_truthy_bool hQ
 ·have e:(Qa its.toArray.size).all (fun i=>(bs[i]?).getD true)=bs.all id:=by
   rw[QD,<-hlen];exact BY bs
  rw[e];exact⟨.bl (bs.all id),H,I.kept fun b o e=>hk b o (yg e) (Q5 _ e),rfl,q⟩
end
open PySem.AutoSeq1 (wpAny_loadPart')
theorem BL{prog:Qx}{w:Qg}{A:Qd}{E:Q3->Q4->Prop}{s:Q4}{t b:Addr}{vs ws:List Q3}{Q:Q3->Q4->Prop}(ht:IsTup s.heap t vs.toArray)(hb:IsTup s.heap b ws.toArray)(hv:vs=[])
  (h1:Q (.ref b) s):wpAny (Qz prog w) A (binaryOp .Add (.ref t) (.ref b)) Q E s:=by
 obtain⟨⟨cls,dd,data,sl⟩,ho,hc,n,hd⟩:=id ht;obtain⟨⟨cls2,dd2,data2,sl2⟩,ho2,hc2,n2,hd2⟩:=id hb;simp only at hc hd hc2 hd2;subst hc hd hc2 hd2;exact concat_meets ⟨_,ho,rfl⟩ ⟨_,ho2,rfl⟩ noFill_tuple_add seq_tuple_add PySem.F.slot_tuple_add PySem.F.entry_tuple_add (PySem.F.args_tuple_add_2 _ _)
   (tuple_addW0 t b vs.toArray ws.toArray n n2 dd dd2 sl sl2 (by simp[hv])) ⟨ho,ho2,h1⟩
theorem lH:fillsNumberSlot (.type "tuple") "mul"=pure false:=
 PySem.fillsNumberSlot_seq (id:="tuple.__mul__") (r:=some (.builtin "tuple.__rmul__")) F.slot_tuple_mul.lookup (by decide +kernel) F.slot_tuple_rmul.lookup (by decide +kernel)
theorem qr:seqRepeat? (.type "tuple")=pure (some (.builtin "tuple.__mul__")):=by
 unfold seqRepeat?;rw[PySem.seqSlot_of (T:="tuple") (name:="__mul__") (id:="tuple.__mul__") F.slot_tuple_mul.lookup (by decide +kernel),PySem.seqSlot_of (T:="tuple") (name:="__rmul__") (id:="tuple.__rmul__") F.slot_tuple_rmul.lookup (by decide +kernel)];rfl
theorem nv(a:Int)(t:Tok)(l:Addr)(items:Array Q3)(n:Nat)(dd:Option Addr)(sl:Array (Option Q3)) :
  Meets (Builtin.«int.__rmul__» ⟨[.int a t,.ref l],[]⟩) (fun _ R s=>s.heap.get? l=some { cls:=.type "tuple",dict:=dd,data:=.seq items n,slots:=sl }/\R (.ok (.ret Value.notImplemented)) s):=
 .of_wp fun prog w A R s h=>by obtain⟨hp,g,d,tk,os⟩:=s;obtain⟨hl,h⟩:=h;wp_walk using wpAny_loadPart' hl;exact⟨_,rfl,h⟩
theorem sy(l:Addr)(items:Array Q3)(n:Nat)(dd:Option Addr)(sl:Array (Option Q3))(t:Tok) :
  Meets (Builtin.«tuple.__mul__» ⟨[.ref l,.int 1 t],[]⟩) (fun _ R s=>s.heap.get? l=some { cls:=.type "tuple",dict:=dd,data:=.seq items n,slots:=sl }/\R (.ok (.ret (Value.ref l))) s):=
 .of_wp fun prog w A R s h=>by obtain⟨hp,g,d,tk,os⟩:=s;obtain⟨hl,h⟩:=h;have f1:=AutoSeq1.idx_int;wp_walk using wpAny_loadPart' hl;exact⟨_,rfl,h⟩
theorem sx(l:Addr)(items:Array Q3)(n:Nat)(dd:Option Addr)(sl:Array (Option Q3))(k:Int)(t:Tok)(hc0:¬(decide (k < -2^63)||decide (k≥2^63))=true)(hc1:¬(items.isEmpty||k == 1)=true)(hc2:¬(decide (k<=0)||items.isEmpty)=true)
  (hc3:¬((items.size:Int)*k>(2^63-1) / 8)) (hc4:¬Builtin.Tuple.tupleTooMany ((items.size:Int)*k)=true) (hz:(List.foldl (fun x1 x2=>x1++x2) #[] (QY k.toNat items)).size<=QB) :
  Meets (Builtin.«tuple.__mul__» ⟨[.ref l,.int k t],[]⟩) (fun _ R s=>s.heap.get? l=some { cls:=.type "tuple",dict:=dd,data:=.seq items n,slots:=sl }/\
   R (.ok (.ret (Value.ref s.heap.objs.size))) { s with heap:=s.heap.push { cls:=Value.type "tuple",data:=Data.seq (List.foldl (fun x1 x2=>x1++x2) #[] (QY k.toNat items)) } }):=
 .of_wp fun prog w A R s h=>by
  obtain⟨hp,g,d,tk,os⟩:=s;obtain⟨hl,h⟩:=h;have f1:=AutoSeq1.idx_int;have g0:(decide (k < -2^63)||decide (k≥2^63))=false:=by simpa using hc0
  have g1:(items.isEmpty||k == 1)=false:=by simpa using hc1
  have g2:(decide (k<=0)||items.isEmpty)=false:=by simpa using hc2
  have g4:Builtin.Tuple.tupleTooMany ((items.size:Int)*k)=false:=by simpa using hc4
  wp_walk using wpAny_loadPart' hl
  refine PySem.W.KFB.if_not g0 ?_
  wp_walk using wpAny_loadPart' hl
  try (refine PySem.W.KFB.if_not g1 ?_;wp_walk using wpAny_loadPart' hl)
  try (refine PySem.W.KFB.if_not g2 ?_;wp_walk using wpAny_loadPart' hl)
  try (rw[if_neg hc3];wp_walk using wpAny_loadPart' hl)
  try (refine PySem.W.KFB.if_not g4 ?_;wp_walk using wpAny_loadPart' hl)
  try (refine wpAny_ite_false (decide_eq_false (Nat.not_lt.mpr hz)) ?_;wp_walk)
  exact⟨_,rfl,h⟩
theorem yw{m:Int}(h0:0<=m)(h:m<2^60):m.natAbs.log2<9000:=by
 have:=wk (n:=m.natAbs) (by omega);omega
end OG
namespace OP
open PySem PySem.Spec PyProof.Rows L2 OG
inductive U where
 |non|bl (b:Bool)|int (i:Int)|str (x:Str)|tup (us:List U)|ref (l:Nat)|kl (ns:List Int)
structure Cl where
 C:Addr
 ns:List Str
inductive O where
 |lst (us:List U)|dic (kvs:List (Key×U))|ins (c:Cl) (fs:List (Option U))|fdc (ep:Nat) (kvs:List (Key×U))|dit (kvs:List (List Key×U))|fdt (ep:Nat) (kvs:List (List Key×U))|dnt (kvs:List (List (List Int)×U))|fdn (ep:Nat) (kvs:List (List (List Int)×U))|cod (p:Addr) (pos:Pos) (q:Str)
abbrev Sto:=List O
abbrev Rho:=List (Option U)
def KL(K:Q1)(H:Hp)(a:Addr)(ns:List Int):Prop:=
 (∃o,H a=some (.frz o (.lst (ns.map V.int))))\/
  ∃(o:Obj) (its:Array Q3) (n:Nat),K.lookup a=some o/\o.cls=.type "list"/\o.dict=none/\o.data=.seq its n/\its.size<=QB/\bR (ns.map V.int) its.toList
theorem KL.sq{K:Q1}{H:Hp}{a:Addr}{ns:List Int}(h:KL K H a ns):SqL K H a (ns.map V.int):=by
 rcases h with h|h
 ·exact .inl (.inr h)
 ·exact .inr h
mutual
def Is(K:Q1)(m:List Addr)(H:Hp):V->U->Prop
 |v,.non=>v=.non
 |v,.bl b=>v=.bl b
 |v,.int i=>v=.int i
 |v,.str x=>v=.str x
 |v,.tup us=>∃a xs,v=.ref a/\SqT K H a xs/\IsL K m H xs us
 |v,.ref l=>∃a,m[l]?=some a/\v=.ref a
 |v,.kl ns=>∃a,v=.ref a/\KL K H a ns
def IsL(K:Q1)(m:List Addr)(H:Hp):List V->List U->Prop
 |xs,[]=>xs=[]
 |xs,u::us=>∃x r,xs=x::r/\Is K m H x u/\IsL K m H r us
end
structure wR(K:Q1)(H H':Hp):Prop where
 t:∀a xs,SqT K H a xs->SqT K H' a xs
 l:∀a ns,KL K H a ns->KL K H' a ns
 c:∀a ob,H a=some (.frz ob (.own 0))->H' a=some (.frz ob (.own 0))
structure Ext(K:Q1)(m:List Addr)(H:Hp)(m':List Addr)(H':Hp):Prop where
 pre:∃t,m'=m++t
 keep:wR K H H'
section
variable{K:Q1}{m m' m'':List Addr}{H H' H'':Hp}{v x:V}{u:U}{xs ys:List V}{us ws:List U}{a q:Addr}{o:HO}
def Ext.refl:Ext K m H m H:=⟨⟨[],by simp⟩,fun _ _ h=>h,fun _ _ h=>h,fun _ _ h=>h⟩
theorem Ext.trans(a:Ext K m H m' H')(b:Ext K m' H' m'' H''):Ext K m H m'' H'':=by
 obtain⟨t,rfl⟩:=a.pre;obtain⟨t',rfl⟩:=b.pre;exact⟨⟨t++t',by simp⟩,fun c ys h=>b.keep.t c ys (a.keep.t c ys h),fun c ys h=>b.keep.l c ys (a.keep.l c ys h),fun c ob h=>b.keep.c c ob (a.keep.c c ob h)⟩
def Ext.of(k:wR K H H'):Ext K m H m H':=⟨⟨[],by simp⟩,k⟩
def Ext.new(k:wR K H H'):Ext K m H (m++[q]) H':=⟨⟨[q],rfl⟩,k⟩
theorem Ext.get{l:Nat}(e:Ext K m H m' H')(h:m[l]?=some a):m'[l]?=some a:=by
 obtain⟨t,rfl⟩:=e.pre;rw[Qo (Q9.mp h).1];exact h
mutual
theorem Is.mono(e:Ext K m H m' H'):∀{v:V} {u:U},Is K m H v u->Is K m' H' v u
 |v,.non,h=>by unfold Is at h ⊢;exact h
 |v,.bl b,h=>by unfold Is at h ⊢;exact h
 |v,.int i,h=>by unfold Is at h ⊢;exact h
 |v,.str x,h=>by unfold Is at h ⊢;exact h
 |v,.tup us,h=>by
  unfold Is at h ⊢;obtain⟨a,xs,e1,k,l⟩:=h;exact⟨a,xs,e1,e.keep.t _ _ k,IsL.mono e l⟩
 |v,.ref l,h=>by
  unfold Is at h ⊢;obtain⟨a,k,e1⟩:=h;exact⟨a,e.get k,e1⟩
 |v,.kl ns,h=>by
  unfold Is at h ⊢;obtain⟨a,e1,k⟩:=h;exact⟨a,e1,e.keep.l _ _ k⟩
theorem IsL.mono(e:Ext K m H m' H'):∀{xs:List V} {us:List U},IsL K m H xs us->IsL K m' H' xs us
 |xs,[],h=>by unfold IsL at h ⊢;exact h
 |xs,u::us,h=>by
  unfold IsL at h ⊢;obtain⟨x,r,e1,k,l⟩:=h;exact⟨x,r,e1,Is.mono e k,IsL.mono e l⟩
end
def Is.int_{i:Int}:Is K m H (.int i) (.int i):=by unfold Is;rfl
def Is.bl_{b:Bool}:Is K m H (.bl b) (.bl b):=by unfold Is;rfl
def Is.non_:Is K m H .non .non:=by unfold Is;rfl
def Is.str_{x:Str}:Is K m H (.str x) (.str x):=by unfold Is;rfl
def Is.of_int{i:Int}(h:Is K m H v (.int i)):v=.int i:=by unfold Is at h;exact h
def Is.of_bl{b:Bool}(h:Is K m H v (.bl b)):v=.bl b:=by unfold Is at h;exact h
def Is.of_non(h:Is K m H v .non):v=.non:=by unfold Is at h;exact h
def Is.of_str{x:Str}(h:Is K m H v (.str x)):v=.str x:=by unfold Is at h;exact h
def Is.of_tup(h:Is K m H v (.tup us)):∃a xs,v=.ref a/\SqT K H a xs/\IsL K m H xs us:=by unfold Is at h;exact h
def Is.of_ref{l:Nat}(h:Is K m H v (.ref l)):∃a,m[l]?=some a/\v=.ref a:=by unfold Is at h;exact h
def Is.of_kl{ns:List Int}(h:Is K m H v (.kl ns)):∃a,v=.ref a/\KL K H a ns:=by unfold Is at h;exact h
def Is.kl_{ns:List Int}(e:KL K H a ns):Is K m H (.ref a) (.kl ns):=by unfold Is;exact⟨a,rfl,e⟩
def Is.tup_(e:SqT K H a xs)(h:IsL K m H xs us):Is K m H (.ref a) (.tup us):=by unfold Is;exact⟨a,xs,rfl,e,h⟩
def Is.ref_{l:Nat}(e:m[l]?=some a):Is K m H (.ref a) (.ref l):=by unfold Is;exact⟨a,e,rfl⟩
def IsL.nil_:IsL K m H [] []:=by unfold IsL;rfl
def IsL.cons_(h:Is K m H x u)(t:IsL K m H xs us):IsL K m H (x::xs) (u::us):=by unfold IsL;exact⟨x,xs,rfl,h,t⟩
def IsL.of_nil(h:IsL K m H xs []):xs=[]:=by unfold IsL at h;exact h
def IsL.of_cons(h:IsL K m H xs (u::us)):∃x r,xs=x::r/\Is K m H x u/\IsL K m H r us:=by unfold IsL at h;exact h
theorem IsL.length:∀{xs:List V} {us:List U},IsL K m H xs us->xs.length=us.length
 |xs,[],h=>by rw[h.of_nil];rfl
 |xs,d::ds,h=>by
  obtain⟨x,r,rfl,_,t⟩:=h.of_cons;rw[QV,QV,IsL.length t]
theorem IsL.getD:∀{xs:List V} {us:List U} {i:Nat} {u:U},IsL K m H xs us->us[i]?=some u->∃x,xs[i]?=some x/\Is K m H x u
 |xs,[],i,x,h,e=>by simp at e
 |xs,d::ds,0,x,h,e=>by
  obtain⟨y,r,rfl,k,t⟩:=h.of_cons;simp at e;subst e;exact⟨y,by simp,k⟩
 |xs,d::ds,i+1,x,h,e=>by
  obtain⟨y,r,rfl,k,t⟩:=h.of_cons;obtain⟨d',e1,e2⟩:=IsL.getD (i:=i) (u:=x) t (by simpa using e);exact⟨d',by simpa using e1,e2⟩
theorem IsL.append:∀{xs:List V} {us:List U},IsL K m H xs us->IsL K m H ys ws->IsL K m H (xs++ys) (us++ws)
 |xs,[],h,k=>by rw[h.of_nil];exact k
 |xs,d::ds,h,k=>by
  obtain⟨y,r,rfl,z,t⟩:=h.of_cons;exact .cons_ z (IsL.append t k)
theorem IsL.set:∀{xs:List V} {us:List U} {j:Nat},IsL K m H xs us->Is K m H x u->IsL K m H (xs.set j x) (us.set j u)
 |xs,[],j,h,k=>by rw[h.of_nil];exact .nil_
 |xs,d::ds,0,h,k=>by
  obtain⟨y,r,rfl,z,t⟩:=h.of_cons;exact .cons_ k t
 |xs,d::ds,j+1,h,k=>by
  obtain⟨y,r,rfl,z,t⟩:=h.of_cons;exact .cons_ z (IsL.set t k)
theorem IsL.drop:∀{xs:List V} {us:List U} (n:Nat),IsL K m H xs us->IsL K m H (xs.drop n) (us.drop n)
 |xs,us,0,h=>h
 |xs,[],n+1,h=>by rw[h.of_nil];exact .nil_
 |xs,d::ds,n+1,h=>by
  obtain⟨y,r,rfl,z,t⟩:=h.of_cons;exact IsL.drop n t
theorem IsL.take:∀{xs:List V} {us:List U} (n:Nat),IsL K m H xs us->IsL K m H (xs.take n) (us.take n)
 |xs,us,0,h=>.nil_
 |xs,[],n+1,h=>by rw[h.of_nil];exact .nil_
 |xs,d::ds,n+1,h=>by
  obtain⟨y,r,rfl,z,t⟩:=h.of_cons;exact .cons_ z (IsL.take n t)
theorem IsL.erase:∀{xs:List V} {us:List U} (n:Nat),IsL K m H xs us->IsL K m H (xs.eraseIdx n) (us.eraseIdx n)
 |xs,[],n,h=>by rw[h.of_nil];exact .nil_
 |xs,d::ds,0,h=>by
  obtain⟨y,r,rfl,z,t⟩:=h.of_cons;exact t
 |xs,d::ds,n+1,h=>by
  obtain⟨y,r,rfl,z,t⟩:=h.of_cons;exact .cons_ z (IsL.erase n t)
theorem IsL.rep:∀(n:Nat),IsL K m H xs us->IsL K m H (QY n xs).flatten (QY n us).flatten
 |0,h=>.nil_
 |n+1,h=>by
  rw[ZO,ZO,Zf,Zf];exact h.append (IsL.rep n h)
theorem uV(h:H a=some o)(nt:∀xs,o≠.tup xs)(nf:∀ob xs,o≠.frz ob (.tup xs))(nl:∀ob xs,o≠.frz ob (.lst xs))(nc:∀ob,o≠.frz ob (.own 0))(o':HO):wR K H (upd H a o'):=by
 refine⟨fun b xs q=>?_,fun b ns q=>?_,fun b ob q=>by rw[aP (fun z=>by subst z;rw[q]at h;cases h;exact nc _ rfl)];exact q⟩
 ·rcases q with(q|⟨ob,q⟩)|q
  ·have n:b≠a:=fun z=>by subst z;rw[q]at h;cases h;exact nt _ rfl
   exact .inl (.inl (by rw[aP n];exact q))
  ·have n:b≠a:=fun z=>by subst z;rw[q]at h;cases h;exact nf _ _ rfl
   exact .inl (.inr ⟨ob,by rw[aP n];exact q⟩)
  ·exact .inr q
 ·rcases q with⟨ob,q⟩|q
  ·have n:b≠a:=fun z=>by subst z;rw[q]at h;cases h;exact nl _ _ rfl
   exact .inl ⟨ob,by rw[aP n];exact q⟩
  ·exact .inr q
theorem dw(s:C7 H H'):wR K H H':=by
 refine⟨fun b xs q=>?_,fun b ns q=>?_,fun b ob q=>s _ _ q⟩
 ·rcases q with(q|⟨ob,q⟩)|q
  ·exact .inl (.inl (s _ _ q))
  ·exact .inl (.inr ⟨ob,s _ _ q⟩)
  ·exact .inr q
 ·rcases q with⟨ob,q⟩|q
  ·exact .inl ⟨ob,s _ _ q⟩
  ·exact .inr q
def cN(h:H q=none)(o':HO):wR K H (upd H q o'):=dw (gO h o')
end
abbrev NK:=List (List Int)
def hNK(ks:NK):Int:=reduceHash (Builtin.Tuple.tupleHashOf (ks.map fun k=>reduceHash (Builtin.Tuple.tupleHashOf (k.map hashInt))))
abbrev KN:List ((NK×Addr)×V)->List (NK×Addr×Q3)->Prop:=Paired fun p q=>p.1.1=q.1/\p.1.2=q.2.1/\cE p.2 q.2.2
def dNo(a:Addr)(kvs:List ((NK×Addr)×V)):HO:=.ext fun h=>kvs.length<=QB/\(a == sysModules)=false/\∃xs,KN kvs xs/\
 ∃o es ep,h.get? a=some o/\o.ExactDict/\o.data=.dict es ep/\es.toList=(xs.map fun x=>(⟨hNK x.1,.ref x.2.1,x.2.2⟩:DictEntry))/\(xs.map (·.1)).Nodup
def Jb(K:Q1)(H:Hp)(b:Addr)(k:NK):Prop:=∃cs:List Addr,SqT K H b (cs.map V.ref)/\Paired (fun(l:List Int) c=>SqT K H c (l.map V.int)) k cs
theorem Jb.mono{K:Q1}{H H':Hp}{b:Addr}{k:NK}(e:wR K H H')(h:Jb K H b k):Jb K H' b k:=let ⟨cs,p,q⟩:=h;⟨cs,e.t _ _ p,Paired.mapP q fun _ _ z=>e.t _ _ z⟩
def nP(kvs:List ((NK×Addr)×V)):List (NK×V):=kvs.map fun p=>(p.1.1,p.2)
def IsP{κ:Type}(K:Q1)(m:List Addr)(H:Hp)(kvs:List (κ×V))(kus:List (κ×U)):Prop:=kvs.map (·.1)=kus.map (·.1)/\IsL K m H (kvs.map (·.2)) (kus.map (·.2))
def Rf(K:Q1)(m:List Addr)(H:Hp):Option V->Option U->Prop
 |some v,some u=>Is K m H v u
 |none,none=>True
 |_,_=>False
structure InF(K:Q1)(m:List Addr)(H:Hp)(c:Cl)(fs:List (Str×V))(fus:List (Option U)):Prop where
 nd:c.ns.Nodup
 few:c.ns.length<1000
 knd:(fs.map (·.1)).Nodup
 sub:∀x∈fs.map (·.1),x∈c.ns
 len:fus.length=c.ns.length
 at_:∀(i:Nat) (x:Str),c.ns[i]?=some x->Rf K m H (fs.lookup x) ((fus[i]?).join)
theorem Rf.mono{K:Q1}{m m':List Addr}{H H':Hp}{v:Option V}{u:Option U}(e:Ext K m H m' H')(h:Rf K m H v u):Rf K m' H' v u:=by
 cases v with
 |none=>cases u with
  |none=>trivial
  |some u=>exact h.elim
 |some v=>cases u with
  |none=>exact h.elim
  |some u=>exact Is.mono e h
theorem InF.mono{K:Q1}{m m':List Addr}{H H':Hp}{c:Cl}{fs:List (Str×V)}{fus:List (Option U)}(e:Ext K m H m' H')(h:InF K m H c fs fus):InF K m' H' c fs fus:=⟨h.nd,h.few,h.knd,h.sub,h.len,fun i x q=>(h.at_ i x q).mono e⟩
def B1(H:Hp)(pos:Pos)(q:Str)(ps:Array Q3):Prop:=TriplesOk ps.toList/\(codeAmong pos ps.toList=none\/∃c ob vs t,codeAmong pos ps.toList=some (.ref c)/\H c=some (.frz ob (.own 0))/\ob.data=.fields vs/\vs[1]?=some (.str q t))
theorem B1.mono{K:Q1}{H H':Hp}{pos:Pos}{q:Str}{ps:Array Q3}(e:wR K H H')(h:B1 H pos q ps):B1 H' pos q ps:=⟨h.1,h.2.imp id fun⟨c,ob,vs,t,h1,h2,h3⟩=>⟨c,ob,vs,t,h1,e.c _ _ h2,h3⟩⟩
def Ob(K:Q1)(m:List Addr)(H:Hp)(a:Addr):O->Prop
 |.lst us=>∃xs,H a=some (.lst xs)/\IsL K m H xs us
 |.dic kus=>∃kvs,H a=some (.dK kvs)/\IsP K m H kvs kus
 |.ins c fus=>∃dx fs,H a=some (.ins c.C dx fs)/\InF K m H c fs fus
 |.fdc ep kus=>∃ob es kvs,H a=some (.frz ob (.dK kvs))/\ob.data=.dict es ep/\IsP K m H kvs kus
 |.dit kus=>∃kvs,H a=some (.dT kvs)/\IsP K m H kvs kus
 |.fdt ep kus=>∃ob es kvs,H a=some (.frz ob (.dT kvs))/\ob.data=.dict es ep/\IsP K m H kvs kus
 |.dnt kus=>∃kvs,H a=some (dNo a kvs)/\(∀p∈kvs,Jb K H p.1.2 p.1.1)/\IsP K m H (nP kvs) kus
 |.fdn ep kus=>∃ob es kvs,H a=some (.frz ob (dNo a kvs))/\ob.data=.dict es ep/\(∀p∈kvs,Jb K H p.1.2 p.1.1)/\IsP K m H (nP kvs) kus
 |.cod p pos q=>a=p/\∃ps,H a=some (.tbl ps)/\B1 H pos q ps
structure Sr(K:Q1)(m:List Addr)(S:Sto)(H:Hp):Prop where
 len:m.length=S.length
 nd:m.Nodup
 ob:∀(l:Nat) (a:Addr) (o:O),m[l]?=some a->S[l]?=some o->Ob K m H a o
structure Lr(K:Q1)(m:List Addr)(H:Hp)(ρ:Rho)(σ:L2.St):Prop where
 len:ρ.length=σ.length
 at_:∀(i:Nat) (u:U),ρ[i]?=some (some u)->∃v,σ[i]?=some (some v)/\Is K m H v u
section
variable{κ:Type}{K:Q1}{m m':List Addr}{H H':Hp}{S:Sto}{ρ:Rho}{σ:L2.St}{a q:Addr}{l:Nat}{o:O}{ho:HO}{us:List U}{v:V}{u:U}{kvs:List (κ×V)}{kus:List (κ×U)}
def IsP.mono(e:Ext K m H m' H')(h:IsP K m H kvs kus):IsP K m' H' kvs kus:=⟨h.1,h.2.mono e⟩
def IsP.length(h:IsP K m H kvs kus):kvs.length=kus.length:=by have:=h.2.length;simpa using this
def IsP.nil_:IsP (κ:=κ) K m H [] []:=⟨rfl,.nil_⟩
theorem IsP.cons_{k:κ}(h:Is K m H v u)(t:IsP K m H kvs kus):IsP K m H ((k,v)::kvs) ((k,u)::kus):=⟨by simp[t.1],.cons_ h t.2⟩
theorem IsP.ind{P:List (κ×V)->List (κ×U)->Prop}(h0:P [] [])(h1:∀k v u kvs kus,Is K m H v u->IsP K m H kvs kus->P kvs kus->P ((k,v)::kvs) ((k,u)::kus)):∀{kvs:List (κ×V)} {kus:List (κ×U)},IsP K m H kvs kus->P kvs kus
 |[],[],_=>h0
 |[],p::r,h=>by have:=h.length;simp at this
 |p::r,[],h=>by have:=h.length;simp at this
 |(k,v)::r,(k',u)::r',h=>by
  obtain⟨e,i⟩:=h;simp only[QF,List.cons.injEq]at e;obtain⟨e1,e2⟩:=e;subst e1;obtain⟨x,t,e3,iu,it⟩:=i.of_cons;cases e3;exact h1 k v u r r' iu ⟨e2,it⟩ (IsP.ind h0 h1 (⟨e2,it⟩:IsP K m H r r'))
theorem Ob.mono(e:Ext K m H m' H')(h1:H' a=H a)(h:Ob K m H a o):Ob K m' H' a o:=by
 cases o with
 |lst us=>obtain⟨xs,k,i⟩:=h;exact⟨xs,h1.trans k,i.mono e⟩
 |dic kus=>obtain⟨xs,k,i⟩:=h;exact⟨xs,h1.trans k,i.mono e⟩
 |ins C fus=>obtain⟨dx,fs,k,i⟩:=h;exact⟨dx,fs,h1.trans k,i.mono e⟩
 |fdc ep kus=>obtain⟨ob,es,kvs,k,d,i⟩:=h;exact⟨ob,es,kvs,h1.trans k,d,i.mono e⟩
 |dit kus=>obtain⟨xs,k,i⟩:=h;exact⟨xs,h1.trans k,i.mono e⟩
 |fdt ep kus=>obtain⟨ob,es,kvs,k,d,i⟩:=h;exact⟨ob,es,kvs,h1.trans k,d,i.mono e⟩
 |dnt kus=>obtain⟨kvs,k,y,i⟩:=h;exact⟨kvs,h1.trans k,fun p hp=>(y p hp).mono e.keep,i.mono e⟩
 |fdn ep kus=>obtain⟨ob,es,kvs,k,d,y,i⟩:=h;exact⟨ob,es,kvs,h1.trans k,d,fun p hp=>(y p hp).mono e.keep,i.mono e⟩
 |cod p pos q=>obtain⟨z,ps,k,i⟩:=h;exact⟨z,ps,h1.trans k,i.mono e.keep⟩
theorem Ob.some(h:Ob K m H a o):∃ho,H a=some ho/\(∀xs,ho≠.tup xs)/\(∀ob xs,ho≠.frz ob (.tup xs))/\(∀ob xs,ho≠.frz ob (.lst xs))/\(∀ob,ho≠.frz ob (.own 0)):=by
 cases o with
 |lst us=>obtain⟨xs,k,i⟩:=h;exact⟨_,k,by simp,by simp,by simp,by simp⟩
 |dic kus=>obtain⟨xs,k,i⟩:=h;exact⟨_,k,by simp,by simp,by simp,by simp⟩
 |ins C fus=>obtain⟨dx,fs,k,i⟩:=h;exact⟨_,k,by simp,by simp,by simp,by simp⟩
 |fdc ep kus=>obtain⟨ob,es,kvs,k,d,i⟩:=h;exact⟨_,k,by simp,by simp,by simp,by simp⟩
 |dit kus=>obtain⟨xs,k,i⟩:=h;exact⟨_,k,by simp,by simp,by simp,by simp⟩
 |fdt ep kus=>obtain⟨ob,es,kvs,k,d,i⟩:=h;exact⟨_,k,by simp,by simp,by simp,by simp⟩
 |dnt kus=>obtain⟨kvs,k,y,i⟩:=h;exact⟨_,k,by simp[dNo],by simp[dNo],by simp[dNo],by simp[dNo]⟩
 |fdn ep kus=>obtain⟨ob,es,kvs,k,d,y,i⟩:=h;exact⟨_,k,by simp,by simp[dNo],by simp[dNo],by simp[dNo]⟩
 |cod p pos q=>obtain⟨z,ps,k,i⟩:=h;exact⟨_,k,by simp,by simp,by simp,by simp⟩
theorem Lr.mono(e:Ext K m H m' H')(h:Lr K m H ρ σ):Lr K m' H' ρ σ:=⟨h.len,fun i u e1=>let ⟨v,e2,e3⟩:=h.at_ i u e1;⟨v,e2,e3.mono e⟩⟩
theorem Lr.set(h:Lr K m H ρ σ)(i:Nat)(hv:Is K m H v u):Lr K m H (ρ.set i (some u)) (σ.set i (some v)):=by
 refine⟨by simp[h.len],fun j w e=>?_⟩;by_cases c:i=j
 ·subst c;rw[List.getElem?_set_self' ]at e;rw[List.getElem?_set_self'];have hl:=h.len;cases e1:ρ[i]? with
  |none=>rw[e1]at e;simp at e
  |some z=>
   rw[e1]at e;simp at e;subst e;have:i < σ.length:=by rw[<-hl];exact(Q9.mp e1).1
   rw[Q7 this];exact⟨v,rfl,hv⟩
 ·rw[Qb c]at e;rw[Qb c];exact h.at_ j w e
theorem Sr.get(r:Sr K m S H)(h:S[l]?=some o):∃a,m[l]?=some a/\Ob K m H a o:=by
 have hl:l<m.length:=by rw[r.len];exact(Q9.mp h).1
 exact⟨_,Q7 hl,r.ob _ _ _ (Q7 hl) h⟩
theorem Sr.at_(r:Sr K m S H)(h:m[l]?=some a):∃o,S[l]?=some o/\Ob K m H a o:=by
 have hl:l<S.length:=by rw[<-r.len];exact(Q9.mp h).1
 exact⟨_,Q7 hl,r.ob _ _ _ h (Q7 hl)⟩
theorem Sr.same(r:Sr K m S H)(s:C7 H H'):Sr K m S H':=⟨r.len,r.nd,fun l a o h1 h2=>by
 have q:=r.ob l a o h1 h2;obtain⟨ho,e,_⟩:=q.some;exact q.mono (.of (dw s)) (by rw[s _ _ e,e])⟩
theorem Sr.new(r:Sr K m S H)(h:H q=none)(n:Ob K (m++[q]) (upd H q ho) q o):Sr K (m++[q]) (S++[o]) (upd H q ho):=by
 have hq:q∉m:=fun z=>by
  obtain⟨l,e⟩:=List.getElem?_of_mem z;obtain⟨o,_,k⟩:=r.at_ e;obtain⟨ho,e2,_⟩:=k.some;rw[h]at e2;cases e2
 refine⟨by simp[r.len],?_,fun l a o' h1 h2=>?_⟩
 ·rw[List.nodup_append];exact⟨r.nd,by simp,fun x hx y hy z=>by simp at hy;subst hy;subst z;exact hq hx⟩
 ·by_cases c:l<m.length
  ·rw[Qo c]at h1;rw[Qo (by rw[<-r.len];exact c)]at h2;have q':=r.ob l a o' h1 h2;obtain⟨ho',e,_⟩:=q'.some;exact q'.mono (.new (cN h _)) (by rw[aP (dQ e h)])
  ·have e:l=m.length:=by
    have:=(Q9.mp h1).1;simp at this;omega
   subst e;rw[Qi (QQ _)]at h1;rw[Qi (by rw[r.len];exact QQ _)]at h2;simp[r.len]at h1 h2;subst h1;subst h2;exact n
theorem Sr.put(r:Sr K m S H)(h:m[l]?=some a)(n:Ob K m (upd H a ho) a o):Sr K m (S.set l o) (upd H a ho):=by
 obtain⟨o0,h0,k0⟩:=r.at_ h;obtain⟨ho',e,nt,nf,nl,nc⟩:=k0.some;refine⟨by simp[r.len],r.nd,fun l' a' o' h1 h2=>?_⟩;by_cases c:l=l'
 ·subst c;rw[h]at h1;cases h1;rw[List.getElem?_set_self (Q9.mp h0).1]at h2;cases h2;exact n
 ·rw[Qb c]at h2;have na:a'≠a:=fun z=>by
   subst z;obtain⟨p1,e1⟩:=Q9.mp h;obtain⟨p2,e2⟩:=Q9.mp h1;exact c ((List.getElem_inj r.nd).mp (e1.trans e2.symm))
  exact(r.ob l' a' o' h1 h2).mono (.of (uV e nt nf nl nc _)) (by rw[aP na])
theorem Sr.keep(r:Sr K m S H)(h:m[l]?=some a)(ho:HO):wR K H (upd H a ho):=by
 obtain⟨o0,h0,k0⟩:=r.at_ h;obtain⟨ho',e,nt,nf,nl,nc⟩:=k0.some;exact uV e nt nf nl nc _
end
def kX(K:Q1)(m:List Addr)(H:Hp)(Q:VK)(u:U)(S':Sto):Prop:=∀m' v H',Ext K m H m' H'->Sr K m' S' H'->Is K m' H' v u->Q v H'
abbrev CE:=Rho->Sto->Option (U×Sto)
abbrev CT:=Rho->Sto->Option (Bool×Sto)
abbrev CA:=Rho->Sto->Option (List U×Sto)
inductive Out where
 |nx|rt (u:U)|bk|ct
abbrev CS:=Rho->Sto->Option (Out×Rho×Sto)
def B2(K:Q1)(m:List Addr)(H:Hp)(Q:Bool->Hp->Prop)(b:Bool)(S':Sto):Prop:=∀m' H',Ext K m H m' H'->Sr K m' S' H'->Q b H'
def LC(K:Q1)(m:List Addr)(H:Hp)(Q:List V->Hp->Prop)(us:List U)(S':Sto):Prop:=∀m' vs H',Ext K m H m' H'->Sr K m' S' H'->IsL K m' H' vs us->Q vs H'
def ie(K:Q1)(m:List Addr)(H:Hp)(Q:L2.St->Hp->Prop)(ρ':Rho)(S':Sto):Prop:=∀m' σ' H',Ext K m H m' H'->Sr K m' S' H'->Lr K m' H' ρ' σ'->Q σ' H'
def wM(K:Q1)(m:List Addr)(H:Hp)(D:zR):Out->Rho->Sto->Prop
 |.nx,ρ',S'=>ie K m H D.nx ρ' S'
 |.bk,ρ',S'=>ie K m H D.bk ρ' S'
 |.ct,ρ',S'=>ie K m H D.ct ρ' S'
 |.rt u,_,S'=>kX K m H D.rt u S'
theorem lD{α β γ δ ε:Type}{A B C D:α->β->γ->δ->ε->Prop}{p:Prop}(h:∃a b c d e,A a b c d e/\B a b c d e/\C a b c d e/\D a b c d e)(f:∀a b c d e,A a b c d e->B a b c d e->C a b c d e->D a b c d e->p):p:=by
 obtain⟨a,b,c,d,e,h1,h2,h3,h4⟩:=h;exact f a b c d e h1 h2 h3 h4
theorem ve{α β γ δ ε ζ:Type}{A B C D:α->β->γ->δ->ε->ζ->Prop}{p:Prop}(h:∃a b c d e g,A a b c d e g/\B a b c d e g/\C a b c d e g/\D a b c d e g)(f:∀a b c d e g,A a b c d e g->B a b c d e g->C a b c d e g->D a b c d e g->p):p:=by
 obtain⟨a,b,c,d,e,g,h1,h2,h3,h4⟩:=h;exact f a b c d e g h1 h2 h3 h4
theorem Mh{α β γ δ ε ζ:Type}{A B C D E:α->β->γ->δ->ε->ζ->Prop}{p:Prop}(h:∃a b c d e g,A a b c d e g/\B a b c d e g/\C a b c d e g/\D a b c d e g/\E a b c d e g)(f:∀a b c d e g,A a b c d e g->B a b c d e g->C a b c d e g->D a b c d e g->E a b c d e g->p):p:=by
 obtain⟨a,b,c,d,e,g,h1,h2,h3,h4,h5⟩:=h;exact f a b c d e g h1 h2 h3 h4 h5
def tE(K:Q1)(c:CE):TE:=fun σ H Q=>∃m ρ S u S',Sr K m S H/\Lr K m H ρ σ/\c ρ S=some (u,S')/\kX K m H Q u S'
def tT(K:Q1)(c:CT):TT:=fun σ H Q=>∃m ρ S u S',Sr K m S H/\Lr K m H ρ σ/\c ρ S=some (u,S')/\B2 K m H Q u S'
def tA(K:Q1)(c:CA):TA:=fun σ H Q=>∃m ρ S u S',Sr K m S H/\Lr K m H ρ σ/\c ρ S=some (u,S')/\LC K m H Q u S'
def tS(K:Q1)(c:CS):TS:=fun D σ H=>∃m ρ S o ρ' S',Sr K m S H/\Lr K m H ρ σ/\c ρ S=some (o,ρ',S')/\wM K m H D o ρ' S'
abbrev QE(X:Cx)(e:QH)(c:CE):Prop:=WE X e (tE X.K c)
abbrev QT(X:Cx)(e:QH)(c:CT):Prop:=WT X e (tT X.K c)
abbrev QW(X:Cx)(e:QH)(c:CT):Prop:=WW X e (tT X.K c)
abbrev QS(X:Cx)(e:Qm)(c:CS):Prop:=WS X e (tS X.K c)
abbrev QSs(X:Cx)(e:List Qm)(c:CS):Prop:=WSs X e (tS X.K c)
structure QA(X:Cx)(es:List QH)(c:CA):Prop where
 h:WA X es (tA X.K c)
 len:∀ρ S us S',c ρ S=some (us,S')->us.length=es.length
section
variable{X:Cx}{e:QH}{es:List QH}{st:Qm}{sts:List Qm}
theorem _root_.OG.WE.imp{t t':TE}(h:WE X e t)(i:∀σ H Q,t' σ H Q->t σ H Q):WE X e t':=⟨fun pins s σ H Q I k=>h.h pins s σ H Q I (i σ H Q k)⟩
theorem _root_.OG.WT.imp{t t':TT}(h:WT X e t)(i:∀σ H Q,t' σ H Q->t σ H Q):WT X e t':=⟨fun pins s σ H Q I k=>h.h pins s σ H Q I (i σ H Q k)⟩
theorem _root_.OG.WW.imp{t t':TT}(h:WW X e t)(i:∀σ H Q,t' σ H Q->t σ H Q):WW X e t':=⟨fun wh pins s σ H Q I k=>h.h wh pins s σ H Q I (i σ H Q k)⟩
theorem _root_.OG.WA.imp{t t':TA}(h:WA X es t)(i:∀σ H Q,t' σ H Q->t σ H Q):WA X es t':=⟨fun pos pins s σ H Q I k=>h.h pos pins s σ H Q I (i σ H Q k)⟩
theorem _root_.OG.WS.imp{t t':TS}(h:WS X st t)(i:∀D σ H,t' D σ H->t D σ H):WS X st t':=⟨fun pins s σ H D I k=>h.h pins s σ H D I (i D σ H k)⟩
theorem _root_.OG.WSs.imp{t t':TS}(h:WSs X sts t)(i:∀D σ H,t' D σ H->t D σ H):WSs X sts t':=⟨fun pins s σ H D I k=>h.h pins s σ H D I (i D σ H k)⟩
theorem _root_.OG.WI.imp{tg:QH}{t t':TI}(h:WI X tg e t)(i:∀σ H R,t' σ H R->t σ H R):WI X tg e t':=⟨fun pins s σ H R I k=>h.h pins s σ H R I (i σ H R k)⟩
theorem _root_.OG.WG.imp{t t':TG}(h:WG X e t)(i:∀v σ H Q,t' v σ H Q->t v σ H Q):WG X e t':=⟨fun pins s σ H v u Q I r k=>h.h pins s σ H v u Q I r (i v σ H Q k)⟩
theorem _root_.OG.WGs.imp{t t':TGs}(h:WGs X es t)(i:∀v σ H Q,t' v σ H Q->t v σ H Q):WGs X es t':=⟨fun pins s σ H v u Q I r k=>h.h pins s σ H v u Q I r (i v σ H Q k)⟩
theorem _root_.OG.WE.or{t t':TE}(h:WE X e t)(h':WE X e t'):WE X e (fun σ H Q=>t σ H Q\/t' σ H Q):=⟨fun pins s σ H Q I k=>k.elim (h.h pins s σ H Q I) (h'.h pins s σ H Q I)⟩
theorem _root_.OG.WT.or{t t':TT}(h:WT X e t)(h':WT X e t'):WT X e (fun σ H Q=>t σ H Q\/t' σ H Q):=⟨fun pins s σ H Q I k=>k.elim (h.h pins s σ H Q I) (h'.h pins s σ H Q I)⟩
theorem _root_.OG.WS.or{t t':TS}(h:WS X st t)(h':WS X st t'):WS X st (fun D σ H=>t D σ H\/t' D σ H):=⟨fun pins s σ H D I k=>k.elim (h.h pins s σ H D I) (h'.h pins s σ H D I)⟩
theorem _root_.OG.WI.or{tg:QH}{t t':TI}(h:WI X tg e t)(h':WI X tg e t'):WI X tg e (fun σ H D=>t σ H D\/t' σ H D):=⟨fun pins s σ H D I k=>k.elim (h.h pins s σ H D I) (h'.h pins s σ H D I)⟩
end
section
variable{K:Q1}{m m':List Addr}{H H':Hp}{Q:VK}{R:L2.St->Hp->Prop}{D:zR}{u:U}{o:Out}{S':Sto}{ρ':Rho}
def kX.mono(e:Ext K m H m' H')(p:kX K m H Q u S'):kX K m' H' Q u S':=fun m2 v H2 e2 r i=>p m2 v H2 (e.trans e2) r i
theorem B2.mono{Q:Bool->Hp->Prop}{b:Bool}(e:Ext K m H m' H')(p:B2 K m H Q b S'):B2 K m' H' Q b S':=fun m2 H2 e2 r=>p m2 H2 (e.trans e2) r
theorem ie.mono(e:Ext K m H m' H')(p:ie K m H R ρ' S'):ie K m' H' R ρ' S':=fun m2 v H2 e2 r i=>p m2 v H2 (e.trans e2) r i
theorem wM.mono(e:Ext K m H m' H')(p:wM K m H D o ρ' S'):wM K m' H' D o ρ' S':=by
 cases o with
 |nx=>exact ie.mono e p
 |rt u=>exact kX.mono e p
 |bk=>exact ie.mono e p
 |ct=>exact ie.mono e p
end
def LIM:Nat:=100000
def lim{n:Nat}(h:n<=LIM):n<=QB:=Qp h (by unfold LIM QB;decide)
def Jn{n:Nat}(h:n<LIM):n<QB:=QL h (by unfold LIM QB;decide)
def ak(i:Nat):CE:=fun ρ S=>match ρ[i]? with
 |some (some u)=>some (u,S)
 |_=>none
def cC(u:U):CE:=fun _ S=>some (u,S)
section
variable{X:Cx}{e a b c:QH}{ca cb:CE}{pos:Pos}
theorem ae{i:Nat}(h:WE X e (Ji i)):QE X e (ak i):=h.imp fun σ H Q hz=>lD hz fun m ρ S u S' sr lr hc post=>by
 unfold ak at hc;split at hc
 ·rename_i u' e;cases hc;obtain⟨v,e1,e2⟩:=lr.at_ i u e;exact⟨v,e1,post m v H .refl sr e2⟩
 ·cases hc
theorem q_c{v:V}{u:U}(h:WE X e (tC v))(hi:∀m H,Is X.K m H v u):QE X e (cC u):=h.imp fun σ H Q hz=>lD hz fun m ρ S u' S' sr lr hc post=>by
 cases hc;exact post m v H .refl sr (hi m H)
def aZ{i:Int}(h:WE X e (tC (.int i))):QE X e (cC (.int i)):=q_c h fun _ _=>.int_
def oF{i:Bool}(h:WE X e (tC (.bl i))):QE X e (cC (.bl i)):=q_c h fun _ _=>.bl_
def aK{i:Str}(h:WE X e (tC (.str i))):QE X e (cC (.str i)):=q_c h fun _ _=>.str_
def lG(h:WE X e (tC .non)):QE X e (cC .non):=q_c h fun _ _=>.non_
def cOp(f:U->U->Sto->Option (U×Sto))(ca cb:CE):CE:=fun ρ S=>(ca ρ S).bind fun p=>(cb ρ p.2).bind fun q=>f p.1 q.1 q.2
def OpP(K:Q1)(r:R2)(f:U->U->Sto->Option (U×Sto)):Prop:=
 ∀m S H x y v w u S' Q,Sr K m S H->Is K m H v x->Is K m H w y->f x y S=some (u,S')->kX K m H Q u S'->r v w H Q
theorem yc{K:Q1}{r:R2}{f:U->U->Sto->Option (U×Sto)}(hp:OpP K r f):∀σ H Q,tE K (cOp f ca cb) σ H Q->tOp r (tE K ca) (tE K cb) σ H Q:=by
 rintro σ H Q ⟨m,ρ,S,u,S',sr,lr,hc,post⟩;obtain⟨⟨x,S1⟩,h1,h⟩:=Q0.mp hc;obtain⟨⟨y,S2⟩,h2,h3⟩:=Q0.mp h;exact⟨m,ρ,S,x,S1,sr,lr,h1,fun m1 v1 H1 e1 sr1 i1=>⟨m1,ρ,S1,y,S2,sr1,lr.mono e1,h2,fun m2 v2 H2 e2 sr2 i2=>hp m2 S2 H2 x y v1 v2 u S' Q sr2 (i1.mono e2) i2 h3 (post.mono (e1.trans e2))⟩⟩
theorem ky{op:Operator}{r:R2}{f:U->U->Sto->Option (U×Sto)}(ho:OpR X (binaryOp op) r)(hp:OpP X.K r f)(ha:QE X a ca)(hb:QE X b cb):QE X (.BinOp a op b pos) (cOp f ca cb):=(GQ ho ha hb).imp (yc hp)
theorem sG{op:CmpOp}{r:R2}{f:U->U->Sto->Option (U×Sto)}(ho:OpR X (compareOp op) r)(hp:OpP X.K r f)(ha:QE X a ca)(hb:QE X b cb)(hm:behindInMarks op b=false):QE X (.Compare a [op] [b] pos) (cOp f ca cb):=(Ag ho ha hb hm).imp (yc hp)
def aU(c:CE):CT:=fun ρ S=>(c ρ S).bind fun p=>match p.1 with
 |.bl b=>some (b,p.2)
 |_=>none
theorem lT{K:Q1}{c:CE}{t:TE}(h:∀σ H Q,tE K c σ H Q->t σ H Q):∀σ H Q,tT K (aU c) σ H Q->t σ H fun x H'=>∃k,x=.bl k/\Q k H':=by
 rintro σ H Q ⟨m,ρ,S,u,S',sr,lr,hc,post⟩;obtain⟨⟨x,S1⟩,h1,h2⟩:=Q0.mp hc;refine h σ H _ ⟨m,ρ,S,x,S1,sr,lr,h1,fun m1 v1 H1 e1 sr1 i1=>?_⟩;cases x<;>simp at h2;obtain⟨rfl,rfl⟩:=h2;exact⟨_,i1.of_bl,post m1 H1 e1 sr1⟩
theorem ba{op:CmpOp}{r:R2}{f:U->U->Sto->Option (U×Sto)}(ho:OpR X (compareOp op) r)(hp:OpP X.K r f)(ha:QE X a ca)(hb:QE X b cb)(hm:behindInMarks op b=false):QT X (.Compare a [op] [b] pos) (aU (cOp f ca cb)):=(oi ho ha hb hm).imp (lT (yc hp))
theorem fb(h:QE X e ca)(he:∀whole,isTrue e X.env whole=(do let v <-whole;standAt e.pos;holding [v] (truthy v)):=by intro _;rfl):QT X e (aU ca):=(DD h he).imp (lT fun _ _ _ z=>z)
variable{ta tb:CT}{rest:List QH}
def C3(ta tb:CT):CT:=fun ρ S=>(ta ρ S).bind fun p=>if p.1=true then tb ρ p.2 else some (false,p.2)
def cOr(ta tb:CT):CT:=fun ρ S=>(ta ρ S).bind fun p=>if p.1=true then some (true,p.2)else tb ρ p.2
def wI(ta:CT):CT:=fun ρ S=>(ta ρ S).bind fun p=>some (!p.1,p.2)
def vU(h:QW X e ta):QT X e ta:=WW.pt h
def xT(ha:QT X a ta):QW X (.BoolOp .And [a] pos) ta:=zV ha
def nj(ha:QT X a ta):QW X (.BoolOp .Or [a] pos) ta:=DB ha
theorem AD(ha:QT X a ta)(hb:QW X (.BoolOp .And (b::rest) pos) tb):QW X (.BoolOp .And (a::b::rest) pos) (C3 ta tb):=(DC ha hb).imp fun σ H Q hz=>lD hz fun m ρ S u S' sr lr hc post=>by
 obtain⟨⟨x,S1⟩,h1,h2⟩:=Q0.mp hc;refine⟨m,ρ,S,x,S1,sr,lr,h1,fun m1 H1 e1 sr1=>?_⟩;cases x with
 |true=>exact IB ⟨m1,ρ,S1,u,S',sr1,lr.mono e1,h2,post.mono e1⟩
 |false=>cases h2;exact IC (post m1 H1 e1 sr1)
theorem vV(ha:QT X a ta)(hb:QW X (.BoolOp .Or (b::rest) pos) tb):QW X (.BoolOp .Or (a::b::rest) pos) (cOr ta tb):=(GL ha hb).imp fun σ H Q hz=>lD hz fun m ρ S u S' sr lr hc post=>by
 obtain⟨⟨x,S1⟩,h1,h2⟩:=Q0.mp hc;refine⟨m,ρ,S,x,S1,sr,lr,h1,fun m1 H1 e1 sr1=>?_⟩;cases x with
 |true=>cases h2;exact IB (post m1 H1 e1 sr1)
 |false=>exact IC ⟨m1,ρ,S1,u,S',sr1,lr.mono e1,h2,post.mono e1⟩
theorem ll(ha:QT X a ta):QT X (.UnaryOp .Not a pos) (wI ta):=(DG ha).imp fun σ H Q hz=>lD hz fun m ρ S u S' sr lr hc post=>by
 obtain⟨⟨x,S1⟩,h1,h2⟩:=Q0.mp hc;cases h2;exact⟨m,ρ,S,x,_,sr,lr,h1,fun m1 H1 e1 sr1=>post m1 H1 e1 sr1⟩
def BP(ca cb:CE):CE:=fun ρ S=>(ca ρ S).bind fun p=>match p.1 with
 |.bl true=>cb ρ p.2
 |.bl false=>some (.bl false,p.2)
 |_=>none
def Jy(ca cb:CE):CE:=fun ρ S=>(ca ρ S).bind fun p=>match p.1 with
 |.bl false=>cb ρ p.2
 |.bl true=>some (.bl true,p.2)
 |_=>none
def BO(ca:CE):CE:=fun ρ S=>(ca ρ S).bind fun p=>match p.1 with
 |.bl b=>some (.bl (!b),p.2)
 |_=>none
def Hk{op}(h:QE X a ca):QE X (.BoolOp op [a] pos) ca:=DO h
theorem Hn(ha:QE X a ca)(hb:QE X (.BoolOp .And (b::rest) pos) cb):QE X (.BoolOp .And (a::b::rest) pos) (BP ca cb):=(DS ha hb).imp fun σ H Q hz=>lD hz fun m ρ S u S' sr lr hc post=>by
 obtain⟨⟨x,S1⟩,h1,h2⟩:=Q0.mp hc;refine⟨m,ρ,S,x,S1,sr,lr,h1,fun m1 v1 H1 e1 sr1 i1=>?_⟩;cases x with
 |bl k=>
  refine⟨k,i1.of_bl,?_⟩;cases k with
  |true=>exact IB ⟨m1,ρ,S1,u,S',sr1,lr.mono e1,h2,post.mono e1⟩
  |false=>cases h2;exact IC (post m1 _ H1 e1 sr1 .bl_)
 |_=>simp at h2
theorem KQ(ha:QE X a ca)(hb:QE X (.BoolOp .Or (b::rest) pos) cb):QE X (.BoolOp .Or (a::b::rest) pos) (Jy ca cb):=(GP ha hb).imp fun σ H Q hz=>lD hz fun m ρ S u S' sr lr hc post=>by
 obtain⟨⟨x,S1⟩,h1,h2⟩:=Q0.mp hc;refine⟨m,ρ,S,x,S1,sr,lr,h1,fun m1 v1 H1 e1 sr1 i1=>?_⟩;cases x with
 |bl k=>
  refine⟨k,i1.of_bl,?_⟩;cases k with
  |false=>exact IC ⟨m1,ρ,S1,u,S',sr1,lr.mono e1,h2,post.mono e1⟩
  |true=>cases h2;exact IB (post m1 _ H1 e1 sr1 .bl_)
 |_=>simp at h2
theorem Hl(ha:QE X a ca):QE X (.UnaryOp .Not a pos) (BO ca):=(DP ha).imp fun σ H Q hz=>lD hz fun m ρ S u S' sr lr hc post=>by
 obtain⟨⟨x,S1⟩,h1,h2⟩:=Q0.mp hc;refine⟨m,ρ,S,x,S1,sr,lr,h1,fun m1 v1 H1 e1 sr1 i1=>?_⟩;cases x with
 |bl k=>cases h2;exact⟨k,i1.of_bl,post m1 _ H1 e1 sr1 .bl_⟩
 |_=>simp at h2
def cIf(t:CT)(ca cb:CE):CE:=fun ρ S=>(t ρ S).bind fun p=>if p.1=true then ca ρ p.2 else cb ρ p.2
variable{es:List QH}{cr:CA}
def aN:CA:=fun _ S=>some ([],S)
def ah(ca:CE)(cr:CA):CA:=fun ρ S=>(ca ρ S).bind fun p=>(cr ρ p.2).bind fun q=>some (p.1::q.1,q.2)
theorem aF:QA X [] aN:=⟨sh.imp fun σ H Q hz=>lD hz fun m ρ S u S' sr lr hc post=>by cases hc;exact post m [] H .refl sr .nil_,fun ρ S us S' h=>by cases h;rfl⟩
theorem ag(ha:QE X e ca)(hr:QA X es cr)(hs:QR (e::es) X.env=(false,eval e X.env)::QR es X.env:=by rfl):QA X (e::es) (ah ca cr):=⟨(lP ha hr.h hs).imp fun σ H Q hz=>lD hz fun m ρ S u S' sr lr hc post=>by
 obtain⟨⟨x,S1⟩,h1,h⟩:=Q0.mp hc;obtain⟨⟨y,S2⟩,h2,h3⟩:=Q0.mp h;cases h3;exact⟨m,ρ,S,x,S1,sr,lr,h1,fun m1 v1 H1 e1 sr1 i1=>⟨m1,ρ,S1,y,S2,sr1,lr.mono e1,h2,fun m2 v2 H2 e2 sr2 i2=>post m2 _ H2 (e1.trans e2) sr2 (.cons_ (i1.mono e2) i2)⟩⟩,
 fun ρ S us S' h=>by
 obtain⟨⟨x,S1⟩,h1,h⟩:=Q0.mp h;obtain⟨⟨y,S2⟩,h2,h3⟩:=Q0.mp h;cases h3;simp[hr.len ρ S1 y S2 h2]⟩
def lO(cr:CA):CE:=fun ρ S=>(cr ρ S).bind fun p=>some (.tup p.1,p.2)
def km(cr:CA):CE:=fun ρ S=>(cr ρ S).bind fun p=>some (.ref p.2.length,p.2++[.lst p.1])
def fK{m:List Addr}{S:Sto}{q:Addr}(h:m.length=S.length):(m++[q])[S.length]?=some q:=by rw[Qi (by omega)];simp[h]
theorem oG{K:Q1}{m:List Addr}{H:Hp}{S:Sto}{us:List U}{xs:List V}{Q:VK}{p:Addr}(sr:Sr K m S H)(i:IsL K m H xs us)(post:kX K m H Q (.tup us) S)(hp:H p=none):Q (.ref p) (upd H p (.tup xs)):=
 post m _ _ (.of (cN hp _)) (sr.same (gO hp _)) (.tup_ (SqT.of aL) (i.mono (.of (cN hp _))))
theorem ej{K:Q1}{m:List Addr}{H:Hp}{S:Sto}{us:List U}{xs:List V}{Q:VK}{p:Addr}(sr:Sr K m S H)(i:IsL K m H xs us)(post:kX K m H Q (.ref S.length) (S++[.lst us]))(hp:H p=none):Q (.ref p) (upd H p (.lst xs)):=
 post (m++[p]) _ _ (.new (cN hp _)) (sr.new hp ⟨xs,aL,i.mono (.new (cN hp _))⟩) (.ref_ (fK sr.len))
theorem fR{x1}(h:QA X es cr)(hl:es.length<=1000:=by exact ZR rfl):QE X (.Tuple es x1 pos) (lO cr):=(DN h.h).imp fun σ H Q hz=>lD hz fun m ρ S u S' sr lr hc post=>by
 obtain⟨⟨us,S1⟩,h1,h2⟩:=Q0.mp hc;cases h2;refine⟨m,ρ,S,us,_,sr,lr,h1,fun m1 v1 H1 e1 sr1 i1=>⟨ql ?_,fun p hp=>oG sr1 i1 (post.mono e1) hp⟩⟩;rw[i1.length,h.len _ _ _ _ h1];exact hl
theorem gF(h:QA X es cr)(hl:es.length<=1000:=by exact ZR rfl):QE X (.List es pos) (km cr):=(DQ h.h).imp fun σ H Q hz=>lD hz fun m ρ S u S' sr lr hc post=>by
 obtain⟨⟨us,S1⟩,h1,h2⟩:=Q0.mp hc;cases h2;refine⟨m,ρ,S,us,_,sr,lr,h1,fun m1 v1 H1 e1 sr1 i1=>⟨ql ?_,fun p hp=>ej sr1 i1 (post.mono e1) hp⟩⟩;rw[i1.length,h.len _ _ _ _ h1];exact hl
def cCB(f:List U->Sto->Option (U×Sto))(cr:CA):CE:=fun ρ S=>(cr ρ S).bind fun p=>f p.1 p.2
def k6(K:Q1)(r:List V->Hp->VK->Prop)(f:List U->Sto->Option (U×Sto)):Prop:=
 ∀m S H us vs u S' Q,Sr K m S H->IsL K m H vs us->f us S=some (u,S')->kX K m H Q u S'->r vs H Q
theorem C2{K:Q1}{r:List V->Hp->VK->Prop}{f:List U->Sto->Option (U×Sto)}(hp:k6 K r f):∀σ H Q,tE K (cCB f cr) σ H Q->tCB r (tA K cr) σ H Q:=by
 rintro σ H Q ⟨m,ρ,S,u,S',sr,lr,hc,post⟩;obtain⟨⟨us,S1⟩,h1,h2⟩:=Q0.mp hc;exact⟨m,ρ,S,us,S1,sr,lr,h1,fun m1 v1 H1 e1 sr1 i1=>hp m1 S1 H1 us v1 u S' Q sr1 i1 h2 (post.mono e1)⟩
theorem cY{id:String}{x:Str}{p:Pos}{r:List V->Hp->VK->Prop}{f:List U->Sto->Option (U×Sto)}(hc:fD X (.builtin id) r)(hp:k6 X.K r f)(hg:Gl X x)(hm:X.mg x=none)(hv:Qc x=some (.builtin id))(ha:QA X (e::es) cr)(hn:x≠"__name__":=by decide)(hdb:(x == ("__debug__":Str))=false:=by decide)(he:QR (e::es) X.env=(false,eval e X.env)::QR es X.env:=by rfl)(hpl:(Z9 pos (QR es X.env)).any (·.1)=false:=by rfl) :
  QE X (.Call (.Name x p) (e::es) [] pos) (cCB f cr):=(qe hc hg hm hv ha.h hn hdb he hpl).imp (C2 hp)
theorem gh{id:String}{x:Str}{p:Pos}{r:List V->Hp->VK->Prop}{f:List U->Sto->Option (U×Sto)}(hc:fD X (.type id) r)(hp:k6 X.K r f)(hg:Gl X x)(hm:X.mg x=none)(hv:Qc x=some (.type id))(ha:QA X (e::es) cr)(hn:x≠"__name__":=by decide)(hdb:(x == ("__debug__":Str))=false:=by decide)(he:QR (e::es) X.env=(false,eval e X.env)::QR es X.env:=by rfl)(hpl:(Z9 pos (QR es X.env)).any (·.1)=false:=by rfl) :
  QE X (.Call (.Name x p) (e::es) [] pos) (cCB f cr):=(vK hc hg hm hv ha.h hn hdb he hpl).imp (C2 hp)
end
def Aq(K:Q1)(f:List U->Sto->Option (U×Sto)):Sp:=fun vs H Q _=>∃m us S u S',IsL K m H vs us/\Sr K m S H/\f us S=some (u,S')/\kX K m H Q u S'
abbrev Fn:=List U->Sto->Option (U×Sto)
abbrev gN(P:Qx)(w:Qg)(K:Q1)(mg:Str->Option Q3)(base:Heap)(x:Str)(k:Nat)(ps:List Str)(f:Fn):Prop:=Has P w K mg base x k ps (Aq K f)
def qi(n:Nat)(us:List U):Rho:=us.map some++QY (n-us.length) none
def fnU(n k:Nat)(c:CS):Fn:=fun us S=>if us.length=k then(c (qi n us) S).bind fun r=>match r.1 with
 |.rt u=>some (u,r.2.2)
 |.nx=>some (.non,r.2.2)
 |_=>none else none
section
variable{P:Qx}{w:Qg}{K:Q1}{mg:Str->Option Q3}{base:Heap}{x:Str}{st:Qm}{ps N:List Str}{k:Nat}{c:CS}{f:Fn}
theorem Bl{m:List Addr}{H:Hp}{vs:List V}{us:List U}(i:IsL K m H vs us):Lr K m H (qi N.length us) (L2.jN N vs):=by
 have hl:=i.length;refine⟨by simp[qi,L2.jN,hl],fun j u e=>?_⟩;unfold qi at e;unfold L2.jN;by_cases c:j<us.length
 ·rw[Qo (by simpa using c),Qr]at e;rw[Qo (by simpa [hl] using c),Qr];rw[Q7 c]at e;simp at e;obtain⟨v,e1,e2⟩:=i.getD (Q7 c);rw[e1];subst e;exact⟨v,rfl,e2⟩
 ·rw[Qi (by simpa using c),ZL]at e;split at e<;>cases e
theorem sY{X:Cx}{body:List Qm}{Q:VK}{E:XK}{vs:List V}{H:Hp}(hK:X.K=K)(h:Aq K (fnU N.length ps.length c) vs H Q E):tS X.K c { nx:=fun _ H'=>Q .non H',rt:=Q } (L2.jN N vs) H:=by
 subst hK;obtain⟨m,us,S,u,S',i,sr,hf,post⟩:=h;unfold fnU at hf;split at hf
 ·obtain⟨⟨o,ρ',S2⟩,h1,h2⟩:=Q0.mp hf;refine⟨m,_,S,o,ρ',S2,sr,Bl i,h1,?_⟩;cases o with
  |rt v=>cases h2;exact post
  |nx=>cases h2;exact fun m1 σ1 H1 e1 sr1 _=>post m1 _ H1 e1 sr1 .non_
  |bk=>simp at h2
  |ct=>simp at h2
 ·cases hf
theorem ot{vs:List V}{H:Hp}{Q:VK}{E:XK}{n k:Nat}(h:Aq K (fnU n k c) vs H Q E):vs.length=k:=by
 obtain⟨m,us,S,u,S',i,sr,hf,post⟩:=h;unfold fnU at hf;split at hf
 ·rename_i e;rw[i.length,e]
 ·cases hf
theorem _root_.OG.Def.pure(d:Def K mg x st ps)(S:aV N ps (aA st))
  (hb:∀(f:Addr) (cdv:Q3) (A:Qd) (outer:List Env) (s:Q4) (H:Hp) (E:XK),fY k (A.deeper (envOfC x (aA st) s.heap.objs.size f cdv))->
   WSs (rX CX0 P w K mg base N x (aA st) f cdv A outer s H E).nox (dP st) (tS K c)):gN P w K mg base x (k+1) ps (fnU N.length ps.length c):=
 d.has S (fun vs H Q E h=>ot h) fun f cdv A outer s H vs Q E hr h=>⟨_,hb f cdv A outer s H E hr,sY (X:=(rX CX0 P w K mg base N x (aA st) f cdv A outer s H E).nox) (body:=[]) (ps:=ps) rfl h⟩
theorem bP{X:Cx}{e:QH}{es:List QH}{cr:CA}{p pos:Pos}(F:Has X.prog X.w X.K X.mg X.base x k ps (Aq X.K f))(hr:fY k X.A)(hg:Gl X x)(ha:QA X (e::es) cr)
  (hdb:(x == ("__debug__":Str))=false:=by decide) (he:QR (e::es) X.env=(false,eval e X.env)::QR es X.env:=by rfl) (hpl:(Z9 pos (QR es X.env)).any (·.1)=false:=by rfl) :
  QE X (.Call (.Name x p) (e::es) [] pos) (cCB f cr):=(GS F hr hg ha.h hdb he hpl).imp fun σ H Q hz=>lD hz fun m ρ S u S' sr lr hc post=>by
 obtain⟨⟨us,S1⟩,h1,h2⟩:=Q0.mp hc;exact⟨m,ρ,S,us,S1,sr,lr,h1,fun m1 v1 H1 e1 sr1 i1=>⟨m1,us,S1,u,S',by simpa using i1,sr1,h2,post.mono e1⟩⟩
end
section
variable{X:Cx}{e a c:QH}{ca cb:CE}{pos:Pos}{st:Qm}{sts:List Qm}{c1 c2:CS}
def cq:CS:=fun ρ S=>some (.nx,ρ,S)
def a9(c1 c2:CS):CS:=fun ρ S=>(c1 ρ S).bind fun r=>match r.1 with
 |.nx=>c2 r.2.1 r.2.2
 |o=>some (o,r.2.1,r.2.2)
theorem br:QSs X [] cq:=zX.imp fun D σ H hz=>ve hz fun m ρ S o ρ' S' sr lr hc post=>by cases hc;exact post m σ H .refl sr lr
theorem aw(h1:QS X st c1)(h2:QSs X sts c2):QSs X (st::sts) (a9 c1 c2):=(xc h1 h2).imp fun D σ H hz=>ve hz fun m ρ S o ρ' S' sr lr hc post=>by
 obtain⟨⟨o1,ρ1,S1⟩,h1,h2⟩:=Q0.mp hc;refine⟨m,ρ,S,o1,ρ1,S1,sr,lr,h1,?_⟩;cases o1 with
 |nx=>exact fun m1 σ1 H1 e1 sr1 lr1=>⟨m1,ρ1,S1,o,ρ',S',sr1,lr1,h2,post.mono e1⟩
 |rt u=>cases h2;exact post
 |bk=>cases h2;exact post
 |ct=>cases h2;exact post
def aC(h1:QS X st c1):QSs X [st] c1:=zW h1
theorem AA:QS X (.Break pos) (fun ρ S=>some (.bk,ρ,S)):=xg.imp fun D σ H hz=>ve hz fun m ρ S o ρ' S' sr lr hc post=>by cases hc;exact post m σ H .refl sr lr
def lE:CS:=fun _ _=>none
def gW:QS X st lE:=xf.imp fun D σ H hz=>ve hz fun m ρ S o ρ' S' sr lr hc post=>by cases hc
def fZ(ca:CE):CS:=fun ρ S=>(ca ρ S).bind fun p=>some (.nx,ρ,p.2)
theorem cM(he:QE X e ca)(hs:ZT e none pos.line X.env=pure false:=by rfl):QS X (.Expr e pos) (fZ ca):=(zY he hs).imp fun D σ H hz=>ve hz fun m ρ S o ρ' S' sr lr hc post=>by
 obtain⟨⟨u,S1⟩,h1,h2⟩:=Q0.mp hc;cases h2;exact⟨m,ρ,S,u,_,sr,lr,h1,fun m1 v1 H1 e1 sr1 i1=>post m1 σ H1 e1 sr1 (lr.mono e1)⟩
def c8(ca:CE):CS:=fun ρ S=>(ca ρ S).bind fun p=>some (.rt p.1,ρ,p.2)
theorem aR(he:QE X e ca):QS X (.Return (some e) pos) (c8 ca):=(DI he).imp fun D σ H hz=>ve hz fun m ρ S o ρ' S' sr lr hc post=>by
 obtain⟨⟨u,S1⟩,h1,h2⟩:=Q0.mp hc;cases h2;exact⟨m,ρ,S,u,_,sr,lr,h1,post⟩
def eW(t:CT)(c1 c2:CS):CS:=fun ρ S=>(t ρ S).bind fun p=>if p.1=true then c1 ρ p.2 else c2 ρ p.2
theorem bH{t:CT}{s1 s2:List Qm}(hc:QT X c t)(h1:QSs X s1 c1)(h2:QSs X s2 c2):QS X (.If c s1 s2 pos) (eW t c1 c2):=(GN hc h1 h2).imp fun D σ H hz=>ve hz fun m ρ S o ρ' S' sr lr hc post=>by
 obtain⟨⟨x,S1⟩,h1,h2⟩:=Q0.mp hc;refine⟨m,ρ,S,x,S1,sr,lr,h1,fun m1 H1 e1 sr1=>?_⟩;cases x with
 |true=>exact IB ⟨m1,ρ,S1,o,ρ',S',sr1,lr.mono e1,h2,post.mono e1⟩
 |false=>exact IC ⟨m1,ρ,S1,o,ρ',S',sr1,lr.mono e1,h2,post.mono e1⟩
abbrev CG:=U->Rho->Sto->Option (Rho×Sto)
def tG(K:Q1)(g:CG):TG:=fun v σ H Q=>∃m ρ S u ρ' S',Sr K m S H/\Lr K m H ρ σ/\Is K m H v u/\g u ρ S=some (ρ',S')/\ie K m H Q ρ' S'
abbrev QG(X:Cx)(e:QH)(g:CG):Prop:=WG X e (tG X.K g)
def gNm(i:Nat):CG:=fun u ρ S=>some (ρ.set i (some u),S)
theorem de{i:Nat}(h:WG X e (wz i)):QG X e (gNm i):=h.imp fun v σ H Q hz=>Mh hz fun m ρ S u ρ' S' sr lr iu hc post=>by
 cases hc;exact post m _ H .refl sr (lr.set i iu)
def hU:List Nat->List U->Rho->Option Rho
 |[],[],ρ=>some ρ
 |i::is,u::us,ρ=>hU is us (ρ.set i (some u))
 |_,_,_=>none
def tGs(K:Q1)(is:List Nat):TGs:=fun vs σ H Q=>∃m ρ S us ρ',Sr K m S H/\Lr K m H ρ σ/\IsL K m H vs us/\hU is us ρ=some ρ'/\ie K m H Q ρ' S
abbrev QGs(X:Cx)(es:List QH)(is:List Nat):Prop:=WGs X es (tGs X.K is)
theorem oE:QGs X [] []:=Aa.imp fun v σ H Q ⟨m,ρ,S,us,ρ',sr,lr,iu,hc,post⟩=>by
 cases us with
 |nil=>cases hc;exact⟨iu.of_nil,post m σ H .refl sr lr⟩
 |cons a r=>simp[hU]at hc
theorem gb{i:Nat}{is:List Nat}{es:List QH}(h:WG X e (wz i))(h2:QGs X es is)(hs:(assignEach (e::es) X.env).map (·.2)=assign e X.env::(assignEach es X.env).map (·.2):=by rfl):QGs X (e::es) (i::is):=(xi h h2 hs).imp fun v σ H Q ⟨m,ρ,S,us,ρ',sr,lr,iu,hc,post⟩=>by
 cases us with
 |nil=>simp[hU]at hc
 |cons u r=>
  obtain⟨x,xr,rfl,i1,i2⟩:=iu.of_cons;exact⟨x,xr,rfl,m,ρ.set i (some u),S,r,ρ',sr,lr.set i i1,i2,hc,post⟩
def gTp(is:List Nat):CG:=fun u ρ S=>match u with
 |.tup us=>(hU is us ρ).bind fun ρ'=>some (ρ',S)
 |_=>none
theorem nU:∀{is:List Nat} {us:List U} {ρ ρ':Rho},hU is us ρ=some ρ'->us.length=is.length
 |[],[],_,_,_=>rfl
 |[],_::_,_,_,h=>by simp[hU]at h
 |_::_,[],_,_,h=>by simp[hU]at h
 |i::is,u::us,ρ,ρ',h=>by
  have:=nU (is:=is) (us:=us) h;simp[this]
theorem uB{is:List Nat}{es:List QH}{k:Nat}(hc:X.calm=true)(h:QGs X es is)(hn:(assignEach es X.env).length=is.length:=by rfl)(hst:(assignEach es X.env).findIdx? (·.1)=none:=by rfl):QG X (.Tuple es k pos) (gTp is):=(DL hc h hn hst).imp fun v σ H Q hz=>Mh hz fun m ρ S u ρ' S' sr lr iu hc post=>by
 cases u with
 |tup us=>
  obtain⟨ρ2,h1,h2⟩:=Q0.mp hc;cases h2;obtain⟨a,xs,rfl,sq,il⟩:=iu.of_tup;refine⟨a,xs,rfl,sq,?_,m,ρ,S,us,ρ',sr,lr,il,h1,post⟩;rw[il.length];exact nU h1
 |_=>simp[gTp]at hc
def FE(ca:CE)(g:CG):CS:=fun ρ S=>(ca ρ S).bind fun p=>(g p.1 ρ p.2).bind fun q=>some (.nx,q.1,q.2)
theorem FI{K:Q1}{g:CG}:∀D σ H,tS K (FE ca g) D σ H->G9 (tE K ca) (tG K g) D σ H:=by
 rintro D σ H ⟨m,ρ,S,o,ρ',S',sr,lr,hc,post⟩;obtain⟨⟨u,S1⟩,h1,h2⟩:=Q0.mp hc;obtain⟨⟨ρ2,S2⟩,h3,h4⟩:=Q0.mp h2;cases h4;exact⟨m,ρ,S,u,S1,sr,lr,h1,fun m1 v1 H1 e1 sr1 i1=>⟨m1,ρ,S1,u,_,_,sr1,lr.mono e1,i1,h3,ie.mono e1 post⟩⟩
theorem xO{tg:QH}{g:CG}(he:QE X e ca)(hg:QG X tg g)(hs:swapsWithSole [tg] e pos.line X.env=pure false:=by rfl)(hw:swappedStores [tg] e X.env=pure none:=by rfl)
  (h1:(assignEach [tg] X.env).map (·.2)=[assign tg X.env]:=by rfl):QS X (.Assign [tg] e pos) (FE ca g):=(xh he hg hs hw h1).imp FI
def eL(i:Nat)(ca:CE):CS:=fun ρ S=>(ca ρ S).bind fun p=>some (.nx,ρ.set i (some p.1),p.2)
theorem aY{i:Nat}{x:Str}{pos':Pos}(hN:X.N.Nodup)(hi:X.N[i]?=some x)(hx:Loc X.env.scope x)(he:QE X e ca)(hs:ZT e (some (.Name x pos')) pos.line X.env=pure false:=by rfl)(hf:X.fn x=true\/X.env.scope.names.lookup x=some .local:=by first|exact .inl rfl|exact .inr rfl|assumption) :
  QS X (.Assign [.Name x pos'] e pos) (eL i ca):=(DH hN hi hx he hs hf).imp fun D σ H hz=>ve hz fun m ρ S o ρ' S' sr lr hc post=>by
 obtain⟨⟨u,S1⟩,h1,h2⟩:=Q0.mp hc;cases h2;exact⟨m,ρ,S,u,_,sr,lr,h1,fun m1 v1 H1 e1 sr1 i1=>post m1 _ H1 e1 sr1 ((lr.mono e1).set i i1)⟩
abbrev CI:=Rho->Sto->Option (List U×(Sto->Prop)×Sto)
def zP(K:Q1)(J:It)(m:List Addr)(H:Hp)(us:List U)(ok:Sto->Prop):Prop:=∀m2 S2 H2 i,Ext K m H m2 H2->Sr K m2 S2 H2->ok S2->
 (∀u,us[i]?=some u->J.go i H2/\∀x H3,J.yld i H2 x H3->Ext K m2 H2 m2 H3/\Sr K m2 S2 H3/\Is K m2 H3 x u)/\(us.length<=i->J.stop i H2)
def tI(K:Q1)(ci:CI):TI:=fun σ H R=>∃m ρ S us ok S',Sr K m S H/\Lr K m H ρ σ/\ci ρ S=some (us,ok,S')/\∀m' H' J,Ext K m H m' H'->Sr K m' S' H'->zP K J m' H' us ok->R J H'
abbrev QI(X:Cx)(tg iter:QH)(ci:CI):Prop:=WI X tg iter (tI X.K ci)
open Classical in
def dX(ok:Sto->Prop)(g:CG)(cb:CS):List U->CS
 |[]=>fun ρ S=>if ok S then some (.nx,ρ,S)else none
 |u::us=>fun ρ S=>if ok S then(g u ρ S).bind fun p=>(cb p.1 p.2).bind fun r=>match r.1 with
  |.nx=>dX ok g cb us r.2.1 r.2.2
  |.ct=>dX ok g cb us r.2.1 r.2.2
  |.bk=>some (.nx,r.2.1,r.2.2)
  |.rt v=>some (.rt v,r.2.1,r.2.2)else none
def og(ci:CI)(g:CG)(cb:CS):CS:=fun ρ S=>(ci ρ S).bind fun p=>dX p.2.1 g cb p.1 ρ p.2.2
theorem mS{α:Type}{us:List α}{i:Nat}{u:α}(h:us[i]?=some u):us.drop i=u::us.drop (i+1):=by
 obtain⟨hl,e⟩:=Q9.mp h;rw[List.drop_eq_getElem_cons hl,e]
theorem oT{K:Q1}{g:CG}{cb:CS}{J:It}{us:List U}{ok:Sto->Prop}{D:zR}{m1:List Addr}{H1:Hp}{ρ ρ':Rho}{σ:L2.St}{S1 S':Sto}{o:Out}(sr1:Sr K m1 S1 H1)(lr1:Lr K m1 H1 ρ σ)(ito:zP K J m1 H1 us ok)(h2:dX ok g cb us ρ S1=some (o,ρ',S'))(post:wM K m1 H1 D o ρ' S') :
  ∃W:Nat->Nat->L2.St->Hp->Prop,(∃n,W 0 n σ H1)/\∀i n σ H,W i n σ H->
   (J.stop i H/\D.nx σ H)\/(J.go i H/\∃N:L2.St->Hp->Prop,(∀σ' H',N σ' H'->∃n',n'<n/\W (i+1) n' σ' H')/\∀x H',J.yld i H x H'->tG K g x σ H' fun σ2 H2=>tS K cb { D with nx:=N,ct:=N,bk:=D.nx } σ2 H2):=by
 let W:Nat->Nat->L2.St->Hp->Prop:=fun i n σ2 H2=>n=us.length-i/\i<=us.length/\∃m2 ρ2 S2,Ext K m1 H1 m2 H2/\Sr K m2 S2 H2/\Lr K m2 H2 ρ2 σ2/\dX ok g cb (us.drop i) ρ2 S2=some (o,ρ',S')
 refine⟨W,⟨us.length,by simp,ZZ _,m1,ρ,S1,.refl,sr1,lr1,by simpa using h2⟩,?_⟩;rintro i n σ2 H2 ⟨rfl,hi,m2,ρ2,S2,e2,sr2,lr2,hl⟩;by_cases hlt:i<us.length
 ·have hu:=Q7 hlt;rw[mS hu]at hl;unfold dX at hl;split at hl
  ·rename_i hok;obtain⟨⟨ρ3,S3⟩,h3,hl⟩:=Q0.mp hl;obtain⟨⟨o4,ρ4,S4⟩,h4,hl⟩:=Q0.mp hl;obtain⟨hgo,hy⟩:=(ito m2 S2 H2 i e2 sr2 hok).1 _ hu;refine .inr ⟨hgo,W (i+1) (us.length-(i+1)),fun σ' H' w'=>⟨_,by omega,w'⟩,fun x H3 y=>?_⟩;obtain⟨e3,sr3,ix⟩:=hy x H3 y;refine⟨m2,ρ2,S2,_,ρ3,S3,sr3,lr2.mono e3,ix,h3,fun m4 σ4 H4 e4 sr4 lr4=>⟨m4,ρ3,S3,o4,ρ4,S4,sr4,lr4,h4,?_⟩⟩;have e14:=(e2.trans e3).trans e4;have nxt:dX ok g cb (us.drop (i+1)) ρ4 S4=some (o,ρ',S')->ie K m4 H4 (W (i+1) (us.length-(i+1))) ρ4 S4:=fun hn m5 σ5 H5 e5 sr5 lr5=>⟨rfl,hlt,m5,ρ4,S4,e14.trans e5,sr5,lr5,hn⟩;cases o4 with
   |nx=>exact nxt hl
   |ct=>exact nxt hl
   |bk=>cases hl;exact ie.mono e14 post
   |rt v=>cases hl;exact kX.mono e14 post
  ·cases hl
 ·have e:i=us.length:=by omega
  subst e;rw[List.drop_length]at hl;unfold dX at hl;split at hl
  ·rename_i hok;cases hl;exact .inl ⟨(ito m2 _ H2 _ e2 sr2 hok).2 (QQ _),post m2 σ2 H2 e2 sr2 lr2⟩
  ·cases hl
theorem Fs{K:Q1}{ci:CI}{g:CG}{cb:CS}:∀D σ H,tS K (og ci g cb) D σ H->G3 (tI K ci) (tG K g) (tS K cb) D σ H:=by
 rintro D σ H ⟨m,ρ,S,o,ρ',S',sr,lr,hc,post⟩;obtain⟨⟨us,ok,S1⟩,h1,h2⟩:=Q0.mp hc;exact⟨m,ρ,S,us,ok,S1,sr,lr,h1,fun m1 H1 J e1 sr1 ito=>oT sr1 (lr.mono e1) ito h2 (wM.mono e1 post)⟩
theorem nV{tg iter:QH}{body:List Qm}{ci:CI}{g:CG}{cb:CS}(hp:PassesOwn (Qz X.prog X.w) X.A X.env X.xe)(hc:X.calm=true)(hi:QI X tg iter ci)(hg:QG X tg g)(hb:QSs X body cb)(hs:∀x,foldedSetIterable iter X.env x=pure x:=by intro _;rfl):QS X (.For tg iter body [] pos) (og ci g cb):=(sg hp hc hi hg hb hs).imp Fs
def iTp(ca:CE):CI:=fun ρ S=>(ca ρ S).bind fun p=>match p.1 with
 |.tup us=>some (us,fun _=>True,p.2)
 |.ref l=>match p.2[l]? with
  |some (.lst us)=>some (us,fun S=>S[l]?=some (.lst us),p.2)
  |_=>none
 |_=>none
theorem ID{K:Q1}{m:List Addr}{H:Hp}{us:List U}{a:Addr}{xs:List V}(sq:SqT K H a xs)(il:IsL K m H xs us):zP K (Itt K a) m H us (fun _=>True):=by
 intro m2 S2 H2 i e2 sr2 _;have sq2:=e2.keep.t _ _ sq;have il2:=il.mono e2;refine⟨fun u hu=>?_,fun hi=>⟨xs,sq2,by rw[il2.length];exact hi⟩⟩;obtain⟨x,hx,ix⟩:=il2.getD hu;refine⟨⟨xs,x,sq2,hx⟩,fun y H3 hy=>?_⟩;obtain⟨rfl,hy⟩:=hy;have:=hy xs sq2;rw[hx]at this;cases this;exact⟨.refl,sr2,ix⟩
theorem IE{K:Q1}{m:List Addr}{H:Hp}{us:List U}{a:Addr}{l:Nat}(hl:m[l]?=some a):zP K (Itl K a) m H us (fun S=>S[l]?=some (.lst us)):=by
 intro m2 S2 H2 i e2 sr2 hok;obtain⟨a',ha',xs,hx,il⟩:=sr2.get hok;rw[e2.get hl]at ha';cases ha';refine⟨fun u hu=>?_,fun hi=>⟨xs,SqL.of hx,by rw[il.length];exact hi⟩⟩;obtain⟨x,hx',ix⟩:=il.getD hu;refine⟨⟨xs,x,SqL.of hx,hx'⟩,fun y H3 hy=>?_⟩;obtain⟨rfl,hy⟩:=hy;have:=hy xs (SqL.of hx);rw[hx']at this;cases this;exact⟨.refl,sr2,ix⟩
theorem qv{tg:QH}(h:QE X e ca):QI X tg e (iTp ca):=((DK h).or (z9 h)).imp fun σ H R hz=>ve hz fun m ρ S us ok S' sr lr hc post=>by
 obtain⟨⟨u,S1⟩,h1,h2⟩:=Q0.mp hc;cases u with
 |tup ws=>
  cases h2;refine .inl ⟨m,ρ,S,.tup us,_,sr,lr,h1,fun m1 v1 H1 e1 sr1 i1=>?_⟩;obtain⟨a,xs,rfl,sq,il⟩:=i1.of_tup;exact⟨a,rfl,⟨xs,sq⟩,post m1 H1 _ e1 sr1 (ID sq il)⟩
 |ref l=>
  simp only at h2;split at h2
  ·rename_i us' hS;cases h2;refine .inr ⟨m,ρ,S,.ref l,_,sr,lr,h1,fun m1 v1 H1 e1 sr1 i1=>?_⟩;obtain⟨a,hl,rfl⟩:=i1.of_ref;obtain⟨a',ha',xs,hx,il⟩:=sr1.get hS;rw[hl]at ha';cases ha';exact⟨a,rfl,⟨xs,SqL.of hx⟩,post m1 H1 _ e1 sr1 (IE hl)⟩
  ·cases h2
 |_=>simp at h2
def jn(lo:Int)(n:Nat):List U:=(Qa n).map fun i=>.int (lo+(i:Nat))
theorem Bv{K:Q1}{m:List Addr}{H:Hp}{lo:Int}{n:Nat}:zP K (Itr lo n) m H (jn lo n) (fun _=>True):=by
 intro m2 S2 H2 i e2 sr2 _;refine⟨fun u hu=>?_,fun hi=>by show n<=i;simpa [jn] using hi⟩;unfold jn at hu;rw[Qr]at hu;by_cases c:i<n
 ·rw[List.getElem?_range c]at hu;simp at hu;subst hu;refine⟨c,fun y H3 hy=>?_⟩;obtain⟨rfl,rfl⟩:=hy;exact⟨.refl,sr2,.int_⟩
 ·rw[Zj (by simpa using c)]at hu;cases hu
def cZ(cr:CA):CI:=fun ρ S=>(cr ρ S).bind fun p=>match p.1 with
 |[.int j]=>if -(2^62)<=j/\j<2^62 then some (jn 0 j.toNat,fun _=>True,p.2)else none
 |_=>none
theorem gE{tg:QH}{cr:CA}{p:Pos}(hg:Gl X "range")(hm:X.mg "range"=none)(ha:QA X [a] cr)(hs:QR [a] X.env=[(false,eval a X.env)]:=by rfl):QI X tg (.Call (.Name "range" p) [a] [] pos) (cZ cr):=(vJ hg hm ha.h hs).imp fun σ H R hz=>ve hz fun m ρ S us ok S' sr lr hc post=>by
 obtain⟨⟨ws,S1⟩,h1,h2⟩:=Q0.mp hc;simp only at h2;split at h2
 ·rename_i j;split at h2
  ·rename_i hj;cases h2;refine⟨m,ρ,S,_,S',sr,lr,h1,fun m1 v1 H1 e1 sr1 i1=>?_⟩;obtain⟨x,r,rfl,ix,ir⟩:=i1.of_cons;rw[ir.of_nil,ix.of_int];exact⟨j,rfl,hj.1,hj.2,post m1 H1 _ e1 sr1 Bv⟩
  ·cases h2
 ·cases h2
end
def fI(g:Int->Int->Option U):U->U->Sto->Option (U×Sto)
 |.int i,.int j,S=>(g i j).bind fun u=>some (u,S)
 |_,_,_=>none
section
variable{X:Cx}{K:Q1}
theorem K3{C:Int->Int->Prop}{gV:Int->Int->V}{g:Int->Int->Option U}(h:∀i j u,g i j=some u->C i j/\∀m H,Is K m H (gV i j) u):OpP K (rI C gV) (fI g):=by
 intro m S H x y v w u S' Q sr ix iy hf post;cases x<;>cases y<;>simp only[fI]at hf<;>try cases hf
 rename_i i j;obtain⟨u1,h1,h2⟩:=Q0.mp hf;cases h2;obtain⟨hc,hi⟩:=h i j u h1;exact⟨i,j,ix.of_int,iy.of_int,hc,post m _ H .refl sr (hi m H)⟩
theorem A1{gV:Int->Int->V}{g:Int->Int->Option U}(h:∀i j u,g i j=some u->∀m H,Is K m H (gV i j) u):OpP K (rI0 gV) (fI g):=by
 intro m S H x y v w u S' Q sr ix iy hf post;cases x<;>cases y<;>simp only[fI]at hf<;>try cases hf
 rename_i i j;obtain⟨u1,h1,h2⟩:=Q0.mp hf;cases h2;exact⟨i,j,ix.of_int,iy.of_int,post m _ H .refl sr (h i j u h1 m H)⟩
def Az(K:Q1):R2:=fun x y H Q=>∃a b xs ys,x=.ref a/\y=.ref b/\SqT K H a xs/\SqT K H b ys/\xs.length+ys.length<=QB/\∀q H',C7 H H'->SqT K H' q (xs++ys)->Q (.ref q) H'
theorem EY:OpR X (binaryOp .Add) (Az X.K):=by
 intro pins s σ H x y v u Q I rx ry h;obtain⟨a,b,xs,ys,rfl,rfl,ha,hb,hz,q⟩:=h;by_cases e:xs=[]
 ·cases rx;cases ry;obtain⟨its,r1,p1,_⟩:=I.tuple ha;obtain⟨its2,r2,p2,_⟩:=I.tuple hb;refine BL p1 p2 (r1.nil_iff.mpr e) ⟨.ref b,H,I,rfl,q b H (.refl _) (by rw[e];exact hb)⟩
 ·refine EX pins s σ H _ _ v u Q I rx ry ⟨a,b,xs,ys,rfl,rfl,ha,hb,e,hz,fun z=>q a H (.refl _) (by rw[z,ZV];exact ha),fun _ p hp=>q p _ (gO hp _) (SqT.of aL)⟩
def yT:U->U->Sto->Option (U×Sto)
 |.tup a,.tup b,S=>if a.length+b.length<=LIM then some (.tup (a++b),S)else none
 |_,_,_=>none
theorem AZ:OpP K (Az K) yT:=by
 intro m S H x y v w u S' Q sr ix iy hf post;cases x<;>cases y<;>simp only[yT]at hf<;>try cases hf
 split at hf<;>try cases hf
 rename_i hl;obtain⟨a,xs,rfl,sa,la⟩:=ix.of_tup;obtain⟨b,ys,rfl,sb,lb⟩:=iy.of_tup;refine⟨a,b,xs,ys,rfl,rfl,sa,sb,lim (by rw[la.length,lb.length];exact hl),fun q H' s sq=>?_⟩;exact post m _ H' (.of (dw s)) (sr.same s) (.tup_ sq ((la.append lb).mono (.of (dw s))))
def mR:U->U->Sto->Option (U×Sto)
 |.ref l,.ref k,S=>match S[l]?,S[k]? with
  |some (.lst a),some (.lst b)=>if a.length+b.length<=LIM then some (.ref S.length,S++[.lst (a++b)])else none
  |_,_=>none
 |_,_,_=>none
theorem A2:OpP K Jj mR:=by
 intro m S H x y v w u S' Q sr ix iy hf post;cases x<;>cases y<;>simp only[mR]at hf<;>try cases hf
 rename_i l k;split at hf<;>try cases hf
 rename_i a b h1 h2;split at hf<;>try cases hf
 rename_i hl;obtain⟨p,hp,rfl⟩:=ix.of_ref;obtain⟨q,hq,rfl⟩:=iy.of_ref;obtain⟨p',hp',xs,hx,il⟩:=sr.get h1;obtain⟨q',hq',ys,hy,il'⟩:=sr.get h2;rw[hp]at hp';cases hp';rw[hq]at hq';cases hq';exact⟨p,q,xs,ys,rfl,rfl,hx,hy,lim (by rw[il.length,il'.length];exact hl),fun r hr=>ej sr (il.append il') post hr⟩
def yU:U->U->Sto->Option (U×Sto)
 |.str a,.str b,S=>if a.length+b.length<=LIM then some (.str (a++b),S)else none
 |_,_,_=>none
theorem A0:OpP K (fun x y H Q=>∃i j,x=.str i/\y=.str j/\i.length+j.length<=QB/\Q (.str (i++j)) H) yU:=by
 intro m S H x y v w u S' Q sr ix iy hf post;cases x<;>cases y<;>simp only[yU]at hf<;>try cases hf
 split at hf<;>try cases hf
 rename_i hl;exact⟨_,_,ix.of_str,iy.of_str,lim hl,post m _ H .refl sr .str_⟩
def p9:U->U->Sto->Option (U×Sto)
 |.int i,.int j,S=>some (.int (i+j),S)
 |.tup a,.tup b,S=>if a.length+b.length<=LIM then some (.tup (a++b),S)else none
 |.str a,.str b,S=>if a.length+b.length<=LIM then some (.str (a++b),S)else none
 |.ref l,.ref k,S=>mR (.ref l) (.ref k) S
 |_,_,_=>none
theorem mz:OpR X (binaryOp .Add) (fun x y H Q=>rI0 (fun i j=>.int (i+j)) x y H Q\/(Jj x y H Q\/(Az X.K x y H Q\/∃i j,x=.str i/\y=.str j/\i.length+j.length<=QB/\Q (.str (i++j)) H))):=HY.or (HX.or (EY.or wa))
theorem mx:OpP K (fun x y H Q=>rI0 (fun i j=>.int (i+j)) x y H Q\/(Jj x y H Q\/(Az K x y H Q\/∃i j,x=.str i/\y=.str j/\i.length+j.length<=QB/\Q (.str (i++j)) H))) p9:=by
 intro m S H x y v w u S' Q sr ix iy hf post;cases x<;>cases y<;>simp only[p9]at hf<;>try cases hf
 ·exact .inl ⟨_,_,ix.of_int,iy.of_int,post m _ H .refl sr .int_⟩
 ·exact .inr (.inr (.inr (A0 m S H _ _ v w u S' Q sr ix iy hf post)))
 ·exact .inr (.inr (.inl (AZ m S H _ _ v w u S' Q sr ix iy hf post)))
 ·exact .inr (.inl (A2 m S H _ _ v w u S' Q sr ix iy hf post))
def M8:=fI fun i j=>some (.int (i-j))
instance {i j:Int}:Decidable (zI i j):=by unfold zI;exact inferInstance
def nF:=fI fun i j=>if zI i j then some (.int (i*j))else none
theorem qy:OpP K (rI zI fun i j=>.int (i*j)) nF:=K3 fun i j u h=>by
 split at h
 ·rename_i c;cases h;exact⟨c,fun m H=>.int_⟩
 ·cases h
instance {i j:Int}:Decidable (wO i j):=by unfold wO;exact inferInstance
def CQ:=fI fun i j=>if wO i j then some (.int (i / j))else none
theorem HS:OpP K (rI wO fun i j=>.int (i / j)) CQ:=K3 fun i j u h=>by
 split at h
 ·rename_i c;cases h;exact⟨c,fun m H=>.int_⟩
 ·cases h
def tj:=fI fun i j=>if 0<j then some (.int (i % j))else none
theorem x6:OpP K (rI (fun _ j=>0<j) fun i j=>.int (i % j)) tj:=K3 fun i j u h=>by
 split at h
 ·rename_i c;cases h;exact⟨c,fun m H=>.int_⟩
 ·cases h
instance {i j:Int}:Decidable (LH i j):=by unfold LH;exact inferInstance
def Nr:=fI fun i j=>if LH i j then some (.int (i^j.toNat))else none
def fLt:=fI fun i j=>some (.bl (decide (i<j)))
def fLe:=fI fun i j=>some (.bl (decide (i<=j)))
def fGt:=fI fun i j=>some (.bl (decide (j<i)))
def fGe:=fI fun i j=>some (.bl (decide (j<=i)))
def Jk:OpP K (rI0 fun i j=>.bl (decide (i<j))) fLt:=A1 fun i j u h m H=>by cases h;exact .bl_
def MY:OpP K (rI0 fun i j=>.bl (decide (i<=j))) fLe:=A1 fun i j u h m H=>by cases h;exact .bl_
def FT:OpP K (rI0 fun i j=>.bl (decide (j<i))) fGt:=A1 fun i j u h m H=>by cases h;exact .bl_
def K6:OpP K (rI0 fun i j=>.bl (decide (j<=i))) fGe:=A1 fun i j u h m H=>by cases h;exact .bl_
def eqS:U->U->Option Bool
 |.int i,.int j=>some (decide (i=j))
 |.bl i,.bl j=>some (decide (i=j))
 |.str i,.str j=>some (decide (i=j))
 |.non,.non=>some true
 |.non,.int _=>some false|.int _,.non=>some false
 |.non,.bl _=>some false|.bl _,.non=>some false
 |.non,.str _=>some false|.str _,.non=>some false
 |.int _,.str _=>some false|.str _,.int _=>some false
 |.bl _,.str _=>some false|.str _,.bl _=>some false
 |_,_=>none
def fEq:U->U->Sto->Option (U×Sto):=fun x y S=>(eqS x y).bind fun b=>some (.bl b,S)
def fNe:U->U->Sto->Option (U×Sto):=fun x y S=>(eqS x y).bind fun b=>some (.bl (!b),S)
theorem CW{m:List Addr}{H:Hp}{x y:U}{v w:V}{b:Bool}(ix:Is K m H v x)(iy:Is K m H w y)(h:eqS x y=some b):KH v w=true/\decide (v=w)=b:=by
 cases x<;>cases y<;>simp only[eqS]at h<;>(first|cases h|skip);all_goals
  (first|(have e1:=ix.of_int)|(have e1:=ix.of_bl)|(have e1:=ix.of_str)|(have e1:=ix.of_non))
  (first|(have e2:=iy.of_int)|(have e2:=iy.of_bl)|(have e2:=iy.of_str)|(have e2:=iy.of_non))
  subst e1 e2;exact⟨rfl,by simp⟩
theorem sI:OpP K rEq fEq:=by
 intro m S H x y v w u S' Q sr ix iy hf post;obtain⟨b,h1,h2⟩:=Q0.mp hf;cases h2;obtain⟨e1,e2⟩:=CW ix iy h1;exact⟨e1,by rw[e2];exact post m _ H .refl sr .bl_⟩
theorem FR:OpP K rNe fNe:=by
 intro m S H x y v w u S' Q sr ix iy hf post;obtain⟨b,h1,h2⟩:=Q0.mp hf;cases h2;obtain⟨e1,e2⟩:=CW ix iy h1;exact⟨e1,by rw[e2];exact post m _ H .refl sr .bl_⟩
def qI:U->Bool
 |.non=>true
 |_=>false
def Ft:U->U->Sto->Option (U×Sto)
 |x,.non,S=>some (.bl (qI x),S)
 |_,_,_=>none
def BE:U->U->Sto->Option (U×Sto)
 |x,.non,S=>some (.bl (!qI x),S)
 |_,_,_=>none
theorem uY{m:List Addr}{H:Hp}{x:U}{v:V}(ix:Is K m H v x):decide (v=.non)=qI x:=by
 cases x with
 |non=>rw[ix.of_non];rfl
 |bl b=>rw[ix.of_bl];rfl
 |int i=>rw[ix.of_int];rfl
 |str i=>rw[ix.of_str];rfl
 |tup us=>obtain⟨a,xs,rfl,_⟩:=ix.of_tup;rfl
 |ref l=>obtain⟨a,_,rfl⟩:=ix.of_ref;rfl
 |kl ns=>obtain⟨a,rfl,_⟩:=ix.of_kl;rfl
theorem A3:OpP K (fun x y H Q=>y=.non/\Q (.bl (decide (x=.non))) H) Ft:=by
 intro m S H x y v w u S' Q sr ix iy hf post;cases y<;>simp only[Ft]at hf<;>cases hf;exact⟨iy.of_non,by rw[uY ix];exact post m _ H .refl sr .bl_⟩
theorem HQ:OpP K (fun x y H Q=>y=.non/\Q (.bl (!decide (x=.non))) H) BE:=by
 intro m S H x y v w u S' Q sr ix iy hf post;cases y<;>simp only[BE]at hf<;>cases hf;exact⟨iy.of_non,by rw[uY ix];exact post m _ H .refl sr .bl_⟩
section
variable{κ:Type}[DecidableEq κ]
def bq{α:Type}(kvs:List (κ×α))(k:κ):Option α:=(kvs.find? fun kv=>decide (kv.1=k)).map (·.2)
def eM{α:Type}(kvs:List (κ×α))(k:κ)(v:α):List (κ×α):=
 if (kvs.any fun kv=>decide (kv.1=k))=true then kvs.map (fun kv=>if kv.1=k then(kv.1,v)else kv)else kvs++[(k,v)]
variable{m:List Addr}{H:Hp}{kvs:List (κ×V)}{kus:List (κ×U)}{k:κ}{v:V}{u:U}
theorem IsP.val(h:IsP K m H kvs kus):Rf K m H (jc kvs k) (bq kus k):=by
 refine IsP.ind (P:=fun kvs kus=>Rf K m H (jc kvs k) (bq kus k)) trivial (fun k' v u kvs kus i _ ih=>?_) h;by_cases e:k'=k
 ·subst e;simp[jc,bq,Ql,Rf,i]
 ·simp only[jc,bq,Ql,decide_eq_false e]at ih ⊢;exact ih
theorem IsP.any_(h:IsP K m H kvs kus):(kvs.any fun kv=>decide (kv.1=k))=(kus.any fun kv=>decide (kv.1=k)):=
 IsP.ind (P:=fun kvs kus=>(kvs.any fun kv=>decide (kv.1=k))=(kus.any fun kv=>decide (kv.1=k))) rfl (fun k' v u kvs kus i _ ih=>by simp only[ZE,ih]) h
theorem IsP.append{kvs':List (κ×V)}{kus':List (κ×U)}(h:IsP K m H kvs kus)(h':IsP K m H kvs' kus'):IsP K m H (kvs++kvs') (kus++kus'):=⟨by simp[h.1,h'.1],by simpa using h.2.append h'.2⟩
theorem IsP.put(h:IsP K m H kvs kus)(i:Is K m H v u):IsP K m H (m8 kvs k v) (eM kus k u):=by
 unfold m8 eM;rw[h.any_];split
 ·refine IsP.ind (P:=fun kvs kus=>IsP K m H (kvs.map fun kv=>if kv.1=k then(kv.1,v)else kv) (kus.map fun kv=>if kv.1=k then(kv.1,u)else kv)) .nil_ (fun k' v' u' kvs kus i' _ ih=>?_) h;simp only[QF];by_cases e:k'=k
  ·simp only[e,if_true];exact .cons_ i ih
  ·simp only[e,if_false];exact .cons_ i' ih
 ·exact h.append (.cons_ i .nil_)
end
def lB:U->Option Key
 |.int i=>some (.inl i)
 |.str x=>some (.inr x)
 |_=>none
theorem iS{m:List Addr}{H:Hp}{x:U}{v:V}{k:Key}(ix:Is K m H v x)(h:lB x=some k):v=kV k:=by
 cases x<;>simp only[lB]at h<;>cases h
 ·exact ix.of_int
 ·exact ix.of_str
def lK:U->Bool
 |.non=>true|.bl _=>true|.int _=>true|.str _=>true|_=>false
def eqF:U->U->Bool
 |.non,.non=>true
 |.bl a,.bl b=>a == b
 |.bl a,.int b=>(if a then 1 else 0) == b
 |.int a,.bl b=>a == (if b then 1 else 0)
 |.int a,.int b=>a == b
 |.str a,.str b=>a == b
 |_,_=>false
def inU(x:U)(us:List U):Bool:=us.any fun y=>eqF y x
theorem sZ{m:List Addr}{H:Hp}{x:U}{v:V}(ix:Is K m H v x)(h:lK x=true):nE v=true:=by
 cases x with
 |non=>rw[ix.of_non];rfl
 |bl b=>rw[ix.of_bl];rfl
 |int i=>rw[ix.of_int];rfl
 |str i=>rw[ix.of_str];rfl
 |tup us=>cases h
 |ref l=>cases h
 |kl l=>cases h
theorem IQ{m:List Addr}{H:Hp}{x y:U}{v w:V}(ix:Is K m H v x)(iy:Is K m H w y)(hx:lK x=true)(hy:lK y=true):eqV v w=eqF x y:=by
 cases x<;>(first|cases hx|skip)<;>cases y<;>(first|cases hy|skip);all_goals
  (first|(have e1:=ix.of_int)|(have e1:=ix.of_bl)|(have e1:=ix.of_str)|(have e1:=ix.of_non))
  (first|(have e2:=iy.of_int)|(have e2:=iy.of_bl)|(have e2:=iy.of_str)|(have e2:=iy.of_non))
  subst e1 e2;rfl
theorem pC{m:List Addr}{H:Hp}:∀{xs:List V} {us:List U},IsL K m H xs us->us.all lK=true->xs.all nE=true
 |xs,[],h,_=>by rw[h.of_nil];rfl
 |xs,u::us,h,k=>by
  obtain⟨x,r,rfl,i,t⟩:=h.of_cons;rw[List.all_cons,Zx]at k ⊢;exact⟨sZ i k.1,pC t k.2⟩
theorem yO{m:List Addr}{H:Hp}{x:U}{v:V}(ix:Is K m H v x)(hx:lK x=true):∀{xs:List V} {us:List U},IsL K m H xs us->us.all lK=true->inV v xs=inU x us
 |xs,[],h,_=>by rw[h.of_nil];rfl
 |xs,u::us,h,k=>by
  obtain⟨y,r,rfl,i,t⟩:=h.of_cons;rw[List.all_cons,Zx]at k;have ih:=yO ix hx t k.2;unfold inV inU at ih ⊢;rw[ZE,ZE,ih,IQ i ix k.1 hx]
theorem _root_.L2.DGet.kz{H:Hp}{a:Addr}{ob:Obj}{kvs:List (Key×V)}{k:Key}(e:H a=some (.frz ob (.dK kvs))):DGet H a (kV k) (jc kvs k):=.inl ⟨kvs,k,.inr ⟨ob,e⟩,rfl,rfl⟩
def fIn(neg:Bool):U->U->Sto->Option (U×Sto):=fun x y S=>match y with
 |.tup us=>if lK x=true/\us.all lK=true then some (.bl (if neg then !inU x us else inU x us),S)else none
 |.ref l=>match S[l]? with
  |some (.lst us)=>if lK x=true/\us.all lK=true then some (.bl (if neg then !inU x us else inU x us),S)else none
  |some (.dic kus)=>(lB x).bind fun k=>some (.bl (if neg then !(bq kus k).isSome else(bq kus k).isSome),S)
  |some (.fdc ep kus)=>(lB x).bind fun k=>some (.bl (if neg then !(bq kus k).isSome else(bq kus k).isSome),S)
  |_=>none
 |_=>none
theorem Rf.isSome{m:List Addr}{H:Hp}{v:Option V}{u:Option U}(h:Rf K m H v u):v.isSome=u.isSome:=by
 cases v<;>cases u<;>first|rfl|exact h.elim
theorem CM{ca cb:CE}{neg:Bool}(t2:TE->TE->TE)(h2:∀ta tb σ H Q,(ta σ H fun y H1=>tb σ H1 fun x H2=>∃a o,x=.ref a/\DGet H2 a y o/\Q (.bl (if neg then !o.isSome else o.isSome)) H2)->t2 ta tb σ H Q):∀σ H Q,tE K (cOp (fIn neg) ca cb) σ H Q->tOp (rIn K neg) (tE K ca) (tE K cb) σ H Q\/t2 (tE K ca) (tE K cb) σ H Q:=by
 rintro σ H Q ⟨m,ρ,S,u,S',sr,lr,hc,post⟩;obtain⟨⟨x,S1⟩,h1,h⟩:=Q0.mp hc;obtain⟨⟨y,S2⟩,h3,h4⟩:=Q0.mp h;cases y with
 |tup us=>
  simp only[fIn]at h4;split at h4<;>try cases h4
  rename_i hf;refine .inl ⟨m,ρ,S,x,S1,sr,lr,h1,fun m1 v1 H1 e1 sr1 i1=>⟨m1,ρ,S1,.tup us,S',sr1,lr.mono e1,h3,fun m2 v2 H2 e2 sr2 i2=>?_⟩⟩;obtain⟨a,xs,rfl,sa,la⟩:=i2.of_tup;refine⟨a,xs,rfl,.inr sa,sZ (i1.mono e2) hf.1,pC la hf.2,?_⟩;rw[yO (i1.mono e2) hf.1 la hf.2];exact post m2 _ H2 (e1.trans e2) sr2 .bl_
 |ref l=>
  simp only[fIn]at h4;split at h4<;>try cases h4
  ·rename_i us hS;split at h4<;>try cases h4
   rename_i hf;refine .inl ⟨m,ρ,S,x,S1,sr,lr,h1,fun m1 v1 H1 e1 sr1 i1=>⟨m1,ρ,S1,.ref l,S',sr1,lr.mono e1,h3,fun m2 v2 H2 e2 sr2 i2=>?_⟩⟩;obtain⟨a,ha,rfl⟩:=i2.of_ref;obtain⟨a',ha',xs,hx,la⟩:=sr2.get hS;rw[ha]at ha';cases ha';refine⟨a,xs,rfl,.inl (SqL.of hx),sZ (i1.mono e2) hf.1,pC la hf.2,?_⟩;rw[yO (i1.mono e2) hf.1 la hf.2];exact post m2 _ H2 (e1.trans e2) sr2 .bl_
  ·rename_i kus hS;obtain⟨k,hk,h5⟩:=Q0.mp h4;cases h5;refine .inr (h2 _ _ _ _ _ ⟨m,ρ,S,x,S1,sr,lr,h1,fun m1 v1 H1 e1 sr1 i1=>⟨m1,ρ,S1,.ref l,S',sr1,lr.mono e1,h3,fun m2 v2 H2 e2 sr2 i2=>?_⟩⟩);obtain⟨a,ha,rfl⟩:=i2.of_ref;obtain⟨a',ha',kvs,hx,ip⟩:=sr2.get hS;rw[ha]at ha';cases ha';have ek:=iS (i1.mono e2) hk;subst ek;refine⟨a,_,rfl,DGet.k hx,?_⟩;rw[(IsP.val ip).isSome];exact post m2 _ H2 (e1.trans e2) sr2 .bl_
  ·rename_i ep kus hS;obtain⟨k,hk,h5⟩:=Q0.mp h4;cases h5;refine .inr (h2 _ _ _ _ _ ⟨m,ρ,S,x,S1,sr,lr,h1,fun m1 v1 H1 e1 sr1 i1=>⟨m1,ρ,S1,.ref l,S',sr1,lr.mono e1,h3,fun m2 v2 H2 e2 sr2 i2=>?_⟩⟩);obtain⟨a,ha,rfl⟩:=i2.of_ref;obtain⟨a',ha',ob,es,kvs,hx,hd,ip⟩:=sr2.get hS;rw[ha]at ha';cases ha';have ek:=iS (i1.mono e2) hk;subst ek;refine⟨a,_,rfl,DGet.kz hx,?_⟩;rw[(IsP.val ip).isSome];exact post m2 _ H2 (e1.trans e2) sr2 .bl_
 |_=>simp[fIn]at h4
variable{e a b:QH}{ca cb:CE}{pos:Pos}
theorem xR(hu:X.A.units+1<cLine)(ha:QE X a ca)(hb:QE X b cb)(hm:behindInMarks .In b=false):QT X (.Compare a [.In] [b] pos) (aU (cOp (fIn false) ca cb)):=
 ((oi yb ha hb hm).or (w9 (DT hu ha hb) hm)).imp (lT (CM (neg:=false) KG fun _ _ _ _ _ h=>h))
theorem uC(hu:X.A.units+1<cLine)(ha:QE X a ca)(hb:QE X b cb)(hm:behindInMarks .NotIn b=false):QT X (.Compare a [.NotIn] [b] pos) (aU (cOp (fIn true) ca cb)):=
 ((oi qz ha hb hm).or (w9 (vN hu ha hb) hm)).imp (lT (CM (neg:=true) sC fun _ _ _ _ _ h=>h))
def fIx:U->U->Sto->Option (U×Sto):=fun x y S=>match x with
 |.tup us=>match y with
  |.int i=>(atI us i).bind fun u=>some (u,S)
  |_=>none
 |.ref l=>match S[l]? with
  |some (.lst us)=>(match y with
   |.int i=>(atI us i).bind fun u=>some (u,S)
   |_=>none)
  |some (.dic kus)=>(lB y).bind fun k=>(bq kus k).bind fun u=>some (u,S)
  |some (.fdc ep kus)=>(lB y).bind fun k=>(bq kus k).bind fun u=>some (u,S)
  |_=>none
 |.kl ns=>match y with
  |.int i=>(atI (ns.map U.int) i).bind fun u=>some (u,S)
  |_=>none
 |_=>none
theorem uZ{K:Q1}{m:List Addr}{H:Hp}:∀ns:List Int,IsL K m H (ns.map V.int) (ns.map U.int)
 |[]=>.nil_
 |n::ns=>.cons_ .int_ (uZ ns)
theorem zx{m:List Addr}{H:Hp}{xs:List V}{us:List U}{i:Int}{u:U}(l:IsL K m H xs us)(h:atI us i=some u):∃v,atI xs i=some v/\Is K m H v u:=by
 unfold atI at h ⊢;rw[l.length];obtain⟨j,e1,e2⟩:=Q0.mp h;rw[e1];obtain⟨v,e3,e4⟩:=l.getD e2;exact⟨v,e3,e4⟩
theorem bz(hu:X.A.units+1<cLine)(ha:QE X a ca)(hb:QE X b cb)(hs:tR b)(hs2:JB b):QE X (.Subscript a b pos) (cOp fIx ca cb):=
 ((GR (Fi.or IA) ha hb hs).or (Af hu ha hb hs2)).imp fun σ H Q hz=>lD hz fun m ρ S u S' sr lr hc post=>by
 obtain⟨⟨x,S1⟩,h1,h⟩:=Q0.mp hc;obtain⟨⟨y,S2⟩,h3,h4⟩:=Q0.mp h;cases x with
 |tup us=>
  simp only[fIx]at h4;split at h4<;>try cases h4
  rename_i i;obtain⟨w,hw,h5⟩:=Q0.mp h4;cases h5;refine .inl ⟨m,ρ,S,_,S1,sr,lr,h1,fun m1 v1 H1 e1 sr1 i1=>⟨m1,ρ,S1,_,S',sr1,lr.mono e1,h3,fun m2 v2 H2 e2 sr2 i2=>.inr ?_⟩⟩;obtain⟨a,xs,rfl,sa,la⟩:=(i1.mono e2).of_tup;obtain⟨z,ez,iz⟩:=zx la hw;exact⟨a,xs,i,z,rfl,i2.of_int,sa,ez,post m2 _ H2 (e1.trans e2) sr2 iz⟩
 |ref l=>
  simp only[fIx]at h4;split at h4<;>try cases h4
  ·rename_i us hS;split at h4<;>try cases h4
   rename_i i;obtain⟨w,hw,h5⟩:=Q0.mp h4;cases h5;refine .inl ⟨m,ρ,S,_,S1,sr,lr,h1,fun m1 v1 H1 e1 sr1 i1=>⟨m1,ρ,S1,_,S',sr1,lr.mono e1,h3,fun m2 v2 H2 e2 sr2 i2=>.inl ?_⟩⟩;obtain⟨a,ha,rfl⟩:=(i1.mono e2).of_ref;obtain⟨a',ha',xs,hx,la⟩:=sr2.get hS;rw[ha]at ha';cases ha';obtain⟨z,ez,iz⟩:=zx la hw;exact⟨a,xs,i,z,rfl,i2.of_int,SqL.of hx,ez,post m2 _ H2 (e1.trans e2) sr2 iz⟩
  ·rename_i kus hS;obtain⟨k,hk,h5⟩:=Q0.mp h4;obtain⟨w,hw,h6⟩:=Q0.mp h5;cases h6;refine .inr ⟨m,ρ,S,_,S1,sr,lr,h1,fun m1 v1 H1 e1 sr1 i1=>⟨m1,ρ,S1,_,S',sr1,lr.mono e1,h3,fun m2 v2 H2 e2 sr2 i2=>?_⟩⟩;obtain⟨a,ha,rfl⟩:=(i1.mono e2).of_ref;obtain⟨a',ha',kvs,hx,ip⟩:=sr2.get hS;rw[ha]at ha';cases ha';have ek:=iS i2 hk;subst ek;have rf:=IsP.val (k:=k) ip;rw[hw]at rf;cases hv:jc kvs k with
   |none=>rw[hv]at rf;exact rf.elim
   |some z=>
    rw[hv]at rf;exact⟨a,z,rfl,by have:=DGet.k (k:=k) hx;rw[hv]at this;exact this,post m2 _ H2 (e1.trans e2) sr2 rf⟩
  ·rename_i ep kus hS;obtain⟨k,hk,h5⟩:=Q0.mp h4;obtain⟨w,hw,h6⟩:=Q0.mp h5;cases h6;refine .inr ⟨m,ρ,S,_,S1,sr,lr,h1,fun m1 v1 H1 e1 sr1 i1=>⟨m1,ρ,S1,_,S',sr1,lr.mono e1,h3,fun m2 v2 H2 e2 sr2 i2=>?_⟩⟩;obtain⟨a,ha,rfl⟩:=(i1.mono e2).of_ref;obtain⟨a',ha',ob,es,kvs,hx,hd,ip⟩:=sr2.get hS;rw[ha]at ha';cases ha';have ek:=iS i2 hk;subst ek;have rf:=IsP.val (k:=k) ip;rw[hw]at rf;cases hv:jc kvs k with
   |none=>rw[hv]at rf;exact rf.elim
   |some z=>
    rw[hv]at rf;exact⟨a,z,rfl,by have:=DGet.kz (k:=k) hx;rw[hv]at this;exact this,post m2 _ H2 (e1.trans e2) sr2 rf⟩
 |kl ns=>
  simp only[fIx]at h4;split at h4<;>try cases h4
  rename_i i;obtain⟨w,hw,h5⟩:=Q0.mp h4;cases h5;refine .inl ⟨m,ρ,S,_,S1,sr,lr,h1,fun m1 v1 H1 e1 sr1 i1=>⟨m1,ρ,S1,_,S',sr1,lr.mono e1,h3,fun m2 v2 H2 e2 sr2 i2=>.inl ?_⟩⟩;obtain⟨a,rfl,ka⟩:=(i1.mono e2).of_kl;obtain⟨z,ez,iz⟩:=zx (uZ (K:=X.K) (m:=m2) (H:=H2) ns) hw;exact⟨a,_,i,z,rfl,i2.of_int,ka.sq,ez,post m2 _ H2 (e1.trans e2) sr2 iz⟩
 |_=>simp[fIx]at h4
def mP:U->U->U->Sto->Option Sto:=fun o i v S=>match o with
 |.ref l=>match S[l]? with
  |some (.lst us)=>(match i with
   |.int k=>(ixN us.length k).bind fun j=>some (S.set l (.lst (us.set j v)))
   |_=>none)
  |some (.dic kus)=>(lB i).bind fun k=>if kus.length<LIM then some (S.set l (.dic (eM kus k v)))else none
  |_=>none
 |_=>none
def eN(co ci cv:CE):CS:=fun ρ S=>(cv ρ S).bind fun p=>(co ρ p.2).bind fun q=>(ci ρ q.2).bind fun r=>(mP q.1 r.1 p.1 r.2).bind fun S'=>some (.nx,ρ,S')
theorem cu{o i:QH}{co ci cv:CE}{pos':Pos}(hu:X.A.units+1<cLine)(ho:QE X o co)(hi:QE X i ci)(hv:QE X e cv)
  (hs0:swapsWithSole [.Subscript o i pos'] e pos.line X.env=pure false:=by rfl) (hw:swappedStores [.Subscript o i pos'] e X.env=pure none:=by rfl)
  (h1:(assignEach [.Subscript o i pos'] X.env).map (·.2)=[assign (.Subscript o i pos') X.env]:=by rfl)
  (hs:ZT e (some (.Subscript o i pos')) pos.line X.env=pure false:=by rfl)
  (ha:∀v,assign (.Subscript o i pos') X.env v=(do
   let ov <-holding [v] (eval o X.env)
   let iv <-holding [v,ov] (eval i X.env)
   standAt pos'
   holding [v,ov,iv] (setItem ov iv v)
   release [v,ov,iv] []):=by intro _;rfl):QS X (.Assign [.Subscript o i pos'] e pos) (eN co ci cv):=
 ((xh hv (DM ho hi Ar ha) hs0 hw h1).or (zZ hu ho hi hv hs)).imp fun D σ H hz=>ve hz fun m ρ S o ρ' S' sr lr hc post=>by
 obtain⟨⟨v,S1⟩,h1,h⟩:=Q0.mp hc;obtain⟨⟨ou,S2⟩,h2,h⟩:=Q0.mp h;obtain⟨⟨iu,S3⟩,h3,h⟩:=Q0.mp h;obtain⟨S4,h4,h⟩:=Q0.mp h;cases h;cases ou with
 |ref l=>
  simp only[mP]at h4;split at h4<;>try cases h4
  ·rename_i us hS;split at h4<;>try cases h4
   rename_i k;obtain⟨j,hj,h5⟩:=Q0.mp h4;cases h5;refine .inl ⟨m,ρ,S,v,S1,sr,lr,h1,fun m1 v1 H1 e1 sr1 i1=>⟨m1,ρ,S1,_,S2,sr1,lr.mono e1,h2,fun m2 v2 H2 e2 sr2 i2=>⟨m2,ρ,S2,_,S3,sr2,lr.mono (e1.trans e2),h3,fun m3 v3 H3 e3 sr3 i3=>?_⟩⟩⟩;obtain⟨a,ha,rfl⟩:=(i2.mono e3).of_ref;obtain⟨a',ha',xs,hx,la⟩:=sr3.get hS;rw[ha]at ha';cases ha';have e13:=(e1.trans e2).trans e3;have ek:Ext X.K m3 H3 m3 (upd H3 a (.lst (xs.set j v1))):=.of (sr3.keep ha _);refine⟨a,xs,k,j,rfl,i3.of_int,hx,by rw[la.length];exact hj,post m3 σ _ (e13.trans ek) (sr3.put ha ⟨_,aL,((la.set (i1.mono (e2.trans e3)))).mono ek⟩) (lr.mono (e13.trans ek))⟩
  ·rename_i kus hS;obtain⟨k,hk,h5⟩:=Q0.mp h4;split at h5<;>try cases h5
   have hlen:kus.length<LIM:=by assumption
   refine .inr ⟨m,ρ,S,v,S1,sr,lr,h1,fun m1 v1 H1 e1 sr1 i1=>⟨m1,ρ,S1,_,S2,sr1,lr.mono e1,h2,fun m2 v2 H2 e2 sr2 i2=>⟨m2,ρ,S2,_,S3,sr2,lr.mono (e1.trans e2),h3,fun m3 v3 H3 e3 sr3 i3=>?_⟩⟩⟩;obtain⟨a,ha,rfl⟩:=(i2.mono e3).of_ref;obtain⟨a',ha',kvs,hx,ip⟩:=sr3.get hS;rw[ha]at ha';cases ha';have ek:=iS i3 hk;subst ek;have e13:=(e1.trans e2).trans e3;have ee:Ext X.K m3 H3 m3 (upd H3 a (.dK (m8 kvs k v1))):=.of (sr3.keep ha _);exact⟨a,_,rfl,Jf.k hx (Jn (by rw[IsP.length ip];exact hlen)),post m3 σ _ (e13.trans ee) (sr3.put ha ⟨_,aL,(IsP.put ip (i1.mono (e2.trans e3))).mono ee⟩) (lr.mono (e13.trans ee))⟩
 |_=>simp[mP]at h4
end
theorem j6{α:Type}[DecidableEq α]:∀{l l':List α},l.Nodup->(∀x∈l,x∈l')->l.length<=l'.length
 |[],_,_,_=>ZZ _
 |x::r,l',nd,s=>by
  obtain⟨h1,h2⟩:=Zk.mp nd;have hx:=s x QU;have:=j6 (l:=r) (l':=l'.erase x) h2 fun y hy=>(List.mem_erase_of_ne (fun z=>h1 (by rw[<-z];exact hy))).mpr (s y (QX _ hy));rw[List.length_erase_of_mem hx]at this;have hp:=List.length_pos_of_mem hx;rw[QV];omega
theorem fT(f:Str)(v:V):∀fs:List (Str×V),(nq f v fs).map (·.1)=if f∈fs.map (·.1)then fs.map (·.1)else fs.map (·.1)++[f]
 |[]=>by simp[nq]
 |(g,x)::r=>by
  unfold nq;by_cases e:g=f
  ·simp[e]
  ·have ih:=fT f v r;rw[if_neg e,QF,QF,ih];by_cases c:f∈r.map (·.1)
   ·rw[if_pos c,if_pos (QX _ c)]
   ·rw[if_neg c,if_neg (fun z=>by rcases Qq.mp z with z|z;exact e z.symm;exact c z)];rfl
section
variable{X:Cx}{K:Q1}{m:List Addr}{H:Hp}{c:Cl}{fs:List (Str×V)}{fus:List (Option U)}
theorem InF.room(h:InF K m H c fs fus):fs.length<1000:=by
 have:=j6 h.knd h.sub;rw[Q8]at this;have:=h.few;omega
theorem mE{f:Str}:∀{fs:List (Str×V)},f∉fs.map (·.1)->fs.lookup f=none
 |[],_=>rfl
 |(g,x)::r,h=>by
  rw[ZC];have h1:(f == g)=false:=by
   apply beq_eq_false_iff_ne.mpr;intro z;exact h (by rw[z];exact QU)
  rw[h1];exact mE fun z=>h (QX _ z)
def InF.none_{f:Str}(h:InF K m H c fs fus)(hf:f∉c.ns):fs.lookup f=none:=mE fun z=>hf (h.sub f z)
theorem InF.put{f:Str}{i:Nat}{v:V}{u:U}(h:InF K m H c fs fus)(hi:c.ns[i]?=some f)(hv:Is K m H v u):InF K m H c (nq f v fs) (fus.set i (some u)):=by
 have hfm:f∈c.ns:=List.mem_of_getElem? hi;refine⟨h.nd,h.few,?_,fun x hx=>?_,by simp[h.len],fun j x hj=>?_⟩
 ·rw[fT];split
  ·exact h.knd
  ·rename_i hn;rw[List.nodup_append];exact⟨h.knd,by simp,fun a ha b hb z=>by simp at hb;subst hb;subst z;exact hn ha⟩
 ·rw[fT]at hx;split at hx
  ·exact h.sub x hx
  ·rcases Qe.mp hx with z|z
   ·exact h.sub x z
   ·simp at z;subst z;exact hfm
 ·rw[jA];by_cases e:i=j
  ·subst e;rw[hi]at hj;cases hj;rw[if_pos rfl];have:i<fus.length:=by rw[h.len];exact(Q9.mp hi).1
   rw[List.getElem?_set_self this];exact hv
  ·have ne:x≠f:=fun z=>by
    subst z;obtain⟨p1,e1⟩:=Q9.mp hi;obtain⟨p2,e2⟩:=Q9.mp hj;exact e ((List.getElem_inj h.nd).mp (e1.trans e2.symm))
   rw[if_neg ne,Qb e];exact h.at_ j x hj
theorem InF.new(nd:c.ns.Nodup)(few:c.ns.length<1000):InF K m H c [] (QY c.ns.length none):=by
 refine⟨nd,few,by simp,fun x hx=>by simp at hx,by simp,fun i x hi=>?_⟩;rw[ZL];split<;>exact trivial
open Classical in
def IM(c:Cl)(i:Nat)(x:U)(S:Sto):Option (U×Sto):=match x with
 |.ref l=>match S[l]? with
  |some (.ins c' fus)=>if c'=c then(fus[i]?).join.bind fun u=>some (u,S)else none
  |_=>none
 |_=>none
def cD(c:Cl)(i:Nat)(ca:CE):CE:=fun ρ S=>(ca ρ S).bind fun p=>IM c i p.1 p.2
open Classical in
def yV(c:Cl)(i:Nat)(x v:U)(S:Sto):Option Sto:=match x with
 |.ref l=>match S[l]? with
  |some (.ins c' fus)=>if c'=c then some (S.set l (.ins c (fus.set i (some v))))else none
  |_=>none
 |_=>none
def gZ(c:Cl)(i:Nat)(ca cv:CE):CS:=fun ρ S=>(cv ρ S).bind fun p=>(ca ρ p.2).bind fun q=>(yV c i q.1 p.1 q.2).bind fun S'=>some (.nx,ρ,S')
variable{e:QH}{ca cv:CE}{pos:Pos}{f:Str}{i:Nat}
theorem bw(hcl:Cls X.K c.C)(hna:js X.K c.C f)(hi:c.ns[i]?=some f)(h:QE X e ca)(hb:attributeBase e f X.env (eval e X.env)=eval e X.env:=by rfl):QE X (.Attribute e f pos) (cD c i ca):=(DR h hb).imp fun σ H Q hz=>lD hz fun m ρ S u S' sr lr hc post=>by
 obtain⟨⟨x,S1⟩,h1,h2⟩:=Q0.mp hc;refine⟨m,ρ,S,x,S1,sr,lr,h1,fun m1 v1 H1 e1 sr1 i1=>?_⟩;cases x with
 |ref l=>
  simp only[IM]at h2;split at h2<;>try cases h2
  rename_i c' fus hS;split at h2<;>try cases h2
  rename_i hc';subst hc';obtain⟨w,hw,h3⟩:=Q0.mp h2;cases h3;obtain⟨a,ha,rfl⟩:=i1.of_ref;obtain⟨a',ha',dx,fs,hx,inf⟩:=sr1.get hS;rw[ha]at ha';cases ha';have rf:=inf.at_ i f hi;rw[hw]at rf;cases hv:fs.lookup f with
  |none=>rw[hv]at rf;exact rf.elim
  |some z=>
   rw[hv]at rf;exact⟨a,_,dx,fs,z,rfl,hx,hcl,hna,hv,post m1 _ H1 e1 sr1 rf⟩
 |_=>simp[IM]at h2
theorem dc{o:QH}{co:CE}{pos':Pos}(hcl:Cls X.K c.C)(hna:js X.K c.C f)(hi:c.ns[i]?=some f)(ho:QE X o co)(hv:QE X e cv)(hs:ZT e (some (.Attribute o f pos')) pos.line X.env=pure false:=by rfl):QS X (.Assign [.Attribute o f pos'] e pos) (gZ c i co cv):=(DJ ho hv hs).imp fun D σ H hz=>ve hz fun m ρ S o ρ' S' sr lr hc post=>by
 obtain⟨⟨v,S1⟩,h1,h⟩:=Q0.mp hc;obtain⟨⟨x,S2⟩,h2,h⟩:=Q0.mp h;obtain⟨S3,h3,h⟩:=Q0.mp h;cases h;refine⟨m,ρ,S,v,S1,sr,lr,h1,fun m1 v1 H1 e1 sr1 i1=>⟨m1,ρ,S1,x,S2,sr1,lr.mono e1,h2,fun m2 v2 H2 e2 sr2 i2=>?_⟩⟩;cases x with
 |ref l=>
  simp only[yV]at h3;split at h3<;>try cases h3
  rename_i c' fus hS;split at h3<;>try cases h3
  have hc':c'=c:=by assumption
  subst hc';obtain⟨a,ha,rfl⟩:=i2.of_ref;obtain⟨a',ha',dx,fs,hx,inf⟩:=sr2.get hS;rw[ha]at ha';cases ha';have ee:Ext X.K m2 H2 m2 (upd H2 a (.ins c'.C dx (nq f v1 fs))):=.of (sr2.keep ha _);have e12:=e1.trans e2;exact⟨a,_,dx,fs,rfl,hx,hcl,hna,inf.room,post m2 σ _ (e12.trans ee) (sr2.put ha ⟨dx,_,aL,(inf.put hi (i1.mono e2)).mono ee⟩) (lr.mono (e12.trans ee))⟩
 |_=>simp[yV]at h3
structure eZ(P:Qx)(w:Qg)(K:Q1)(mg:Str->Option Q3)(base:Heap)(c:Cl)(mn:Str)(k:Nat)(ps:List Str)(f:Fn):Prop where
 ex:∃fa fd,FL K c.C mn fa/\lF P w K mg base CX0 k fa fd ps (Aq K f)/\ig K fd ps []
theorem eZ.mono{P:Qx}{w:Qg}{mg:Str->Option Q3}{base:Heap}{mn:Str}{j k:Nat}{ps:List Str}{f:Fn}(h:eZ P w K mg base c mn j ps f)(l:j<=k):eZ P w K mg base c mn k ps f:=by
 obtain⟨fa,fd,a,b,d⟩:=h.ex;exact⟨fa,fd,a,b.mono l,d⟩
open Classical in
def yW(c:Cl)(f:Fn)(x:U)(S:Sto)(args:Sto->Option (List U×Sto)):Option (U×Sto):=match x with
 |.ref l=>match S[l]? with
  |some (.ins c' _)=>if c'=c then(args S).bind fun q=>f (.ref l::q.1) q.2 else none
  |_=>none
 |_=>none
def bJ(c:Cl)(f:Fn)(ca:CE)(cr:CA):CE:=fun ρ S=>(ca ρ S).bind fun p=>yW c f p.1 p.2 (cr ρ)
theorem uP{mn:Str}{g:Fn}{co:CE}{cr:CA}(hmn:mn∉c.ns):∀σ H Q,tE K (bJ c g co cr) σ H Q->xy c.C mn (Aq K g) [] E0 (tE K co) (tA K cr) σ H Q:=by
 rintro σ H Q ⟨m,ρ,S,u,S',sr,lr,hc,post⟩;obtain⟨⟨x,S1⟩,h1,h2⟩:=Q0.mp hc;refine⟨m,ρ,S,x,S1,sr,lr,h1,fun m1 v1 H1 e1 sr1 i1=>?_⟩;cases x with
 |ref l=>
  simp only[yW]at h2;split at h2<;>try cases h2
  rename_i c' fus hS;split at h2<;>try cases h2
  rename_i hc';subst hc';obtain⟨⟨us,S2⟩,h3,h4⟩:=Q0.mp h2;obtain⟨a,ha,rfl⟩:=i1.of_ref;obtain⟨a',ha',dx,fs,hx,inf⟩:=sr1.get hS;rw[ha]at ha';cases ha';refine⟨a,dx,fs,rfl,hx,inf.none_ hmn,m1,ρ,S1,us,S2,sr1,lr.mono e1,h3,fun m2 vs H2 e2 sr2 i2=>?_⟩;exact⟨m2,_,S2,u,S',.cons_ (i1.mono e2) (by simpa using i2),sr2,h4,post.mono (e1.trans e2)⟩
 |_=>simp[yW]at h2
theorem cG{mn:Str}{g:Fn}{k:Nat}{ps:List Str}{o:QH}{es:List QH}{co:CE}{cr:CA}{apos:Pos}{pl:Sem Bool}(hcl:Cls X.K c.C)(F:eZ X.prog X.w X.K X.mg X.base c mn k ps g)(hr:fY k X.A)(hmn:mn∉c.ns)(ho:QE X o co)(ha:QA X (e::es) cr)
  (hst:QR (e::es) X.env=(false,eval e X.env)::QR es X.env:=by rfl) (hpl:(Z9 pos (QR es X.env)).any (·.1)=false:=by rfl) (ht:eval (.Call (.Attribute o mn apos) (e::es) [] pos) X.env=(do
   let ov <-eval o X.env
   standAt apos.atName
   let (f,first) <-holding [ov] (getMethod ov mn pl)
   callWith pos f first (Z9 pos (QR (e::es) X.env)) (backToKw pos (keywordEach [] X.env))):=by rfl):QE X (.Call (.Attribute o mn apos) (e::es) [] pos) (bJ c g co cr):=by
 obtain⟨fa,fd,hm,F,hb⟩:=F.ex;exact(Ab ho hcl hm F hr hb .nil AX ha.h hst hpl ht).imp (uP hmn)
theorem kH{mn:Str}{g:Fn}{k:Nat}{ps:List Str}{o:QH}{co:CE}{apos:Pos}{pl:Sem Bool}(hcl:Cls X.K c.C)(F:eZ X.prog X.w X.K X.mg X.base c mn k ps g)(hr:fY k X.A)(hmn:mn∉c.ns)(ho:QE X o co)
  (ht:eval (.Call (.Attribute o mn apos) [] [] pos) X.env=(do
   let ov <-eval o X.env
   standAt apos.atName
   let (f,first) <-holding [ov] (getMethod ov mn pl)
   callWith pos f first (Z9 pos (QR [] X.env)) (backToKw pos (keywordEach [] X.env))):=by rfl):QE X (.Call (.Attribute o mn apos) [] [] pos) (bJ c g co aN):=by
 obtain⟨fa,fd,hm,F,hb⟩:=F.ex;refine(xk ho hcl hm F hr hb .nil AX ht).imp fun σ H Q h=>?_;obtain⟨m,ρ,S,u,S',sr,lr,hc,k⟩:=uP hmn σ H Q h;refine⟨m,ρ,S,u,S',sr,lr,hc,fun m1 v1 H1 e1 sr1 i1=>?_⟩;obtain⟨a,dx,fs,h1,h2,h3,m2,ρ2,S2,us,S3,sr2,lr2,h4,h5⟩:=k m1 v1 H1 e1 sr1 i1;cases h4;exact⟨a,dx,fs,h1,h2,h3,h5 m2 [] H1 .refl sr2 .nil_⟩
structure CMk(P:Qx)(w:Qg)(K:Q1)(mg:Str->Option Q3)(base:Heap)(c:Cl)(x:Str)(k:Nat)(ps:List Str)(f:Fn):Prop where
 ex:∃fa fd,Mk K c.C fa/\lF P w K mg base CX0 k fa fd ps (Aq K f)/\ig K fd ps []/\mg x=some (.ref c.C)
 nd:c.ns.Nodup
 few:c.ns.length<1000
theorem CMk.mono{P:Qx}{w:Qg}{mg:Str->Option Q3}{base:Heap}{x:Str}{j k:Nat}{ps:List Str}{f:Fn}(h:CMk P w K mg base c x j ps f)(l:j<=k):CMk P w K mg base c x k ps f:=by
 obtain⟨fa,fd,a,b,d⟩:=h.ex;exact⟨⟨fa,fd,a,b.mono l,d⟩,h.nd,h.few⟩
def pD(c:Cl)(f:Fn):Fn:=fun us S=>(f (.ref S.length::us) (S++[.ins c (QY c.ns.length none)])).bind fun p=>match p.1 with
 |.non=>some (.ref S.length,p.2)
 |_=>none
theorem Bh{g:Fn}{cr:CA}(nd:c.ns.Nodup)(few:c.ns.length<1000):∀σ H Q,tE K (cCB (pD c g) cr) σ H Q->Eb c.C (Aq K g) [] E0 (tA K cr) σ H Q:=by
 rintro σ H Q ⟨m,ρ,S,u,S',sr,lr,hc,post⟩;obtain⟨⟨us,S1⟩,h1,h2⟩:=Q0.mp hc;obtain⟨⟨w,S2⟩,h3,h4⟩:=Q0.mp h2;refine⟨m,ρ,S,us,S1,sr,lr,h1,fun m1 vs H1 e1 sr1 i1 x dx hx hdx ne=>?_⟩;cases w with
 |non=>
  cases h4;have s1:C7 H1 (upd H1 dx (.own x)):=gO hdx _;have hx2:(upd H1 dx (.own x)) x=none:=by rw[aP (Ne.symm ne)];exact hx
  have ee:Ext K m1 H1 (m1++[x]) (upd (upd H1 dx (.own x)) x (.ins c.C dx [])):=.new ⟨fun b xs q=>(cN hx2 _).t b xs ((dw s1).t b xs q),fun b xs q=>(cN hx2 _).l b xs ((dw s1).l b xs q),fun b xs q=>(cN (K:=K) hx2 _).c b xs ((dw (K:=K) s1).c b xs q)⟩;refine⟨m1++[x],.ref S1.length::us,S1++[.ins c (QY c.ns.length none)],.non,S2,.cons_ (.ref_ (fK sr1.len)) (by simpa using i1.mono ee),(sr1.same s1).new (o:=.ins c (QY c.ns.length none)) hx2 ⟨dx,[],aL,InF.new nd few⟩,h3,fun m2 v2 H2 e2 sr2 i2=>⟨i2.of_non,?_⟩⟩;exact post m2 _ H2 ((e1.trans ee).trans e2) sr2 (.ref_ (e2.get (fK sr1.len)))
 |_=>simp at h4
theorem Cs{x:Str}{g:Fn}{k:Nat}{ps:List Str}{es:List QH}{cr:CA}{p:Pos}(M:CMk X.prog X.w X.K X.mg X.base c x k ps g)(hr:fY (k+1) X.A)(hg:Gl X x)(ha:QA X (e::es) cr)
  (hdb:(x == ("__debug__":Str))=false:=by decide) (he:QR (e::es) X.env=(false,eval e X.env)::QR es X.env:=by rfl) (hpl:(Z9 pos (QR es X.env)).any (·.1)=false:=by rfl):QE X (.Call (.Name x p) (e::es) [] pos) (cCB (pD c g) cr):=by
 obtain⟨fa,fd,hm,F,hb,hx⟩:=M.ex;exact(Ad hm F hr hg hx hb .nil AX ha.h hdb he hpl).imp (Bh M.nd M.few)
def nN:CE:=fun _ S=>some (.ref S.length,S++[.dic []])
theorem mj:QE X (.Dict [] [] pos) nN:=xn.imp fun σ H Q hz=>lD hz fun m ρ S u S' sr lr hc post=>by
 cases hc;exact fun p hp=>post (m++[p]) _ _ (.new (cN hp _)) (sr.new hp ⟨[],aL,.nil_⟩) (.ref_ (fK sr.len))
def wK(cd ck cx:CE):CE:=fun ρ S=>(cd ρ S).bind fun p=>match p.1 with
 |.ref l=>match p.2[l]? with
  |some (.dic _)=>(ck ρ p.2).bind fun q=>(cx ρ q.2).bind fun r=>match r.2[l]? with
   |some (.dic kus)=>(lB q.1).bind fun k=>some ((bq kus k).getD r.1,r.2)
   |_=>none
  |_=>none
 |_=>none
theorem Cu{o e f:QH}{cd ck cx:CE}{apos:Pos}(hu:X.A.units+1<cLine)(ho:QE X o cd)(he:QE X e ck)(hf:QE X f cx)(hm:M2 X o "get" apos e f pos):QE X (.Call (.Attribute o "get" apos) [e,f] [] pos) (wK cd ck cx):=(xp hu ho he hf hm).imp fun σ H Q hz=>lD hz fun m ρ S u S' sr lr hc post=>by
 obtain⟨⟨x,S1⟩,h1,h⟩:=Q0.mp hc;refine⟨m,ρ,S,x,S1,sr,lr,h1,fun m1 v1 H1 e1 sr1 i1=>?_⟩;cases x with
 |ref l=>
  simp only at h;split at h<;>try cases h
  rename_i kus0 hS;obtain⟨⟨ku,S2⟩,h2,h⟩:=Q0.mp h;obtain⟨⟨xu,S3⟩,h3,h⟩:=Q0.mp h;simp only at h;split at h<;>try cases h
  rename_i kus hS3;obtain⟨k,hk,h⟩:=Q0.mp h;cases h;obtain⟨a,ha,rfl⟩:=i1.of_ref;obtain⟨a',ha',kvs0,hx0,_⟩:=sr1.get hS;rw[ha]at ha';cases ha';refine⟨a,rfl,.inl ⟨kvs0,.inl hx0⟩,m1,ρ,S1,ku,S2,sr1,lr.mono e1,h2,fun m2 v2 H2 e2 sr2 i2=>⟨m2,ρ,S2,xu,_,sr2,lr.mono (e1.trans e2),h3,fun m3 v3 H3 e3 sr3 i3=>?_⟩⟩;obtain⟨a',ha',kvs,hx,ip⟩:=sr3.get hS3;rw[(e2.trans e3).get ha]at ha';cases ha';have ek:=iS (i2.mono e3) hk;subst ek;have rf:=IsP.val (k:=k) ip;refine⟨_,DGet.k hx,post m3 _ H3 ((e1.trans e2).trans e3) sr3 ?_⟩;cases hv:jc kvs k with
  |none=>
   cases hw:bq kus k with
   |none=>exact i3
   |some w=>rw[hv,hw]at rf;exact rf.elim
  |some v=>
   cases hw:bq kus k with
   |none=>rw[hv,hw]at rf;exact rf.elim
   |some w=>rw[hv,hw]at rf;exact rf
 |_=>simp at h
end
def rV(n:Nat)(caps:List Nat)(ρ:Rho):Rho:=QY n none++caps.map fun i=>(ρ[i]?).getD none
open Classical in
def gI(ok:Sto->Prop)(g:CG)(ce:CE)(l:Nat):List U->Rho->Sto->Option Sto
 |[],_,S=>if ok S then some S else none
 |u::us,ρ,S=>if ok S then(g u ρ S).bind fun p=>(ce p.1 p.2).bind fun r=>match r.2[l]? with
  |some (.lst ys)=>if ys.length<LIM then gI ok g ce l us p.1 (r.2.set l (.lst (ys++[r.1])))else none
  |_=>none else none
def gK(ci:CI)(g:CG)(ce:CE)(n:Nat)(caps:List Nat):CE:=fun ρ S=>(ci ρ S).bind fun p=>(gI p.2.1 g ce p.2.2.length p.1 (rV n caps ρ) (p.2.2++[.lst []])).bind fun S'=>some (.ref p.2.2.length,S')
section
variable{X:Cx}{K:Q1}
theorem yt{m:List Addr}{H:Hp}{ρ:Rho}{σ:L2.St}{n:Nat}{caps:List Nat}(lr:Lr K m H ρ σ):Lr K m H (rV n caps ρ) (OG.stC n caps σ):=by
 refine⟨by simp[rV,OG.stC],fun j u e=>?_⟩;unfold rV at e;unfold OG.stC;by_cases c:j<n
 ·rw[Qo (by simpa using c),ZL]at e;split at e<;>cases e
 ·rw[Qi (by simp;omega),Qr]at e ⊢;simp only[List.length_replicate]at e ⊢;cases q:caps[j-n]? with
  |none=>rw[q]at e;simp at e
  |some i=>
   rw[q]at e;simp only[ZF,Option.some.injEq]at e ⊢;have e2:ρ[i]?=some (some u):=by
    cases z:ρ[i]? with
    |none=>rw[z]at e;simp at e
    |some y=>rw[z]at e;simp at e;rw[e]
   obtain⟨v,h1,h2⟩:=lr.at_ i u e2;exact⟨v,by rw[h1];rfl,h2⟩
theorem rE{g:CG}{ce:CE}{n:Nat}{caps:List Nat}{J:It}{us:List U}{ok:Sto->Prop}{Q:VK}{m1:List Addr}{H1:Hp}{S1 S':Sto}{ρ:Rho}{σ:L2.St}{l:Addr}(sr1:Sr K m1 S1 H1)(lr:Lr K m1 H1 ρ σ)(ito:zP K J m1 H1 us ok)(hl:H1 l=none)(h2:gI ok g ce S1.length us (rV n caps ρ) (S1++[.lst []])=some S')
  (post:∀m2 H2,Ext K (m1++[l]) (upd H1 l (.lst [])) m2 H2->Sr K m2 S' H2->Q (.ref l) H2) :
  ∃W:Nat->Nat->L2.St->Hp->Prop,(∃m,W 0 m (OG.stC n caps σ) (upd H1 l (.lst [])))/\
 ∀i m σ' H2,W i m σ' H2->(J.stop i H2/\Q (.ref l) H2)\/(J.go i H2/\∃N:L2.St->Hp->Prop,(∀σ'' H',N σ'' H'->∃m',m'<m/\W (i+1) m' σ'' H')/\
  ∀x H3,J.yld i H2 x H3->tG K g x σ' H3 fun σ2 H4=>tE K ce σ2 H4 fun v H5=>∃ys,H5 l=some (.lst ys)/\ys.length<QB/\N σ2 (upd H5 l (.lst (ys++[v])))):=by
 have ee:Ext K m1 H1 (m1++[l]) (upd H1 l (.lst [])):=.new (cN hl _);let W:Nat->Nat->L2.St->Hp->Prop:=fun i k σ2 H2=>k=us.length-i/\i<=us.length/\∃m2 ρ2 S2,Ext K (m1++[l]) (upd H1 l (.lst [])) m2 H2/\Sr K m2 S2 H2/\Lr K m2 H2 ρ2 σ2/\gI ok g ce S1.length (us.drop i) ρ2 S2=some S'
 refine⟨W,⟨us.length,by simp,ZZ _,m1++[l],rV n caps ρ,S1++[.lst []],.refl,sr1.new (o:=.lst []) hl ⟨[],aL,.nil_⟩,yt (lr.mono ee),by simpa using h2⟩,?_⟩;rintro i k σ2 H2 ⟨rfl,hi,m2,ρ2,S2,e2,sr2,lr2,hl2⟩;by_cases hlt:i<us.length
 ·have hu:=Q7 hlt;rw[mS hu]at hl2;unfold gI at hl2;split at hl2
  ·rename_i hok;obtain⟨⟨ρ3,S3⟩,h3,hl2⟩:=Q0.mp hl2;obtain⟨⟨u4,S4⟩,h4,hl2⟩:=Q0.mp hl2;simp only at hl2;split at hl2<;>try cases hl2
   rename_i ys hys;split at hl2<;>try cases hl2
   rename_i hlen;obtain⟨hgo,hy⟩:=(ito m2 S2 H2 i (ee.trans e2) sr2 hok).1 _ hu;refine .inr ⟨hgo,W (i+1) (us.length-(i+1)),fun σ' H' w'=>⟨_,by omega,w'⟩,fun x H3 y=>?_⟩;obtain⟨e3,sr3,ix⟩:=hy x H3 y;refine⟨m2,ρ2,S2,_,ρ3,S3,sr3,lr2.mono e3,ix,h3,fun m4 σ4 H4 e4 sr4 lr4=>⟨m4,ρ3,S3,u4,S4,sr4,lr4,h4,fun m5 v5 H5 e5 sr5 i5=>?_⟩⟩;obtain⟨a',ha',xs,hx,il⟩:=sr5.get hys;have ha:m5[S1.length]?=some l:=(((e2.trans e3).trans e4).trans e5).get (fK sr1.len);rw[ha]at ha';cases ha';have eu:Ext K m5 H5 m5 (upd H5 l (.lst (xs++[v5]))):=.of (sr5.keep ha _);refine⟨xs,hx,Jn (by rw[il.length];exact hlen),rfl,hlt,m5,ρ3,_,((((e2.trans e3).trans e4).trans e5).trans eu),sr5.put (o:=.lst (ys++[u4])) ha ⟨_,aL,(il.append (.cons_ i5 .nil_)).mono eu⟩,(lr4.mono (e5.trans eu)),hl2⟩
  ·cases hl2
 ·have e:i=us.length:=by omega
  subst e;rw[List.drop_length]at hl2;unfold gI at hl2;split at hl2
  ·rename_i hok;cases hl2;exact .inl ⟨(ito m2 _ H2 _ (ee.trans e2) sr2 hok).2 (QQ _),post m2 H2 e2 sr2⟩
  ·cases hl2
theorem vq{ci:CI}{g:CG}{ce:CE}{n:Nat}{caps:List Nat}:∀σ H Q,tE K (gK ci g ce n caps) σ H Q->Ap (tI K ci) (tG K g) (tE K ce) n caps σ H Q:=by
 rintro σ H Q ⟨m,ρ,S,u,S',sr,lr,hc,post⟩;obtain⟨⟨us,ok,S1⟩,h1,h2⟩:=Q0.mp hc;obtain⟨S2,h2,h3⟩:=Q0.mp h2;cases h3;refine⟨m,ρ,S,us,ok,S1,sr,lr,h1,fun m1 H1 J e1 sr1 ito l hl=>?_⟩;have ee:Ext K m1 H1 (m1++[l]) (upd H1 l (.lst [])):=.new (cN hl _);exact rE sr1 (lr.mono e1) ito hl h2 fun m2 H2 e2 sr2=>post m2 _ H2 ((e1.trans ee).trans e2) sr2 (.ref_ (e2.get (fK sr1.len)))
theorem uD{Nc capN tn:List Str}{scope:Zr}{cl:List (Str×Addr)}{n:Nat}{caps:List Nat}{tg iter elt:QH}{pos:Pos}{ci:CI}{g:CG}{ce:CE}
  (hc:X.calm=true) (hi:QI X tg iter ci) (hg:∀s3 H3 fp,WG (cxC X Nc scope cl s3 H3 fp) tg (tG X.K g)) (he:∀s3 H3 fp,WE (cxC X Nc scope cl s3 H3 fp) elt (tE X.K ce))
  (hclos:closureFor scope X.env=pure cl) (hkind:scope.kind=.function) (hnl:∀x∈scope.names,x.2=.local->scope.names.lookup x.1=some .local) (hcell:∀x∈scope.names,x.2≠.cell)
  (hcl:vH X.env cl) (hhas:((relabel scope X.env).names.all fun p=>!(p.2 == .cell||p.2 == .free)||(cl.lookup p.1).isSome)=true)
  (hcap:Paired (Cap X scope cl) caps capN) (hN:Nc=tn++capN) (hn:tn.length=n)
  (hs:∀x,foldedSetIterable iter X.env x=pure x:=by intro _;rfl) :
  QE X (.ListComp elt [⟨tg,iter,[],0⟩] scope pos) (gK ci g ce n caps):=(ud hc hi hg he hclos hkind hnl hcell hcl hhas hcap hN hn hs).imp vq
def n9:Fn
 |[.tup us],S=>some (.int us.length,S)
 |[.ref l],S=>match S[l]? with
  |some (.lst us)=>some (.int us.length,S)
  |some (.dic us)=>some (.int us.length,S)
  |_=>none
 |[.kl ns],S=>some (.int ns.length,S)
 |_,_=>none
abbrev LW(K:Q1):List V->Hp->VK->Prop:=fun xs H Q=>(∃p ys,xs=[.ref p]/\(SqL K H p ys\/SqT K H p ys)/\Q (.int ys.length) H)\/∃a kvs,xs=[V.ref a]/\H a=some (.dK kvs)/\Q (.int kvs.length) H
def oO:fD X (.builtin "len") (LW X.K):=rG.or zm
theorem IsL.one{m:List Addr}{H:Hp}{vs:List V}{u:U}(h:IsL K m H vs [u]):∃v,vs=[v]/\Is K m H v u:=by
 obtain⟨x,r,rfl,i,t⟩:=h.of_cons;rw[t.of_nil];exact⟨x,rfl,i⟩
theorem IsL.two{m:List Addr}{H:Hp}{vs:List V}{u w:U}(h:IsL K m H vs [u,w]):∃v x,vs=[v,x]/\Is K m H v u/\Is K m H x w:=by
 obtain⟨x,r,rfl,i,t⟩:=h.of_cons;obtain⟨y,rfl,j⟩:=t.one;exact⟨x,y,rfl,i,j⟩
theorem oM:k6 K (LW K) n9:=by
 intro m S H us vs u S' Q sr i hf post;match us,hf with
 |[.tup ws],hf=>
  cases hf;obtain⟨v,rfl,iv⟩:=i.one;obtain⟨a,xs,rfl,sa,la⟩:=iv.of_tup;exact .inl ⟨a,xs,rfl,.inr sa,by rw[la.length];exact post m _ H .refl sr .int_⟩
 |[.ref l],hf=>
  obtain⟨v,rfl,iv⟩:=i.one;obtain⟨a,ha,rfl⟩:=iv.of_ref;simp only[n9]at hf;split at hf<;>try cases hf
  ·rename_i ws hS;obtain⟨a',ha',xs,hx,la⟩:=sr.get hS;rw[ha]at ha';cases ha';exact .inl ⟨a,xs,rfl,.inl (SqL.of hx),by rw[la.length];exact post m _ H .refl sr .int_⟩
  ·rename_i ws hS;obtain⟨a',ha',xs,hx,la⟩:=sr.get hS;rw[ha]at ha';cases ha';exact .inr ⟨a,xs,rfl,hx,by rw[IsP.length la];exact post m _ H .refl sr .int_⟩
 |[.kl ns],hf=>
  cases hf;obtain⟨v,rfl,iv⟩:=i.one;obtain⟨a,rfl,ka⟩:=iv.of_kl;exact .inl ⟨a,_,rfl,.inl ka.sq,by rw[Q8];exact post m _ H .refl sr .int_⟩
def q4:Fn
 |[.tup us],S=>some (.ref S.length,S++[.lst us])
 |[.ref l],S=>match S[l]? with
  |some (.lst us)=>some (.ref S.length,S++[.lst us])
  |_=>none
 |_,_=>none
theorem x8:k6 K (fun xs H Q=>∃p ys,xs=[.ref p]/\(SqL K H p ys\/SqT K H p ys)/\∀l,H l=none->Q (.ref l) (upd H l (.lst ys))) q4:=by
 intro m S H us vs u S' Q sr i hf post;match us,hf with
 |[.tup ws],hf=>
  cases hf;obtain⟨v,rfl,iv⟩:=i.one;obtain⟨a,xs,rfl,sa,la⟩:=iv.of_tup;exact⟨a,xs,rfl,.inr sa,fun l hl=>ej sr la post hl⟩
 |[.ref l],hf=>
  obtain⟨v,rfl,iv⟩:=i.one;obtain⟨a,ha,rfl⟩:=iv.of_ref;simp only[q4]at hf;split at hf<;>try cases hf
  rename_i ws hS;obtain⟨a',ha',xs,hx,la⟩:=sr.get hS;rw[ha]at ha';cases ha';exact⟨a,xs,rfl,.inl (SqL.of hx),fun l hl=>ej sr la post hl⟩
def lC:Fn
 |[.tup us],S=>some (.tup us,S)
 |[.ref l],S=>match S[l]? with
  |some (.lst us)=>some (.tup us,S)
  |_=>none
 |_,_=>none
theorem sH:k6 K (fun xs H Q=>∃p ys,xs=[.ref p]/\((SqL K H p ys/\∀l,H l=none->Q (.ref l) (upd H l (.tup ys)))\/(SqT K H p ys/\Q (.ref p) H))) lC:=by
 intro m S H us vs u S' Q sr i hf post;match us,hf with
 |[.tup ws],hf=>
  cases hf;obtain⟨v,rfl,iv⟩:=i.one;obtain⟨a,xs,rfl,sa,la⟩:=iv.of_tup;exact⟨a,xs,rfl,.inr ⟨sa,post m _ H .refl sr iv⟩⟩
 |[.ref l],hf=>
  obtain⟨v,rfl,iv⟩:=i.one;obtain⟨a,ha,rfl⟩:=iv.of_ref;simp only[lC]at hf;split at hf<;>try cases hf
  rename_i ws hS;obtain⟨a',ha',xs,hx,la⟩:=sr.get hS;rw[ha]at ha';cases ha';exact⟨a,xs,rfl,.inl ⟨SqL.of hx,fun l hl=>oG sr la post hl⟩⟩
def Jw:Fn
 |[.int i],S=>some (.int i,S)
 |[.bl b],S=>some (.int (if b then 1 else 0),S)
 |_,_=>none
theorem HR:k6 K (fun xs H Q=>(∃i,xs=[.int i]/\Q (.int i) H)\/∃k,xs=[.bl k]/\Q (.int (if k then 1 else 0)) H) Jw:=by
 intro m S H us vs u S' Q sr i hf post;match us,hf with
 |[.int j],hf=>
  cases hf;obtain⟨v,rfl,iv⟩:=i.one;exact .inl ⟨j,by rw[iv.of_int],post m _ H .refl sr .int_⟩
 |[.bl j],hf=>
  cases hf;obtain⟨v,rfl,iv⟩:=i.one;exact .inr ⟨j,by rw[iv.of_bl],post m _ H .refl sr .int_⟩
def IK:Fn
 |[.int i,.int j],S=>some (.int (if j<i then j else i),S)
 |_,_=>none
theorem K4:k6 K (fun xs H Q=>∃i j,xs=[.int i,.int j]/\Q (.int (if j<i then j else i)) H) IK:=by
 intro m S H us vs u S' Q sr i hf post;match us,hf with
 |[.int j,.int k],hf=>
  cases hf;obtain⟨v,w,rfl,iv,iw⟩:=i.two;exact⟨j,k,by rw[iv.of_int,iw.of_int],post m _ H .refl sr .int_⟩
def IL:Fn
 |[.int i,.int j],S=>some (.int (if j>i then j else i),S)
 |_,_=>none
theorem K5:k6 K (fun xs H Q=>∃i j,xs=[.int i,.int j]/\Q (.int (if j>i then j else i)) H) IL:=by
 intro m S H us vs u S' Q sr i hf post;match us,hf with
 |[.int j,.int k],hf=>
  cases hf;obtain⟨v,w,rfl,iv,iw⟩:=i.two;exact⟨j,k,by rw[iv.of_int,iw.of_int],post m _ H .refl sr .int_⟩
def sS:List U->Option (List Int)
 |[]=>some []
 |.int i::r=>(sS r).map (i::·)
 |_=>none
def FF:List U->Option (List Bool)
 |[]=>some []
 |.bl i::r=>(FF r).map (i::·)
 |_=>none
theorem oZ:∀{us:List U} {ns:List Int},sS us=some ns->us=ns.map U.int
 |[],ns,h=>by cases h;rfl
 |u::r,ns,h=>by
  cases u<;>simp only[sS]at h<;>try cases h
  obtain⟨ms,e,h⟩:=Z0.mp h;subst h;rw[oZ e];rfl
theorem qK:∀(ns:List Int),sS (ns.map U.int)=some ns
 |[]=>rfl
 |n::r=>by simp[sS,qK r]
theorem tN:∀{us:List U} {ns:List Bool},FF us=some ns->us=ns.map U.bl
 |[],ns,h=>by cases h;rfl
 |u::r,ns,h=>by
  cases u<;>simp only[FF]at h<;>try cases h
  obtain⟨ms,e,h⟩:=Z0.mp h;subst h;rw[tN e];rfl
theorem pW:∀(ns:List Bool),FF (ns.map U.bl)=some ns
 |[]=>rfl
 |n::r=>by simp[FF,pW r]
theorem IsL.ints{m:List Addr}{H:Hp}:∀{xs:List V} {ns:List Int},IsL K m H xs (ns.map U.int)->xs=ns.map V.int
 |xs,[],h=>h.of_nil
 |xs,n::ns,h=>by
  obtain⟨x,r,rfl,i,t⟩:=h.of_cons;rw[IsL.ints t,i.of_int];rfl
theorem IsL.bls{m:List Addr}{H:Hp}:∀{xs:List V} {ns:List Bool},IsL K m H xs (ns.map U.bl)->xs=ns.map V.bl
 |xs,[],h=>h.of_nil
 |xs,n::ns,h=>by
  obtain⟨x,r,rfl,i,t⟩:=h.of_cons;rw[IsL.bls t,i.of_bl];rfl
theorem i9{m:List Addr}{H:Hp}:∀(ns:List Int),IsL K m H (ns.map V.int) (ns.map U.int)
 |[]=>.nil_
 |n::ns=>.cons_ .int_ (i9 ns)
def FV:Fn
 |[.ref l],S=>match S[l]? with
  |some (.lst us)=>(FF us).bind fun bs=>some (.bl (bs.all id),S)
  |_=>none
 |_,_=>none
theorem K8:k6 K (fun xs H Q=>∃(p:Addr) (bs:List Bool),xs=[.ref p]/\SqL K H p (bs.map V.bl)/\Q (.bl (bs.all id)) H) FV:=by
 intro m S H us vs u S' Q sr i hf post;match us,hf with
 |[.ref l],hf=>
  obtain⟨v,rfl,iv⟩:=i.one;obtain⟨a,ha,rfl⟩:=iv.of_ref;simp only[FV]at hf;split at hf<;>try cases hf
  rename_i ws hS;obtain⟨bs,hb,h⟩:=Q0.mp hf;cases h;obtain⟨a',ha',xs,hx,la⟩:=sr.get hS;rw[ha]at ha';cases ha';rw[tN hb]at la;rw[la.bls]at hx;exact⟨a,bs,rfl,SqL.of hx,post m _ H .refl sr .bl_⟩
inductive Ty where
 |non|bool|int|str|tuple|list|dict
def Ty.nm:Ty->String
 |.non=>"NoneType"|.bool=>"bool"|.int=>"int"|.str=>"str"|.tuple=>"tuple"|.list=>"list"|.dict=>"dict"
def tyU:U->Sto->Option Ty
 |.non,_=>some .non|.bl _,_=>some .bool|.int _,_=>some .int|.str _,_=>some .str|.tup _,_=>some .tuple
 |.ref l,S=>match S[l]? with
  |some (.lst _)=>some .list
  |some (.dic _)=>some .dict
  |_=>none
 |.kl _,_=>none
def Ck:Ty->Ty->Bool
 |.non,.non=>true|.bool,.bool=>true|.bool,.int=>true|.int,.int=>true|.str,.str=>true|.tuple,.tuple=>true|.list,.list=>true|.dict,.dict=>true
 |_,_=>false
theorem mI(a b:Ty)(hb:b≠.non):PySem.W.kitOne K (.type a.nm) (.type b.nm)=some (Ck a b):=by
 cases b<;>first|exact absurd rfl hb|(cases a<;>rfl)
abbrev MX(K:Q1):List V->Hp->VK->Prop:=fun xs H Q=>(∃(x:V) (T:String) (t:Q3) (k:Bool),xs=[x,.ty T]/\vA K H x t/\PySem.W.kitOne K t (.type T)=some k/\Q (.bl k) H)\/
 ∃(a:Addr) (ys:List V) (T:String) (k:Bool),xs=[.ref a,.ty T]/\SqT K H a ys/\PySem.W.kitOne K (.type "tuple") (.type T)=some k/\Q (.bl k) H
theorem La:fD X (.builtin "isinstance") (MX X.K):=by
 refine tM.or ?_;rintro pins s σ H xs us Q I r ⟨a,ys,T,k,rfl,sq,e,q⟩;obtain⟨u,w',rfl,ru,rw'⟩:=Am r;cases rw';cases ru;obtain⟨its,rv,ht,hz⟩:=I.tuple sq;obtain⟨o,h1,h2,_⟩:=ht;exact PySem.W.kia_one PySem.W.kitx_tuple I.kIn ⟨o,h1,h2⟩ e (fun z=>nomatch z) fun tk=>⟨.bl k,H,I.tok tk,rfl,q⟩
def zM(T:Ty)(ca:CE):CE:=fun ρ S=>(ca ρ S).bind fun p=>(tyU p.1 p.2).bind fun t=>some (.bl (Ck t T),p.2)
theorem vW{T:Ty}{e eT:QH}{ca:CE}{p pos:Pos}(hT0:T≠.non)(he:QE X e ca)(hT:WE X eT (tC (.ty T.nm)))(hg:Gl X "isinstance")(hm:X.mg "isinstance"=none)
  (h1:QR [e,eT] X.env=(false,eval e X.env)::QR [eT] X.env:=by rfl) (h2:QR [eT] X.env=(false,eval eT X.env)::QR [] X.env:=by rfl) (hpl:(Z9 pos (QR [eT] X.env)).any (·.1)=false:=by rfl) :
  QE X (.Call (.Name "isinstance" p) [e,eT] [] pos) (zM T ca):=(qe La hg hm OG.mV (lP he (lP hT sh h2) h1) (by decide) (by decide) h1 hpl).imp fun σ H Q hz=>lD hz fun m ρ S u S' sr lr hc post=>by
 obtain⟨⟨x,S1⟩,h1,h2⟩:=Q0.mp hc;obtain⟨t,ht,h3⟩:=Q0.mp h2;cases h3;refine⟨m,ρ,S,x,_,sr,lr,h1,fun m1 v1 H1 e1 sr1 i1=>?_⟩;have fin:=post m1 _ H1 e1 sr1 (Is.bl_ (b:=Ck t T));cases x with
 |non=>cases ht;rw[i1.of_non];exact .inl ⟨_,_,_,_,rfl,.non,mI .non T hT0,fin⟩
 |bl b=>cases ht;rw[i1.of_bl];exact .inl ⟨_,_,_,_,rfl,.bl b,mI .bool T hT0,fin⟩
 |int i=>cases ht;rw[i1.of_int];exact .inl ⟨_,_,_,_,rfl,.int i,mI .int T hT0,fin⟩
 |str i=>cases ht;rw[i1.of_str];exact .inl ⟨_,_,_,_,rfl,.str i,mI .str T hT0,fin⟩
 |tup us=>
  cases ht;obtain⟨a,xs,rfl,sa,la⟩:=i1.of_tup;exact .inr ⟨a,xs,_,_,rfl,sa,mI .tuple T hT0,fin⟩
 |ref l=>
  obtain⟨a,ha,rfl⟩:=i1.of_ref;simp only[tyU]at ht;split at ht<;>try cases ht
  ·rename_i ws hS;obtain⟨a',ha',xs,hx,la⟩:=sr1.get hS;rw[ha]at ha';cases ha';exact .inl ⟨_,_,_,_,rfl,.lst hx,mI .list T hT0,fin⟩
  ·rename_i ws hS;obtain⟨a',ha',xs,hx,la⟩:=sr1.get hS;rw[ha]at ha';cases ha';exact .inl ⟨_,_,_,_,rfl,.dK hx,mI .dict T hT0,fin⟩
 |kl ns=>cases ht
def cBM(f:U->List U->Sto->Option (U×Sto))(co:CE)(cr:CA):CE:=fun ρ S=>(co ρ S).bind fun p=>match p.1 with
 |.ref l=>match p.2[l]? with
  |some (.lst _)=>(cr ρ p.2).bind fun q=>f p.1 q.1 q.2
  |_=>none
 |_=>none
def MtP(K:Q1)(r:V->List V->Hp->VK->Prop)(f:U->List U->Sto->Option (U×Sto)):Prop:=
 ∀m S H x v us vs u S' Q,Sr K m S H->Is K m H v x->IsL K m H vs us->f x us S=some (u,S')->kX K m H Q u S'->r v vs H Q
theorem C4{r:V->List V->Hp->VK->Prop}{f:U->List U->Sto->Option (U×Sto)}{co:CE}{cr:CA}(hp:MtP K r f):∀σ H Q,tE K (cBM f co cr) σ H Q->tBM K "list" r (tE K co) (tA K cr) σ H Q:=by
 rintro σ H Q ⟨m,ρ,S,u,S',sr,lr,hc,post⟩;obtain⟨⟨x,S1⟩,h1,h2⟩:=Q0.mp hc;refine⟨m,ρ,S,x,S1,sr,lr,h1,fun m1 v1 H1 e1 sr1 i1=>?_⟩;cases x with
 |ref l=>
  simp only at h2;split at h2<;>try cases h2
  rename_i ws hS;obtain⟨⟨us,S2⟩,h3,h4⟩:=Q0.mp h2;obtain⟨a,ha,rfl⟩:=id i1.of_ref;obtain⟨a',ha',xs,hx,la⟩:=sr1.get hS;rw[ha]at ha';cases ha';exact⟨.inl ⟨rfl,xs,SqL.of hx⟩,m1,ρ,S1,us,S2,sr1,lr.mono e1,h3,fun m2 vs H2 e2 sr2 i2=>hp m2 S2 H2 _ _ us vs u S' Q sr2 (i1.mono e2) i2 h4 (post.mono (e1.trans e2))⟩
 |_=>simp at h2
def dq:U->List U->Sto->Option (U×Sto)
 |.ref l,[u],S=>match S[l]? with
  |some (.lst us)=>if us.length<LIM then some (.non,S.set l (.lst (us++[u])))else none
  |_=>none
 |_,_,_=>none
theorem A4:MtP K xM dq:=by
 intro m S H x v us vs u S' Q sr ix i hf post;match x,us,hf with
 |.ref l,[w],hf=>
  simp only[dq]at hf;split at hf<;>try cases hf
  rename_i ws hS;split at hf<;>try cases hf
  rename_i hl;obtain⟨a,ha,rfl⟩:=ix.of_ref;obtain⟨a',ha',xs,hx,la⟩:=sr.get hS;rw[ha]at ha';cases ha';obtain⟨y,rfl,iy⟩:=i.one;have eu:Ext K m H m (upd H a (.lst (xs++[y]))):=.of (sr.keep ha _);exact⟨a,xs,y,rfl,rfl,hx,Jn (by rw[la.length];exact hl),post m _ _ eu (sr.put ha ⟨_,aL,(la.append (.cons_ iy .nil_)).mono eu⟩) .non_⟩
variable{e:QH}{es:List QH}{co:CE}{cr:CA}{o:QH}{apos cpos:Pos}
theorem dG (ho : QE X o co) (ha : QA X (e :: es) cr) (hbase : attributeBase o "append" X.env (eval o X.env) = eval o X.env := by rfl) (hfew : ((Z9 cpos (QR (e :: es) X.env)).all (fun x => !x.1) && (backToKw cpos (keywordEach [] X.env)).all (fun x => x.1.isSome)
   && decide ((e::es).length+([]:List Keyword).length+(if ([]:List Keyword).isEmpty then 0 else 1)<30))=true:=by rfl) (hline:(apos.endLine == cpos.line)=true:=by rfl) (hs:QR (e::es) X.env=(false,eval e X.env)::QR es X.env:=by rfl) (hplain:(Z9 cpos (QR es X.env)).any (·.1)=false:=by rfl) :
  QE X (.Call (.Attribute o "append" apos) (e::es) [] cpos) (cBM dq co cr):=(Cb PySem.F.plainAttrs_list PySem.F.slot_list_append PySem.F.type_list_append mB ho ha.h hbase hfew hline hs hplain).imp (C4 A4)
end
def Nn:CS:=fun ρ S=>some (.bk,ρ,S)
structure TC(K:Q1)(c:Cl)(NS:List Str):Prop where
 cl:Cls K c.C
 ns:c.ns=NS
 nas:∀f∈NS,js K c.C f
section
variable{K:Q1}{c:Cl}{NS:List Str}
def TC.ix(T:TC K c NS){i:Nat}{f:Str}(h:NS[i]?=some f):c.ns[i]?=some f:=by rw[T.ns];exact h
def TC.na(T:TC K c NS)(i:Nat){f:Str}(h:NS[i]?=some f):js K c.C f:=T.nas f (List.mem_of_getElem? h)
def TC.nm(T:TC K c NS){f:Str}(h:f∉NS):f∉c.ns:=by rw[T.ns];exact h
end
theorem _root_.L2.Fun.pure{P:Qx}{w:Qg}{K:Q1}{mg:Str->Option Q3}{base:Heap}{x qual:Str}{st:Qm}{f:Addr}{fd:ZP}{N ps:List Str}{k:Nat}{c:CS}(F:Fun K x qual st f fd)(S:aV N ps (aA st))
  (hb:∀(cdv:Q3) (A:Qd) (outer:List Env) (s:Q4) (H:Hp) (E:XK),fY k (A.deeper (envOfC qual (aA st) s.heap.objs.size f cdv))->
   WSs (rX CX0 P w K mg base N qual (aA st) f cdv A outer s H E).nox (dP st) (tS K c)):lF P w K mg base CX0 (k+1) f fd ps (Aq K (fnU N.length ps.length c)):=
 Fun.okW F S (fun vs H Q E h=>ot h) fun cdv A outer s H vs Q E hr h=>⟨_,hb cdv A outer s H E hr,sY (X:=(rX CX0 P w K mg base N qual (aA st) f cdv A outer s H E).nox) (body:=[]) (ps:=ps) rfl h⟩
section
variable{X:Cx}{pins:List (Addr×Obj)}{σ:L2.St}{H:Hp}{s:Q4}{h':Heap}
theorem _root_.L2.Inv.turnedL{t':Nat}{ch:List Addr}(I:Inv X pins σ H s)(k:∀b o,b∉ch->s.heap.get? b=some o->h'.get? b=some o)(hf:∀b∈ch,wU X pins H b):Inv X pins σ H { s with heap:=h',toks:=t' }:=by
 have nit:∀b u,H b=some u->b∉ch:=fun b u e z=>by rw[(hf b z).1]at e;cases e
 refine I.step (g':=s.gens) (d':=s.drawn) (ch:=ch) (fun b hb=>⟨(hf b hb).2.2.2.1,(hf b hb).2.1,(hf b hb).2.2.2.2.1,(hf b hb).2.2.2.2.2⟩) (fun b o _ _ hc e _=>k b o hc e) (fun b o _ _ hc e _=>⟨o.slots,k b o hc e⟩) (fun _ _ _ _ n=>n)
  (fun b o hc e=>⟨o,k b o hc e⟩) (fun _ _ e=>e) (fun _ _ _ e=>e) (fun b ps e=>⟨#[],by rw[e];simp⟩) (fun m hm=>?_) (fun b u e=>?_) I.bare
 ·obtain⟨o,es,ep,ho,r⟩:=hm;exact⟨o,es,ep,k _ o (fun z=>(hf _ z).2.1 rfl) ho,r⟩
 ·refine(I.hok b u e).stay (fun c v hc q=>k c v ?_ q) (fun _ q=>q) fun _ _ q=>q;rcases hc with z|z
  ·rw[z];exact nit b u e
  ·exact nit c _ z
end
theorem AI{h:Heap}{ob o:Obj}{e:Addr}(q:(h.push ob).get? e=some o)(ne:e≠h.objs.size):h.get? e=some o:=(Heap.get?_push_ne h e ob ne).symm.trans q
theorem AY{P:Qx}{w:Qg}{H:Hp}{h:Heap}{a:Addr}{x y:V}{u v:Q3}(e:h.get? a=some { cls:=.type "tuple",data:=.seq #[u,v] })(rx:cE x u)(ry:cE y v):dr P w H h a (.tup [x,y]):=
 ⟨by show 2<=QB;decide,[u,v],.cons rx (.cons ry .nil),⟨_,e,rfl,_,rfl⟩⟩
def zu:Qc "enumerate"=some (.type "enumerate"):=rfl
section
variable{X:Cx}{pos:Pos}
def tm(us:List U):List U:=us.zipIdx.map fun p=>.tup [.int p.2,p.1]
def j4:List (CE×CE)->Rho->Sto->Option (List (Key×U)×Sto)
 |[],_,S=>some ([],S)
 |(ck,cv)::r,ρ,S=>(ck ρ S).bind fun p=>(cv ρ p.2).bind fun q=>(lB p.1).bind fun k=>(j4 r ρ q.2).bind fun z=>some ((k,q.1)::z.1,z.2)
def yj(kus:List (Key×U))(au:List (Key×U)):List (Key×U):=kus.foldl (fun acc kv=>eM acc kv.1 kv.2) au
def nY(kus:List (Key×U)):List (Key×U):=yj kus []
def wJ(prs:List (CE×CE)):CE:=fun ρ S=>(j4 prs ρ (S++[.dic []])).bind fun q=>match q.2[S.length]? with
 |some (.dic [])=>some (.ref S.length,q.2.set S.length (.dic (nY q.1)))
 |_=>none
def QP(X:Cx)(pos:Pos)(keys:List (Option QH))(values:List QH)(prs:List (CE×CE)):Prop:=PPs X pos keys values (prs.map fun p=>(tE X.K p.1,tE X.K p.2))
def Cr:QP X pos [] [] []:=EA
theorem fQ{k v:QH}{ks:List (Option QH)}{vs:List QH}{ck cv:CE}{prs:List (CE×CE)}(hk:QE X k ck)(hv:QE X v cv)(hr:QP X pos ks vs prs):QP X pos (some k::ks) (v::vs) ((ck,cv)::prs):=AM hk.h hv.h hr
theorem qx{K:Q1}{ρ:Rho}{σ:L2.St}:∀{prs:List (CE×CE)} {m:List Addr} {S S':Sto} {H:Hp} {kus:List (Key×U)} {R:List (V×V)->Hp->Prop},Sr K m S H->Lr K m H ρ σ->j4 prs ρ S=some (kus,S')->
  (∀m' kvs H',Ext K m H m' H'->Sr K m' S' H'->IsP K m' H' kvs kus->R (kvs.map fun kv=>(kV kv.1,kv.2)) H')->ui (prs.map fun p=>(tE K p.1,tE K p.2)) σ H R
 |[],m,S,S',H,kus,R,sr,lr,hc,k=>by cases hc;exact k m [] H .refl sr .nil_
 |(ck,cv)::r,m,S,S',H,kus,R,sr,lr,hc,k=>by
  obtain⟨⟨x,S1⟩,h1,h⟩:=Q0.mp hc;obtain⟨⟨y,S2⟩,h2,h⟩:=Q0.mp h;obtain⟨kk,h3,h⟩:=Q0.mp h;obtain⟨⟨zs,S3⟩,h4,h⟩:=Q0.mp h;cases h;refine⟨m,ρ,S,x,S1,sr,lr,h1,fun m1 v1 H1 e1 sr1 i1=>⟨m1,ρ,S1,y,S2,sr1,lr.mono e1,h2,fun m2 v2 H2 e2 sr2 i2=>?_⟩⟩;refine qx (prs:=r) sr2 (lr.mono (e1.trans e2)) h4 fun m3 kvs H3 e3 sr3 ip=>?_;have ek:=iS i1 h3;subst ek;exact k m3 ((kk,v2)::kvs) H3 ((e1.trans e2).trans e3) sr3 (.cons_ (i2.mono e3) ip)
theorem nX:∀{prs:List (CE×CE)} {ρ:Rho} {S S':Sto} {kus:List (Key×U)},j4 prs ρ S=some (kus,S')->kus.length=prs.length
 |[],_,_,_,_,h=>by cases h;rfl
 |(ck,cv)::r,ρ,S,S',kus,hc=>by
  obtain⟨⟨x,S1⟩,h1,h⟩:=Q0.mp hc;obtain⟨⟨y,S2⟩,h2,h⟩:=Q0.mp h;obtain⟨kk,h3,h⟩:=Q0.mp h;obtain⟨⟨zs,S3⟩,h4,h⟩:=Q0.mp h;cases h;simp[nX h4]
theorem IsP.merge{K:Q1}{m:List Addr}{H:Hp}{kvs:List (Key×V)}{kus:List (Key×U)}(h:IsP K m H kvs kus):∀(av:List (Key×V)) (au:List (Key×U)),IsP K m H av au->IsP K m H (lu av kvs) (yj kus au):=
 IsP.ind (P:=fun kvs kus=>∀(av:List (Key×V)) (au:List (Key×U)),IsP K m H av au->IsP K m H (lu av kvs) (yj kus au)) (fun _ _ h=>h) (fun k v u kvs kus i _ ih av au ha=>ih _ _ (ha.put (k:=k) i)) h
theorem Ct{keys:List (Option QH)}{values:List QH}{prs:List (CE×CE)}(h:QP X pos keys values prs)(hall:keys.all (·.isSome)=true)(hl:keys.length=values.length)(h0:keys≠[])(h15:keys.length<=15)(hp:prs.length<=15):QE X (.Dict keys values pos) (wJ prs):=
 (Ae h hall hl h0 h15).imp fun σ H Q hz=>lD hz fun m ρ S u S' sr lr hc post=>by
 obtain⟨⟨kus,S1⟩,h1,h2⟩:=Q0.mp hc;simp only at h2;split at h2<;>try cases h2
 rename_i hS;intro p hp';have ee:Ext X.K m H (m++[p]) (upd H p (.dK [])):=.new (cN hp' _);refine qx (sr.new (o:=.dic []) hp' ⟨[],aL,.nil_⟩) (lr.mono ee) h1 fun m1 kvs H1 e1 sr1 ip=>?_;have ha:m1[S.length]?=some p:=e1.get (fK sr.len);obtain⟨a',ha',kv0,hx,ip0⟩:=sr1.get hS;rw[ha]at ha';cases ha';have e0:kv0=[]:=by have:=IsP.length ip0;simpa using this
 subst e0;have eu:Ext X.K m1 H1 m1 (upd H1 p (.dK (lu [] kvs))):=.of (sr1.keep ha _);refine⟨hx,kvs,rfl,by rw[IsP.length ip,nX h1];exact hp,post m1 _ _ ((ee.trans e1).trans eu) (sr1.put (o:=.dic (nY kus)) ha ⟨_,aL,(IsP.merge ip _ _ .nil_).mono eu⟩) (.ref_ ha)⟩
end
theorem qJ:∀{vs:List Q3} {ns:List Int},IntsAre vs ns->bR (ns.map V.int) vs
 |_,_,.nil=>.nil
 |_,_,.cons n t r=>.cons ⟨t,rfl⟩ (qJ r)
theorem ik:∀{ns:List Int} {vs:List Q3},bR (ns.map V.int) vs->IntsAre vs ns
 |[],_,h=>by cases h;exact .nil
 |n::ns,_,.cons r t=>by
  obtain⟨k,rfl⟩:=r;exact .cons n k (ik t)
def xK(K:Q1):List V->Hp->VK->Prop:=fun xs H Q=>∃(p:Addr) (ns:List Int),xs=[.ref p]/\(SqL K H p (ns.map V.int)\/∃kvs,H p=some (.dK kvs)/\kvs.map (·.1)=ns.map Sum.inl)/\ns.length<64/\
 ∀(l:Addr) (ms:List Int),H l=none->ms.Perm ns->ms.Pairwise (·<=·)->Q (.ref l) (upd H l (.lst (ms.map V.int)))
theorem sQ{κ:Type}:∀{kvs:List (κ×V)} {vs:List (κ×Q3)},KV kvs vs->vs.map (·.1)=kvs.map (·.1)
 |_,_,.nil=>rfl
 |_,_,.cons r t=>by rw[QF,QF,sQ t,r.1]
theorem yr{P:Qx}{w:Qg}{H:Hp}{h:Heap}{a:Addr}{ms:List Int}{out:Array Q3}{e:Nat}(g:h.get? a=some (seqObj "list" out e))(hI:IntsAre out.toList ms)(hl:ms.length<64):dr P w H h a (.lst (ms.map V.int)):=
 ⟨by rw[Q8];exact Nat.le_of_lt (QL hl (by unfold QB;decide)),out.toList,e,qJ hI,by rw[Array.toArray_toList];exact g⟩
theorem uN{X:Cx}(hc:X.calm=true):fD X (.builtin "sorted") (xK X.K):=by
 rintro pins s σ H xs us Q I r ⟨p,ns,rfl,src,h64,q⟩;obtain⟨u,rfl,ru⟩:=kC r;cases ru;rcases src with hL|⟨kvs,hD,hk⟩
 ·obtain⟨its,rv,pl,hz⟩:=I.list hL;have hI:=ik rv;have hlen:=rv.length;rw[Q8]at hlen;refine sorted_ints pl.isList hI (by omega) fun out ms a1 a2 a3=>?_;obtain⟨e,ge⟩:=sortedAll_at s.heap its out;have hf:=I.hok.fresh (Nat.le_succ s.heap.objs.size);exact⟨.ref (s.heap.objs.size+1),_,I.laid (t':=s.toks) (fun b o e=>sortedAll_old e) (Nat.le_succ _) (yr ge a1 (by rw[a2.length_eq];exact h64)),rfl,q _ ms hf a2 a3⟩
 ·obtain⟨z,hd,vs,rel,dd⟩:=pM I.hok hD;obtain⟨ep,da⟩:=dd.dictAt;have lkv:kvs.length=ns.length:=by have:=congrArg List.length hk;simpa using this
  have lv:vs.length=ns.length:=by rw[<-Paired.length rel];exact lkv
  have ks:vs.map (·.1)=ns.map Sum.inl:=by
   rw[<-hk];exact sQ rel
  refine Calls.call_function_entry kind_sorted plain_sorted entry_sorted (args_sorted1 _) ?_;unfold Builtin.«sorted»;refine Q2 (m:=checkCount "sorted" 1 1 _) (QJ (Q2 (PySem.W.kdu_collect (PySem.W.kdl_dict (kvs:=vs) (ep:=ep) hd) (show X.A.in1.handled=none from I.ok.hd hc) da (by rw[lv,<-lkv];exact z) fun h1 tk acc up hac=>?_)));have hla:acc.toList.length=ns.length:=by rw[Qk,hac.1,lv]
  have hI:IntsAre acc.toList ns:=by
   have key:∀(i:Nat) (v:Q3),acc.toList[i]?=some v->∃(n:Int) (t:Tok),ns[i]?=some n/\v=Value.int n t:=fun i v e=>by
    obtain⟨k,x,e1,e2⟩:=hac.2 i v (by rw[<-Zv];exact e);have e3:(vs.map (·.1))[i]?=some k:=by rw[Qr,e1];rfl
    rw[ks,Qr]at e3;obtain⟨n,e4,e5⟩:=Z0.mp e3;subst e5;rcases bE (k:=Sum.inl n) e2 with⟨j,t,e6,e7⟩|⟨j,t,e6,e7⟩
    ·cases e6;exact⟨n,t,e4,e7⟩
    ·cases e6
   clear hac;generalize acc.toList=L at key hla;clear ks lv lkv h64 q hk;induction L generalizing ns with
   |nil=>cases ns with
    |nil=>exact .nil
    |cons a b=>simp at hla
   |cons a b ih=>cases ns with
    |nil=>simp at hla
    |cons c d=>
     obtain⟨n,t,e1,e2⟩:=key 0 a (by simp);simp at e1;subst e1;subst e2;exact .cons _ t (ih _ (fun i v e=>by have:=key (i+1) v (by simpa using e);simpa using this) (by simpa using hla))
  refine Q2 (wpAny_newList ?_ (by rw[hla,<-lkv];exact z));have gL:(h1.push { cls:=.type "list",data:=.seq acc.toList.toArray }).get? h1.objs.size=some (seqObj "list" acc.toList.toArray 0):=QM _ rfl;refine Q2 (wpAny_holding (wpAny_call_entry slot_list_sort ⟨_,gL,rfl⟩ entry_list_sort (list_sort_tree (s:={ s with heap:=h1.push { cls:=.type "list",data:=.seq acc.toList.toArray },toks:=tk }) gL hI (by omega) fun out ms a1 a2 a3=>⟨_,rfl,?_⟩) (args_list_sort _)));obtain⟨e,ge⟩:=sortedHeap_at (out:=out) gL;have I1:Inv X pins σ H { s with heap:=h1,toks:=tk }:=I.kept up;have hf:=I1.hok.fresh (QQ h1.objs.size);refine QJ ⟨_,rfl,.ref h1.objs.size,_,Inv.laid (s:={ s with heap:=h1,toks:=tk }) (h':=sortedHeap (h1.push { cls:=.type "list",data:=.seq acc.toList.toArray }) h1.objs.size acc.toList out) (t':=tk) I1 (fun b o g1=>?_) (QQ _) (yr ge a1 (by rw[a2.length_eq];exact h64)),rfl,q _ ms hf a2 a3⟩;have g1:h1.get? b=some o:=g1;have lt1:=QK g1;rw[sortedHeap_old (Qj lt1) (by rw[Zc];exact Nat.lt_succ_of_lt lt1)];exact Q5 _ g1
def c9(ns:List Int):List Int:=ns.mergeSort (fun a b=>decide (a<=b))
def i8(ns:List Int):(c9 ns).Perm ns:=List.mergeSort_perm ..
theorem qj(ns:List Int):(c9 ns).Pairwise (·<=·):=by
 have:=List.pairwise_mergeSort (le:=fun(a b:Int)=>decide (a<=b)) (fun a b c h1 h2=>by simp at h1 h2 ⊢;omega) (fun a b=>by simp;omega) ns;exact this.imp fun h=>by simpa using h
theorem uy{ns ms:List Int}(p:ms.Perm ns)(s:ms.Pairwise (·<=·)):ms=c9 ns:=PySem.W.lks_uniq (p.trans (i8 ns).symm) s (qj ns)
def oW:List (Key×U)->Option (List Int)
 |[]=>some []
 |(.inl n,_)::r=>(oW r).map (n::·)
 |_=>none
theorem oV:∀{kus:List (Key×U)} {ns:List Int},oW kus=some ns->kus.map (·.1)=ns.map Sum.inl
 |[],ns,h=>by cases h;rfl
 |(k,u)::r,ns,h=>by
  cases k<;>simp only[oW]at h<;>try cases h
  obtain⟨ms,e,h⟩:=Z0.mp h;subst h;simp[oV e]
def iT:Fn
 |[.ref l],S=>match S[l]? with
  |some (.lst us)=>(sS us).bind fun ns=>if ns.length<64 then some (.ref S.length,S++[.lst ((c9 ns).map U.int)])else none
  |some (.dic kus)=>(oW kus).bind fun ns=>if ns.length<64 then some (.ref S.length,S++[.lst ((c9 ns).map U.int)])else none
  |_=>none
 |_,_=>none
theorem uH{K:Q1}:k6 K (xK K) iT:=by
 intro m S H us vs u S' Q sr i hf post;match us,hf with
 |[.ref l],hf=>
  obtain⟨v,rfl,iv⟩:=i.one;obtain⟨a,ha,rfl⟩:=iv.of_ref;simp only[iT]at hf;split at hf<;>try cases hf
  ·rename_i ws hS;obtain⟨ns,hn,h⟩:=Q0.mp hf;split at h<;>try cases h
   have hc:ns.length<64:=by assumption
   obtain⟨a',ha',xs,hx,la⟩:=sr.get hS;rw[ha]at ha';cases ha';rw[oZ hn]at la;rw[la.ints]at hx;refine⟨a,ns,rfl,.inl (SqL.of hx),hc,fun p ms hp pm sm=>?_⟩;rw[uy pm sm];exact ej sr (i9 _) post hp
  ·rename_i ws hS;obtain⟨ns,hn,h⟩:=Q0.mp hf;split at h<;>try cases h
   have hc:ns.length<64:=by assumption
   obtain⟨a',ha',kvs,hx,ip⟩:=sr.get hS;rw[ha]at ha';cases ha';refine⟨a,ns,rfl,.inr ⟨kvs,hx,by rw[ip.1,oV hn]⟩,hc,fun p ms hp pm sm=>?_⟩;rw[uy pm sm];exact ej sr (i9 _) post hp
section
variable{ρ:Rho}{S:Sto}{c1 c2:CS}{t ta tb:CT}{ca cb cc:CE}{cr:CA}{u x y:U}{us:List U}{i l:Nat}{f g:U->U->Sto->Option (U×Sto)}{b:Bool}
def L3(S:Sto):Option (Option U)->Option (U×Sto)
 |some (some u)=>some (u,S)
 |_=>none
def C8:ak i ρ S=L3 S (ρ[i]?):=rfl
def wV:L3 S (some (some u))=some (u,S):=rfl
def x_c:cC u ρ S=some (u,S):=rfl
def Lh(f:U->U->Sto->Option (U×Sto))(x:U)(q:U×Sto):=f x q.1 q.2
def L8(f:U->U->Sto->Option (U×Sto))(cb:CE)(ρ:Rho)(p:U×Sto):=(cb ρ p.2).bind (Lh f p.1)
def JS:cOp f ca cb ρ S=(ca ρ S).bind (L8 f cb ρ):=rfl
def Dd:L8 f cb ρ (x,S)=(cb ρ S).bind (Lh f x):=rfl
def Dc:Lh f x (y,S)=f x y S:=rfl
def Ip:U×Sto->Option (Bool×Sto)
 |(.bl b,S)=>some (b,S)
 |_=>none
theorem t8:aU ca ρ S=(ca ρ S).bind Ip:=by
 unfold aU;congr 1;funext p;obtain⟨u,S⟩:=p;cases u<;>rfl
def rZ:Ip (.bl b,S)=some (b,S):=rfl
def Lp(tb:CT)(ρ:Rho)(p:Bool×Sto):=if p.1=true then tb ρ p.2 else some (false,p.2)
def kOr(tb:CT)(ρ:Rho)(p:Bool×Sto):=if p.1=true then some (true,p.2)else tb ρ p.2
def L9(p:Bool×Sto):Option (Bool×Sto):=some (!p.1,p.2)
def KC:C3 ta tb ρ S=(ta ρ S).bind (Lp tb ρ):=rfl
def GI:Lp tb ρ (true,S)=tb ρ S:=rfl
def GH:Lp tb ρ (false,S)=some (false,S):=rfl
def LI:cOr ta tb ρ S=(ta ρ S).bind (kOr tb ρ):=rfl
def JR:kOr tb ρ (true,S)=some (true,S):=rfl
def JQ:kOr tb ρ (false,S)=tb ρ S:=rfl
def JU:wI ta ρ S=(ta ρ S).bind L9:=rfl
def Gm:L9 (b,S)=some (!b,S):=rfl
def Fh(cb:CE)(ρ:Rho):U×Sto->Option (U×Sto)
 |(.bl true,S)=>cb ρ S
 |(.bl false,S)=>some (.bl false,S)
 |_=>none
def Lg(cb:CE)(ρ:Rho):U×Sto->Option (U×Sto)
 |(.bl false,S)=>cb ρ S
 |(.bl true,S)=>some (.bl true,S)
 |_=>none
def Iu:U×Sto->Option (U×Sto)
 |(.bl b,S)=>some (.bl (!b),S)
 |_=>none
theorem GG:BP ca cb ρ S=(ca ρ S).bind (Fh cb ρ):=by
 unfold BP;congr 1;funext p;obtain⟨u,S⟩:=p;cases u with
 |bl b=>cases b<;>rfl
 |_=>rfl
def Dy:Fh cb ρ (.bl true,S)=cb ρ S:=rfl
def Dx:Fh cb ρ (.bl false,S)=some (.bl false,S):=rfl
theorem JP:Jy ca cb ρ S=(ca ρ S).bind (Lg cb ρ):=by
 unfold Jy;congr 1;funext p;obtain⟨u,S⟩:=p;cases u with
 |bl b=>cases b<;>rfl
 |_=>rfl
def Gj:Lg cb ρ (.bl false,S)=cb ρ S:=rfl
def Gi:Lg cb ρ (.bl true,S)=some (.bl true,S):=rfl
theorem Gk:BO ca ρ S=(ca ρ S).bind Iu:=by
 unfold BO;congr 1;funext p;obtain⟨u,S⟩:=p;cases u<;>rfl
def De:Iu (.bl b,S)=some (.bl (!b),S):=rfl
def yG(u:U)(q:List U×Sto):Option (List U×Sto):=some (u::q.1,q.2)
def CF(cr:CA)(ρ:Rho)(p:U×Sto):=(cr ρ p.2).bind (yG p.1)
def Df:aN ρ S=some ([],S):=rfl
def uc:ah ca cr ρ S=(ca ρ S).bind (CF cr ρ):=rfl
def se:CF cr ρ (u,S)=(cr ρ S).bind (yG u):=rfl
def sd:yG u (us,S)=some (u::us,S):=rfl
def L4(p:List U×Sto):Option (U×Sto):=some (.tup p.1,p.2)
def Ma(p:List U×Sto):Option (U×Sto):=some (.ref p.2.length,p.2++[.lst p.1])
def JF:lO cr ρ S=(cr ρ S).bind L4:=rfl
def F9:L4 (us,S)=some (.tup us,S):=rfl
def JZ:km cr ρ S=(cr ρ S).bind Ma:=rfl
def Gp:Ma (us,S)=some (.ref S.length,S++[.lst us]):=rfl
def kCB(f:Fn)(p:List U×Sto):=f p.1 p.2
def Jh{f:Fn}:cCB f cr ρ S=(cr ρ S).bind (kCB f):=rfl
def Dw{f:Fn}:kCB f (us,S)=f us S:=rfl
def Mb(T:Ty)(p:U×Sto):Option (U×Sto):=(tyU p.1 p.2).bind fun t=>some (.bl (Ck t T),p.2)
def J7{T:Ty}:zM T ca ρ S=(ca ρ S).bind (Mb T):=rfl
def Gw{T:Ty}:Mb T (u,S)=(tyU u S).bind fun t=>some (.bl (Ck t T),S):=rfl
def Iq(c2:CS):Out×Rho×Sto->Option (Out×Rho×Sto)
 |(.nx,ρ,S)=>c2 ρ S
 |(o,ρ,S)=>some (o,ρ,S)
def B5:cq ρ S=some (.nx,ρ,S):=rfl
theorem qb:a9 c1 c2 ρ S=(c1 ρ S).bind (Iq c2):=by
 unfold a9;congr 1;funext p;obtain⟨o,ρ,S⟩:=p;cases o<;>rfl
def t9:Iq c2 (.nx,ρ,S)=c2 ρ S:=rfl
def Gf:Iq c2 (.rt u,ρ,S)=some (.rt u,ρ,S):=rfl
def Ge:Iq c2 (.bk,ρ,S)=some (.bk,ρ,S):=rfl
def Gd:Iq c2 (.ct,ρ,S)=some (.ct,ρ,S):=rfl
def Iy(ρ:Rho)(p:U×Sto):Option (Out×Rho×Sto):=some (.nx,ρ,p.2)
def L7(ρ:Rho)(p:U×Sto):Option (Out×Rho×Sto):=some (.rt p.1,ρ,p.2)
def Gy:fZ ca ρ S=(ca ρ S).bind (Iy ρ):=rfl
def Dq:Iy ρ (u,S)=some (.nx,ρ,S):=rfl
def Gh:c8 ca ρ S=(ca ρ S).bind (L7 ρ):=rfl
def Gg:L7 ρ (u,S)=some (.rt u,ρ,S):=rfl
def Li(c1 c2:CS)(ρ:Rho)(p:Bool×Sto):=if p.1=true then c1 ρ p.2 else c2 ρ p.2
def kB:eW t c1 c2 ρ S=(t ρ S).bind (Li c1 c2 ρ):=rfl
def w8:Li c1 c2 ρ (true,S)=c1 ρ S:=rfl
def w6:Li c1 c2 ρ (false,S)=c2 ρ S:=rfl
def kIf(ca cb:CE)(ρ:Rho)(p:Bool×Sto):=if p.1=true then ca ρ p.2 else cb ρ p.2
def MK:cIf t ca cb ρ S=(t ρ S).bind (kIf ca cb ρ):=rfl
def Kd:kIf ca cb ρ (true,S)=ca ρ S:=rfl
def Ka:kIf ca cb ρ (false,S)=cb ρ S:=rfl
def L5(i:Nat)(ρ:Rho)(p:U×Sto):Option (Out×Rho×Sto):=some (.nx,ρ.set i (some p.1),p.2)
def C9:eL i ca ρ S=(ca ρ S).bind (L5 i ρ):=rfl
def wW:L5 i ρ (u,S)=some (.nx,ρ.set i (some u),S):=rfl
def Fg(q:Rho×Sto):Option (Out×Rho×Sto):=some (.nx,q.1,q.2)
def Mc(g:CG)(ρ:Rho)(p:U×Sto):=(g p.1 ρ p.2).bind Fg
def GF{g:CG}:FE ca g ρ S=(ca ρ S).bind (Mc g ρ):=rfl
def GD{g:CG}:Mc g ρ (u,S)=(g u ρ S).bind Fg:=rfl
def GC:Fg (ρ,S)=some (.nx,ρ,S):=rfl
def Kf:gNm i u ρ S=some (ρ.set i (some u),S):=rfl
def Ke{is:List Nat}:gTp is (.tup us) ρ S=(hU is us ρ).bind fun ρ'=>some (ρ',S):=rfl
def GK:hU [] [] ρ=some ρ:=rfl
def GJ{is:List Nat}:hU (i::is) (u::us) ρ=hU is us (ρ.set i (some u)):=rfl
def Ir(ρ:Rho)(S':Sto):Option (Out×Rho×Sto):=some (.nx,ρ,S')
def Le(o v:U)(ρ:Rho)(r:U×Sto):=(mP o r.1 v r.2).bind (Ir ρ)
def Lf(ci:CE)(v:U)(ρ:Rho)(q:U×Sto):=(ci ρ q.2).bind (Le q.1 v ρ)
def kSI(co ci:CE)(ρ:Rho)(p:U×Sto):=(co ρ p.2).bind (Lf ci p.1 ρ)
def MD:eN ca cb cc ρ S=(cc ρ S).bind (kSI ca cb ρ):=rfl
def JL:kSI ca cb ρ (u,S)=(ca ρ S).bind (Lf cb u ρ):=rfl
def JK:Lf cb y ρ (u,S)=(cb ρ S).bind (Le u y ρ):=rfl
def JJ:Le x y ρ (u,S)=(mP x u y S).bind (Ir ρ):=rfl
def JI:Ir ρ S=some (.nx,ρ,S):=rfl
def kIx(y:U)(S:Sto):Option O->Option (U×Sto)
 | some (.lst us)=>(match y with
   |.int i=>(atI us i).bind fun u=>some (u,S)
   |_=>none)
 |some (.dic kus)=>(lB y).bind fun k=>(bq kus k).bind fun u=>some (u,S)
 |some (.fdc _ kus)=>(lB y).bind fun k=>(bq kus k).bind fun u=>some (u,S)
 |_=>none
def J0{j:Int}:fIx (.tup us) (.int j) S=(atI us j).bind fun u=>some (u,S):=rfl
theorem J3:fIx (.ref l) y S=kIx y S S[l]?:=by
 unfold fIx kIx;dsimp only<;>(generalize S[l]?=q;rcases q with _|o<;>first|rfl|(cases o<;>rfl))
def J4{j:Int}:kIx (.int j) S (some (.lst us))=(atI us j).bind fun u=>some (u,S):=rfl
theorem zT{ep:Nat}{kus:List (Key×U)}:kIx y S (some (.fdc ep kus))=(lB y).bind fun k=>(bq kus k).bind fun u=>some (u,S):=rfl
def J6{kus:List (Key×U)}:kIx y S (some (.dic kus))=(lB y).bind fun k=>(bq kus k).bind fun u=>some (u,S):=rfl
def Jo(l:Nat)(i v:U)(S:Sto):Option O->Option Sto
 | some (.lst us)=>(match i with
   |.int k=>(ixN us.length k).bind fun j=>some (S.set l (.lst (us.set j v)))
   |_=>none)
 |some (.dic kus)=>(lB i).bind fun k=>if kus.length<LIM then some (S.set l (.dic (eM kus k v)))else none
 |_=>none
theorem JH:mP (.ref l) x y S=Jo l x y S S[l]?:=by
 unfold mP Jo;dsimp only<;>(generalize S[l]?=q;rcases q with _|o<;>first|rfl|(cases o<;>rfl))
theorem Ga{j:Int}:Jo l (.int j) y S (some (.lst us))=(ixN us.length j).bind fun j=>some (S.set l (.lst (us.set j y))):=rfl
theorem Gb{kus:List (Key×U)}:Jo l x y S (some (.dic kus))=(lB x).bind fun k=>if kus.length<LIM then some (S.set l (.dic (eM kus k y)))else none:=rfl
def at0{α:Type}{a:α}{r:List α}:atI (a::r) 0=some a:=by show atI _ ((0:Nat):Int)=_;exact kW rfl
def at1{α:Type}{a b:α}{r:List α}:atI (a::b::r) 1=some b:=by show atI _ ((1:Nat):Int)=_;exact kW rfl
def at2{α:Type}{a b c:α}{r:List α}:atI (a::b::c::r) 2=some c:=by show atI _ ((2:Nat):Int)=_;exact kW rfl
def at3{α:Type}{a b c d:α}{r:List α}:atI (a::b::c::d::r) 3=some d:=by show atI _ ((3:Nat):Int)=_;exact kW rfl
def ix0{n:Nat}:ixN (n+1) 0=some 0:=by simp[ixN]
def ix1{n:Nat}:ixN (n+1+1) 1=some 1:=by simp[ixN];omega
def ix2{n:Nat}:ixN (n+1+1+1) 2=some 2:=by simp[ixN];omega
def Js(S:Sto):Option O->Option (U×Sto)
 |some (.lst us)=>some (.int us.length,S)
 |some (.dic us)=>some (.int us.length,S)
 |_=>none
theorem Gr:n9 [.ref l] S=Js S S[l]?:=by
 unfold n9 Js;dsimp only<;>(generalize S[l]?=q;rcases q with _|o<;>first|rfl|(cases o<;>rfl))
def Gs:Js S (some (.lst us))=some (.int us.length,S):=rfl
def Gu{kus:List (Key×U)}:Js S (some (.dic kus))=some (.int kus.length,S):=rfl
def Gq:n9 [.tup us] S=some (.int us.length,S):=rfl
variable{j k:Int}
def Dz:p9 (.int j) (.int k) S=some (.int (j+k),S):=rfl
def JG:M8 (.int j) (.int k) S=some (.int (j-k),S):=rfl
def qc(h:zI j k):nF (.int j) (.int k) S=some (.int (j*k),S):=by simp[nF,fI,h]
def GA(h:wO j k):CQ (.int j) (.int k) S=some (.int (j / k),S):=by simp[CQ,fI,h]
def wY(h:0<k):tj (.int j) (.int k) S=some (.int (j % k),S):=by simp[tj,fI,h]
def JY:fLt (.int j) (.int k) S=some (.bl (decide (j<k)),S):=rfl
def MJ:fLe (.int j) (.int k) S=some (.bl (decide (j<=k)),S):=rfl
def ML:fGt (.int j) (.int k) S=some (.bl (decide (k<j)),S):=rfl
def MM:fGe (.int j) (.int k) S=some (.bl (decide (k<=j)),S):=rfl
def Km:fEq (.int j) (.int k) S=some (.bl (decide (j=k)),S):=rfl
def JW:fNe (.int j) (.int k) S=some (.bl (!decide (j=k)),S):=rfl
def Kk{a c:Str}:fEq (.str a) (.str c) S=some (.bl (decide (a=c)),S):=rfl
def JV{a c:Str}:fNe (.str a) (.str c) S=some (.bl (!decide (a=c)),S):=rfl
def Kn{a c:Bool}:fEq (.bl a) (.bl c) S=some (.bl (decide (a=c)),S):=rfl
def JX{a c:Bool}:fNe (.bl a) (.bl c) S=some (.bl (!decide (a=c)),S):=rfl
def kFn:Out×Rho×Sto->Option (U×Sto)
 |(.rt u,_,S)=>some (u,S)
 |(.nx,_,S)=>some (.non,S)
 |_=>none
theorem h8{n k:Nat}(h:us.length=k):fnU n k c1 us S=(c1 (qi n us) S).bind kFn:=by
 unfold fnU;rw[if_pos h];congr 1;funext p;obtain⟨o,ρ,S⟩:=p;cases o<;>rfl
def Kh:kFn (.rt u,ρ,S)=some (u,S):=rfl
def Kg:kFn (.nx,ρ,S)=some (.non,S):=rfl
end
section
variable{ρ:Rho}{S:Sto}{ca cb cc:CE}{cr:CA}{u x:U}{us:List U}{i l:Nat}{b:Bool}{c:Cl}{fus:List (Option U)}{g:Fn}
open Classical in
def Bu(c:Cl)(i:Nat)(S:Sto):Option O->Option (U×Sto)
 |some (.ins c' fus)=>if c'=c then(fus[i]?).join.bind fun u=>some (u,S)else none
 |_=>none
def FU(c:Cl)(i:Nat)(p:U×Sto):=IM c i p.1 p.2
def Kj:cD c i ca ρ S=(ca ρ S).bind (FU c i):=rfl
theorem B9:FU c i (.ref l,S)=Bu c i S S[l]?:=by
 unfold FU IM Bu;dsimp only<;>(generalize S[l]?=q;rcases q with _|o<;>first|rfl|(cases o<;>rfl))
theorem B8:Bu c i S (some (.ins c fus))=((fus[i]?).join).bind fun u=>some (u,S):=by
 unfold Bu;dsimp only;rw[if_pos rfl]
open Classical in
def Jp(c:Cl)(i l:Nat)(v:U)(S:Sto):Option O->Option Sto
 |some (.ins c' fus)=>if c'=c then some (S.set l (.ins c (fus.set i (some v))))else none
 |_=>none
def Jq(c:Cl)(i:Nat)(v:U)(ρ:Rho)(q:U×Sto):=(yV c i q.1 v q.2).bind (Ir ρ)
def L6(c:Cl)(i:Nat)(ca:CE)(ρ:Rho)(p:U×Sto):=(ca ρ p.2).bind (Jq c i p.1 ρ)
def ME:gZ c i ca cb ρ S=(cb ρ S).bind (L6 c i ca ρ):=rfl
def JO:L6 c i ca ρ (u,S)=(ca ρ S).bind (Jq c i u ρ):=rfl
theorem JN:Jq c i u ρ (.ref l,S)=(Jp c i l u S S[l]?).bind (Ir ρ):=by
 unfold Jq yV Jp;dsimp only<;>(generalize S[l]?=q;rcases q with _|o<;>first|rfl|(cases o<;>rfl))
theorem JM:Jp c i l u S (some (.ins c fus))=some (S.set l (.ins c (fus.set i (some u)))):=by
 unfold Jp;dsimp only;rw[if_pos rfl]
def yF(g:Fn)(l:Nat)(q:List U×Sto):=g (.ref l::q.1) q.2
open Classical in
def uX(c:Cl)(g:Fn)(cr:CA)(ρ:Rho)(l:Nat)(S:Sto):Option O->Option (U×Sto)
 |some (.ins c' _)=>if c'=c then(cr ρ S).bind (yF g l)else none
 |_=>none
def Ff(c:Cl)(g:Fn)(cr:CA)(ρ:Rho)(p:U×Sto):=yW c g p.1 p.2 (cr ρ)
def Gn:bJ c g ca cr ρ S=(ca ρ S).bind (Ff c g cr ρ):=rfl
theorem Di:Ff c g cr ρ (.ref l,S)=uX c g cr ρ l S S[l]?:=by
 unfold Ff yW uX;dsimp only<;>(generalize S[l]?=q;rcases q with _|o<;>first|rfl|(cases o<;>rfl))
theorem Dh:uX c g cr ρ l S (some (.ins c fus))=(cr ρ S).bind (yF g l):=by
 unfold uX;dsimp only;rw[if_pos rfl]
def Dg:yF g l (us,S)=g (.ref l::us) S:=rfl
def Iw(n:Nat):U×Sto->Option (U×Sto)
 |(.non,S)=>some (.ref n,S)
 |_=>none
theorem B6:pD c g us S=(g (.ref S.length::us) (S++[.ins c (QY c.ns.length none)])).bind (Iw S.length):=by
 unfold pD;congr 1;funext p;obtain⟨u,S⟩:=p;cases u<;>rfl
def Dj:Iw i (.non,S)=some (.ref i,S):=rfl
def kIn(neg:Bool)(x:U)(S:Sto):Option O->Option (U×Sto)
 |some (.lst us)=>if lK x=true/\us.all lK=true then some (.bl (if neg then !inU x us else inU x us),S)else none
 |some (.dic kus)=>(lB x).bind fun k=>some (.bl (if neg then !(bq kus k).isSome else(bq kus k).isSome),S)
 |some (.fdc _ kus)=>(lB x).bind fun k=>some (.bl (if neg then !(bq kus k).isSome else(bq kus k).isSome),S)
 |_=>none
theorem J8{neg:Bool}:fIn neg x (.ref l) S=kIn neg x S S[l]?:=by
 unfold fIn kIn;dsimp only<;>(generalize S[l]?=q;rcases q with _|o<;>first|rfl|(cases o<;>rfl))
theorem J9{neg:Bool}{kus:List (Key×U)}:kIn neg x S (some (.dic kus))=(lB x).bind fun k=>some (.bl (if neg then !(bq kus k).isSome else(bq kus k).isSome),S):=rfl
def zS{j:Int}:lB (.int j)=some (.inl j):=rfl
def Gv{z:Str}:lB (.str z)=some (.inr z):=rfl
def Ln(f:U->List U->Sto->Option (U×Sto))(x:U)(q:List U×Sto):=f x q.1 q.2
def Lo(f:U->List U->Sto->Option (U×Sto))(cr:CA)(ρ:Rho)(x:U)(S:Sto):Option O->Option (U×Sto)
 |some (.lst _)=>(cr ρ S).bind (Ln f x)
 |_=>none
def kBM(f:U->List U->Sto->Option (U×Sto))(cr:CA)(ρ:Rho):U×Sto->Option (U×Sto)
 |(.ref l,S)=>Lo f cr ρ (.ref l) S S[l]?
 |_=>none
variable{fm:U->List U->Sto->Option (U×Sto)}
theorem MO:cBM fm ca cr ρ S=(ca ρ S).bind (kBM fm cr ρ):=by
 unfold cBM;congr 1;funext p;obtain⟨u,S⟩:=p;cases u<;>try rfl
def Kz:kBM fm cr ρ (.ref l,S)=Lo fm cr ρ (.ref l) S S[l]?:=rfl
def Ky:Lo fm cr ρ x S (some (.lst us))=(cr ρ S).bind (Ln fm x):=rfl
def Kx:Ln fm x (us,S)=fm x us S:=rfl
def Jt(l:Nat)(u:U)(S:Sto):Option O->Option (U×Sto)
 |some (.lst us)=>if us.length<LIM then some (.non,S.set l (.lst (us++[u])))else none
 |_=>none
theorem KA:dq (.ref l) [u] S=Jt l u S S[l]?:=by
 unfold dq Jt;dsimp only<;>(generalize S[l]?=q;rcases q with _|o<;>first|rfl|(cases o<;>rfl))
theorem e8(h:us.length<LIM):Jt l u S (some (.lst us))=some (.non,S.set l (.lst (us++[u]))):=by
 unfold Jt;dsimp only;rw[if_pos h]
def Lj(ku xu:U)(S:Sto):Option O->Option (U×Sto)
 |some (.dic kus)=>(lB ku).bind fun k=>some ((bq kus k).getD xu,S)
 |_=>none
def Lk(l:Nat)(ku:U)(r:U×Sto):=Lj ku r.1 r.2 r.2[l]?
def Ll(l:Nat)(cx:CE)(ρ:Rho)(q:U×Sto):=(cx ρ q.2).bind (Lk l q.1)
def Lm(l:Nat)(ck cx:CE)(ρ:Rho)(S:Sto):Option O->Option (U×Sto)
 |some (.dic _)=>(ck ρ S).bind (Ll l cx ρ)
 |_=>none
def kDG(ck cx:CE)(ρ:Rho):U×Sto->Option (U×Sto)
 |(.ref l,S)=>Lm l ck cx ρ S S[l]?
 |_=>none
theorem MN:wK ca cb cc ρ S=(ca ρ S).bind (kDG cb cc ρ):=by
 unfold wK;congr 1;funext p;obtain⟨u,S⟩:=p;cases u<;>try rfl
def Ku:kDG cb cc ρ (.ref l,S)=Lm l cb cc ρ S S[l]?:=rfl
def Kt{kus:List (Key×U)}:Lm l cb cc ρ S (some (.dic kus))=(cb ρ S).bind (Ll l cc ρ):=rfl
def Ks:Ll l cc ρ (u,S)=(cc ρ S).bind (Lk l u):=rfl
def Kq:Lk l u (x,S)=Lj u x S S[l]?:=rfl
def Ko{kus:List (Key×U)}:Lj u x S (some (.dic kus))=(lB u).bind fun k=>some ((bq kus k).getD x,S):=rfl
def Gz:nN ρ S=some (.ref S.length,S++[.dic []]):=rfl
def kP3(k:Key)(u:U)(z:List (Key×U)×Sto):Option (List (Key×U)×Sto):=some ((k,u)::z.1,z.2)
def kP2(r:List (CE×CE))(ρ:Rho)(x:U)(q:U×Sto):=(lB x).bind fun k=>(j4 r ρ q.2).bind (kP3 k q.1)
def kP1(cv:CE)(r:List (CE×CE))(ρ:Rho)(p:U×Sto):=(cv ρ p.2).bind (kP2 r ρ p.1)
variable{pr:List (CE×CE)}
def MI:j4 [] ρ S=some ([],S):=rfl
def x_p:j4 ((ca,cb)::pr) ρ S=(ca ρ S).bind (kP1 cb pr ρ):=rfl
def MH:kP1 cb pr ρ (u,S)=(cb ρ S).bind (kP2 pr ρ u):=rfl
def MG:kP2 pr ρ x (u,S)=(lB x).bind fun k=>(j4 pr ρ S).bind (kP3 k u):=rfl
def MF{k:Key}{z:List (Key×U)}:kP3 k u (z,S)=some ((k,u)::z,S):=rfl
def kD1(n:Nat)(kus:List (Key×U))(S:Sto):Option O->Option (U×Sto)
 |some (.dic [])=>some (.ref n,S.set n (.dic (nY kus)))
 |_=>none
def kD(n:Nat)(q:List (Key×U)×Sto):=kD1 n q.1 q.2 q.2[n]?
theorem GB:wJ pr ρ S=(j4 pr ρ (S++[.dic []])).bind (kD S.length):=by
 unfold wJ;congr 1
def Du{z:List (Key×U)}:kD i (z,S)=kD1 i z S S[i]?:=rfl
def Ds{z:List (Key×U)}:kD1 i z S (some (.dic []))=some (.ref i,S.set i (.dic (nY z))):=rfl
def F1:lC [.tup us] S=some (.tup us,S):=rfl
def Ld(S:Sto):Option O->Option (U×Sto)
 |some (.lst us)=>some (.tup us,S)
 |_=>none
theorem F7:lC [.ref l] S=Ld S S[l]?:=by
 unfold lC Ld;dsimp only<;>(generalize S[l]?=q;rcases q with _|o<;>first|rfl|(cases o<;>rfl))
def F8:Ld S (some (.lst us))=some (.tup us,S):=rfl
def Dk:q4 [.tup us] S=some (.ref S.length,S++[.lst us]):=rfl
def kLs(S:Sto):Option O->Option (U×Sto)
 |some (.lst us)=>some (.ref S.length,S++[.lst us])
 |_=>none
theorem Dm:q4 [.ref l] S=kLs S S[l]?:=by
 unfold q4 kLs;dsimp only<;>(generalize S[l]?=q;rcases q with _|o<;>first|rfl|(cases o<;>rfl))
def Dp:kLs S (some (.lst us))=some (.ref S.length,S++[.lst us]):=rfl
def Gx:Jw [.bl b] S=some (.int (if b then 1 else 0),S):=rfl
def ga{X:Sto}{n:Nat}:(S++X)[S.length+n]?=X[n]?:=by rw[Qi (Nat.le_add_right _ _),Nat.add_sub_cancel_left]
def ga0{X:Sto}:(S++X)[S.length]?=X[0]?:=ga (n:=0)
theorem gs{X:Sto}{n:Nat}{o:O}:(S++X).set (S.length+n) o=S++X.set n o:=by rw[List.set_append_right _ _ (Nat.le_add_right _ _),Nat.add_sub_cancel_left]
def gs0{X:Sto}{o:O}:(S++X).set S.length o=S++X.set 0 o:=gs (n:=0)
section
variable{ok:Sto->Prop}{gg:CG}{cbd:CS}{ρ0 ρ1:Rho}{S0 S1:Sto}
def gi(h:ok S):dX ok gg cbd [] ρ S=some (.nx,ρ,S):=by unfold dX;rw[if_pos h]
theorem gX(h:ok S)(hg:gg u ρ S=some (ρ0,S0))(hb:cbd ρ0 S0=some (.nx,ρ1,S1)):dX ok gg cbd (u::us) ρ S=dX ok gg cbd us ρ1 S1:=by
 rw[dX];dsimp only;rw[if_pos h,hg,QZ];dsimp only;rw[hb,QZ]
theorem yu(h:ok S)(hg:gg u ρ S=some (ρ0,S0))(hb:cbd ρ0 S0=some (.rt x,ρ1,S1)):dX ok gg cbd (u::us) ρ S=some (.rt x,ρ1,S1):=by
 rw[dX];dsimp only;rw[if_pos h,hg,QZ];dsimp only;rw[hb,QZ]
theorem iU{ce:CE}{ys:List U}(h:ok S)(hg:gg u ρ S=some (ρ0,S0))(he:ce ρ0 S0=some (x,S1))(hl:S1[l]?=some (.lst ys))(hn:ys.length<LIM):gI ok gg ce l (u::us) ρ S=gI ok gg ce l us ρ0 (S1.set l (.lst (ys++[x]))):=by
 rw[gI,if_pos h,hg,QZ];dsimp only;rw[he,QZ];dsimp only;rw[hl];dsimp only;rw[if_pos hn]
def kj{ce:CE}(h:ok S):gI ok gg ce l [] ρ S=some S:=by rw[gI,if_pos h]
end
end
def FX{p:List Q3->Prop}(h:p [])(us:List Q3)(e:us.length=0):p us:=by rw[ZG.mp e];exact h
theorem Ly{n:Nat}{p:List Q3->Prop}(h:∀a us,us.length=n->p (a::us))(us:List Q3)(e:us.length=n+1):p us:=by
 cases us with
 |nil=>cases e
 |cons a us=>exact h a us (Nat.succ.inj e)
def FZ(H:Hp)(a:Addr)(ep:Nat)(ks:List Key):Prop:=∃ob es kvs,H a=some (.frz ob (.dK kvs))/\ob.data=.dict es ep/\kvs.map (·.1)=ks
def Itd(a:Addr)(ep:Nat)(ks:List Key):It:=
 ⟨fun i H=>i<ks.length/\FZ H a ep ks,fun i H x H'=>H'=H/\∃k,ks[i]?=some k/\x=kV k,fun i H=>ks.length<=i/\FZ H a ep ks⟩
theorem u9{P:Qx}{w:Qg}{H:Hp}{h:Heap}{a:Addr}{ob:Obj}{kvs:List (Key×V)}{es:Array DictEntry}{ep:Nat}(ok:HOk P w H h)(e:H a=some (.frz ob (.dK kvs)))(d:ob.data=.dict es ep):∃vs,KV kvs vs/\h.DictAt (bC P w) a vs ep:=by
 obtain⟨e1,_,_,vs,r,o,es',ep',e2,e3,e4,rest⟩:=(show dr P w H h a (.frz ob (.dK kvs))from ok a _ e);rw[e1]at e2;cases e2;rw[d]at e4;cases e4;exact⟨vs,r,ob,es,e1,e3,d,rest⟩
theorem yz{κ:Type}:∀{kvs:List (κ×V)} {vs:List (κ×Q3)} {i:Nat} {k:κ} {v:V},KV kvs vs->kvs[i]?=some (k,v)->∃u,vs[i]?=some (k,u)
 |_,_,i,k,v,.nil,h=>by simp at h
 |_,_,0,k,v,.cons (b:=(k',u)) r t,h=>by
  simp at h;subst h;have:k=k':=r.1;subst this;exact⟨u,by simp⟩
 |_,_,i+1,k,v,.cons r t,h=>by
  obtain⟨u,e⟩:=yz (i:=i) t (by simpa using h);exact⟨u,by simpa using e⟩
theorem yB{k:Key}{u:Q3}(h:oX k u=true):cE (kV k) u:=by
 rcases bE h with⟨i,t,rfl,rfl⟩|⟨i,t,rfl,rfl⟩
 ·exact⟨t,rfl⟩
 ·exact⟨t,rfl⟩
theorem xt{P:Qx}{w:Qg}{K:Q1}{tg:QH}(a it:Addr){ks:List Key}{ep:Nat} :
  FY P w K tg (Itd a ep ks) [it] it (fun n h=>h.IsKeyIter it a n ks.length ep) where
 mem:=by simp
 obj:=fun n h st c hc=>by
  simp only[Qq,Zu,or_false]at hc;subst hc;obtain⟨o,e,_,q⟩:=st;exact⟨o,e,fun v z=>by rw[q]at z;cases z⟩
 keep:=fun n h h' st kp=>Heap.IsKeyIter.at st fun o q=>kp it (by simp) o q
 item:=by
  intro X hP hw hK hc n pins s σ H E Iv hf st hg;subst hP hw hK;obtain⟨hi,ob,es,kvs,hq,d,ek⟩:=hg;obtain⟨vs,rv,da⟩:=u9 Iv.hok hq d;have hl:ks.length=vs.length:=by rw[<-ek,Q8];exact Paired.length rv
  have hi':n<kvs.length:=by rw[<-ek,Q8]at hi;exact hi
  have hx:kvs[n]?=some ((kvs[n]).1,(kvs[n]).2):=Q7 hi';obtain⟨u,hu⟩:=yz rv hx;obtain⟨f0,f1,f2,f3⟩:=hf it (by simp);have st':s.heap.IsKeyIter it a n vs.length ep:=by rw[<-hl];exact st
  refine wpAny_pyNext_dict_item st' da hu fun key h1 hk st1 sb=>⟨key,rfl,?_⟩;have I1:Inv X pins σ H { s with heap:=h1 }:=Iv.turned (t':=s.toks) (fun b o hb e=>(sb.2 b hb).trans e) f0 f1 f3.1 f3.2.1 f3.2.2;have st2:h1.IsKeyIter it a (n+1) ks.length ep:=by rw[hl];exact st1
  obtain⟨o,e,c,q⟩:=id st2;exact BA (s:={ s with heap:=h1 }) e c q (by decide) ⟨kV (kvs[n]).1,H,I1,yB hk,⟨rfl,_,by rw[<-ek,Qr,hx];rfl,rfl⟩,st2,fun b hb=>(hf b hb).1⟩
 done:=by
  intro X hP hw hK hc n pins s σ H E Iv hf st hg;subst hP hw hK;obtain⟨hi,ob,es,kvs,hq,d,ek⟩:=hg;obtain⟨vs,rv,da⟩:=u9 Iv.hok hq d;have hl:ks.length=vs.length:=by rw[<-ek,Q8];exact Paired.length rv
  obtain⟨f0,f1,f2,f3⟩:=hf it (by simp);have st':s.heap.IsKeyIter it a n vs.length ep:=by rw[<-hl];exact st
  exact wpAny_pyNext_dict_end (Iv.ok.hd hc) st' da (by rw[List.getElem?_eq_none_iff];omega) fun h1 eb=>⟨rfl,Iv.turned (t':=s.toks) (fun b o hb e=>eb b o hb e) f0 f1 f3.1 f3.2.1 f3.2.2⟩
 self:=fun _ _ _ _ _ st h=>wpAny_pyIter_keyiter st h
theorem oY{X:Cx}{pins:List (Addr×Obj)}{σ:L2.St}{H:Hp}{s:Q4}{a:Addr}{o u:HO}(I:Inv X pins σ H s)(e:H a=some o)(nt:∀xs,o≠.tup xs)(no:∀x,o≠.own x)(nb:∀ps,o≠.tbl ps)
  (nf:∀ob u,X.H₀ a≠some (.frz ob u)) (new:dr X.prog X.w (upd H a u) s.heap a u):Inv X pins σ (upd H a u) s:=by
 have nn:∀b,H b=none->upd H a u b=none:=fun b q=>by rw[aP (Ne.symm (dQ e q))];exact q
 have ho:∀b x,H b=some (.own x)->upd H a u b=some (.own x):=fun b x q=>by
  rw[aP];exact q;intro z;subst z;rw[e]at q;cases q;exact no _ rfl
 have ht:∀b xs,H b=some (.tup xs)->upd H a u b=some (.tup xs):=fun b x q=>by
  rw[aP];exact q;intro z;subst z;rw[e]at q;cases q;exact nt _ rfl
 refine⟨I.ok,I.os,I.bare,⟨I.base.keep,I.base.slot,fun b ob q1 q2 q3=>nn _ (I.base.free b ob q1 q2 q3),I.base.there,fun b xs q=>ht _ _ (I.base.tups b xs q),fun b ob v q=>?_,fun b ps q=>?_⟩,I.loc,I.cell,nn _ I.free,fun x c q=>nn _ (I.freeC x c q),fun p hp=>?_,fun b v q=>?_,I.len⟩
 ·rw[aP];exact I.base.frzs b ob v q;intro z;subst z;exact nf _ _ q
 ·obtain⟨more,q'⟩:=I.base.tbls b ps q;refine⟨more,?_⟩;rw[aP];exact q';intro z;subst z;rw[e]at q';cases q';exact nb _ rfl
 ·obtain⟨p1,p2,p3⟩:=I.pin p hp;exact⟨p1,nn _ p2,p3⟩
 ·by_cases hb:b=a
  ·subst hb;rw[aL]at q;cases q;exact new
  ·rw[aP hb]at q;exact(I.hok b v q).stay (fun _ _ _ g=>g) (fun c g=>ho c b g) fun c xs g=>ht c xs g
def wN(X:Cx)(a:Addr):Prop:=∀ob u,X.H₀ a≠some (.frz ob u)
def Fp(X:Cx)(tl:TE):TI:=fun σ H R=>tl σ H fun x H1=>∃a kvs,x=.ref a/\H1 a=some (.dK kvs)/\∀ob es ep,wN X a->ob.data=.dict es ep->R (Itd a ep (kvs.map (·.1))) (upd H1 a (.frz ob (.dK kvs)))
theorem si{X:Cx}{tg l:QH}{tl:TE}(hl:WE X l tl):WI X tg l (Fp X tl):=by
 constructor;intro pins s σ H R I h;refine thn (hl.h pins s σ H _ I h) fun v s1 hz=>?_;obtain⟨x,H1,I1,r1,q1⟩:=hz;obtain⟨a,kvs,rfl,hq,q⟩:=q1;cases r1;obtain⟨hz,hs,vs,rv,ob,es,ep,e1,e2,e3,rest⟩:=pM I1.hok hq;have da:s1.heap.DictAt (bC X.prog X.w) a vs ep:=⟨ob,es,e1,e2,e3,rest⟩;have hl:kvs.length=vs.length:=Paired.length rv;have nf:wN X a:=fun ob' u' z=>by have:=I1.base.frzs a ob' u' z;rw[hq]at this;cases this
 have I2:Inv X pins σ (upd H1 a (.frz ob (.dK kvs))) s1:=oY I1 hq (by simp) (by simp) (by simp) nf ⟨e1,hz,hs,vs,rv,ob,es,ep,e1,e2,e3,rest⟩;refine wpAny_pyIter_dict hs da ?_;refine⟨s1.heap.objs.size,[s1.heap.objs.size],_,_,_,rfl,I2.kept (t':=s1.toks) fun b o g=>Q5 _ g,xt a _,⟨_,QM _ rfl,rfl,by rw[Q8,hl];rfl⟩,fun b hb=>?_,q ob es ep nf e3⟩;simp only[Qq,Zu,or_false]at hb;subst hb;exact I2.fpOk (QQ _) (I2.hok.fresh (QQ _))
def FO(X:Cx)(D:zR):zR where
 nx:=fun σ H=>∃a ob kvs,wN X a/\H a=some (.frz ob (.dK kvs))/\D.nx σ (upd H a (.dK kvs))
 rt:=fun v H=>∃a ob kvs,wN X a/\H a=some (.frz ob (.dK kvs))/\D.rt v (upd H a (.dK kvs))
 bk:=fun σ H=>∃a ob kvs,wN X a/\H a=some (.frz ob (.dK kvs))/\D.bk σ (upd H a (.dK kvs))
 ct:=fun σ H=>∃a ob kvs,wN X a/\H a=some (.frz ob (.dK kvs))/\D.ct σ (upd H a (.dK kvs))
theorem j9{X:Cx}{pins:List (Addr×Obj)}{σ:L2.St}{H:Hp}{s:Q4}{a:Addr}{ob:Obj}{kvs:List (Key×V)}(I:Inv X pins σ H s)(nf:wN X a)(e:H a=some (.frz ob (.dK kvs))):Inv X pins σ (upd H a (.dK kvs)) s:=
 oY I e (by simp) (by simp) (by simp) nf (show dr X.prog X.w H s.heap a (.frz ob (.dK kvs))from I.hok a _ e).2
theorem sf{X:Cx}{st:Qm}{t:TS}(h:WS X st t):WS X st (fun D σ H=>t (FO X D) σ H):=by
 constructor;intro pins s σ H D I k;refine thn (h.h pins s σ H _ I k) fun f s1 q=>?_;cases f with
 |next=>obtain⟨σ1,H1,I1,a,ob,kvs,nf,e,r⟩:=q;exact⟨σ1,_,j9 I1 nf e,r⟩
 |brk=>obtain⟨σ1,H1,I1,a,ob,kvs,nf,e,r⟩:=q;exact⟨σ1,_,j9 I1 nf e,r⟩
 |cont=>obtain⟨σ1,H1,I1,a,ob,kvs,nf,e,r⟩:=q;exact⟨σ1,_,j9 I1 nf e,r⟩
 |ret u=>obtain⟨v,σ1,H1,I1,rv,a,ob,kvs,nf,e,r⟩:=q;exact⟨v,σ1,_,j9 I1 nf e,rv,r⟩
def kU:Key->U
 |.inl i=>.int i
 |.inr x=>.str x
theorem CH{K:Q1}{m:List Addr}{H:Hp}(k:Key):Is K m H (kV k) (kU k):=by
 cases k with
 |inl i=>exact .int_
 |inr x=>exact .str_
open Classical in
def uni{α:Type}(F:Nat->Option α):Option α:=if h:∃r,∀n,F n=some r then some h.choose else none
theorem nS{α:Type}{F:Nat->Option α}{r:α}(h:∀n,F n=some r):uni F=some r:=by
 have hx:∃r,∀n,F n=some r:=⟨r,h⟩;unfold uni;rw[dif_pos hx];have:=hx.choose_spec 0;rw[h 0]at this;exact this.symm
theorem oo{α:Type}{F:Nat->Option α}{r:α}(h:uni F=some r)(n:Nat):F n=some r:=by
 unfold uni at h;split at h
 ·rename_i hx;cases h;exact hx.choose_spec n
 ·cases h
def rJ(ce:CE)(g:CG)(cb:CS):CS:=fun ρ S=>(ce ρ S).bind fun p=>match p.1 with
 |.ref l=>match p.2[l]? with
  |some (.dic kus)=>uni fun ep=>(dX (fun S'=>S'[l]?=some (.fdc ep kus)) g cb (kus.map fun q=>kU q.1) ρ (p.2.set l (.fdc ep kus))).bind fun r=>match r.2.2[l]? with
   |some (.fdc _ kus')=>some (r.1,r.2.1,r.2.2.set l (.dic kus'))
   |_=>none
  |_=>none
 |_=>none
theorem yJ{K:Q1}{m:List Addr}{H:Hp}{a:Addr}{l ep:Nat}{kus:List (Key×U)}(ha:m[l]?=some a):zP K (Itd a ep (kus.map (·.1))) m H (kus.map fun q=>kU q.1) (fun S'=>S'[l]?=some (.fdc ep kus)):=by
 intro m2 S2 H2 i e sr hok;obtain⟨a',ha',ob,es,kvs,hx,hd,ip⟩:=sr.get hok;have ha2:=e.get ha;rw[ha2]at ha';cases ha';have hz:FZ H2 a ep (kus.map (·.1)):=⟨ob,es,kvs,hx,hd,ip.1⟩;refine⟨fun u hu=>?_,fun hu=>⟨by simpa using hu,hz⟩⟩;have hi:i<kus.length:=by have:=(Q9.mp hu).1;simpa using this
 refine⟨⟨by simpa using hi,hz⟩,?_⟩;rintro x H3 ⟨rfl,k,hk,rfl⟩;refine⟨.refl,sr,?_⟩;rw[Qr]at hk hu;rw[Q7 hi]at hk hu;cases hk;cases hu;exact CH _
theorem BD{X:Cx}{ce:CE}{g:CG}{cb:CS}:∀D σ H,tS X.K (rJ ce g cb) D σ H->G3 (Fp X (tE X.K ce)) (tG X.K g) (tS X.K cb) (FO X D) σ H:=by
 rintro D σ H ⟨m,ρ,S,o,ρ',S',sr,lr,hc,post⟩;obtain⟨⟨x,S1⟩,h1,h⟩:=Q0.mp hc;refine⟨m,ρ,S,x,S1,sr,lr,h1,fun m1 v1 H1 e1 sr1 i1=>?_⟩;cases x with
 |ref l=>
  simp only at h;split at h<;>try cases h
  rename_i kus hS;obtain⟨a,ha,rfl⟩:=i1.of_ref;obtain⟨a',ha',kvs,hx,ip⟩:=sr1.get hS;rw[ha]at ha';cases ha';refine⟨a,kvs,rfl,hx,fun ob es ep nf hd=>?_⟩;obtain⟨⟨o1,ρ1,S2⟩,h2,h3⟩:=Q0.mp (oo h ep);simp only at h3;split at h3<;>try cases h3
  rename_i ep' kus' hS2;have kp:wR X.K H1 (upd H1 a (.frz ob (.dK kvs))):=sr1.keep ha _;have ee:Ext X.K m1 H1 m1 (upd H1 a (.frz ob (.dK kvs))):=.of kp;have sr2:Sr X.K m1 (S1.set l (.fdc ep kus)) (upd H1 a (.frz ob (.dK kvs))):=sr1.put ha ⟨ob,es,kvs,aL,hd,ip.mono ee⟩;rw[ip.1];refine oT sr2 (lr.mono (e1.trans ee)) (yJ ha) h2 ?_;have back:∀m3 H3,Ext X.K m1 (upd H1 a (.frz ob (.dK kvs))) m3 H3->Sr X.K m3 S2 H3->∃ob' kvs',H3 a=some (.frz ob' (.dK kvs'))/\Ext X.K m3 H3 m3 (upd H3 a (.dK kvs'))/\Sr X.K m3 (S2.set l (.dic kus')) (upd H3 a (.dK kvs')):=fun m3 H3 e3 sr3=>by
   obtain⟨a3,ha3,ob3,es3,kvs3,hx3,hd3,ip3⟩:=sr3.get hS2;rw[e3.get ha]at ha3;cases ha3;have e4:Ext X.K m3 H3 m3 (upd H3 a (.dK kvs3)):=.of (sr3.keep (e3.get ha) _);exact⟨ob3,kvs3,hx3,e4,sr3.put (e3.get ha) ⟨kvs3,aL,ip3.mono e4⟩⟩
  have nxt:∀(R:L2.St->Hp->Prop),ie X.K m H R ρ' (S2.set l (.dic kus'))->ie X.K m1 (upd H1 a (.frz ob (.dK kvs))) (fun σ H=>∃a ob kvs,wN X a/\H a=some (.frz ob (.dK kvs))/\R σ (upd H a (.dK kvs))) ρ' S2:=fun R p m3 σ3 H3 e3 sr3 lr3=>by
   obtain⟨ob3,kvs3,hx3,e4,sr4⟩:=back m3 H3 e3 sr3;exact⟨a,ob3,kvs3,nf,hx3,p m3 σ3 _ (((e1.trans ee).trans e3).trans e4) sr4 (lr3.mono e4)⟩
  cases o with
  |nx=>exact nxt _ post
  |bk=>exact nxt _ post
  |ct=>exact nxt _ post
  | rt v=>
    intro m3 v3 H3 e3 sr3 i3;obtain⟨ob3,kvs3,hx3,e4,sr4⟩:=back m3 H3 e3 sr3;exact⟨a,ob3,kvs3,nf,hx3,post m3 v3 _ (((e1.trans ee).trans e3).trans e4) sr4 (i3.mono e4)⟩
 |_=>cases h
theorem xN{X:Cx}{tg iter:QH}{body:List Qm}{ce:CE}{g:CG}{cb:CS}{pos:Pos}(hp:PassesOwn (Qz X.prog X.w) X.A X.env X.xe)(hc:X.calm=true)(hi:QE X iter ce)(hg:QG X tg g)(hb:QSs X body cb)(hs:∀x,foldedSetIterable iter X.env x=pure x:=by intro _;rfl):QS X (.For tg iter body [] pos) (rJ ce g cb):=
 (sf (sg hp hc (si hi) hg hb hs)).imp BD
end OP
namespace OG
open PySem PySem.Spec PyProof.Rows L2
def xA(wi:TI)(g:TG)(tt:TT)(te:TE)(n:Nat)(caps:List Nat):TE:=fun σ H Q=>wi σ H fun J H1=>∀l,H1 l=none->∃W:Nat->Nat->L2.St->Hp->Prop,(∃m,W 0 m (stC n caps σ) (upd H1 l (.lst [])))/\
 ∀i m σ' H2,W i m σ' H2->(J.stop i H2/\Q (.ref l) H2)\/(J.go i H2/\∃N:L2.St->Hp->Prop,(∀σ'' H',N σ'' H'->∃m',m'<m/\W (i+1) m' σ'' H')/\
  ∀x H3,J.yld i H2 x H3->g x σ' H3 fun σ2 H4=>tt σ2 H4 fun b H5=>match b with
   |true=>te σ2 H5 fun v H6=>∃ys,H6 l=some (.lst ys)/\ys.length<QB/\N σ2 (upd H6 l (.lst (ys++[v])))
   |false=>N σ2 H5)
theorem nM{prog:Qx}{w:Qg}{A:Qd}{R:Result->Q4->Prop}{s:Q4}{elt target iter c:QH}{scope:Zr}{pos:Pos}{it acc:Q3}{env:Env}(I:Nat->Q4->Prop)
  (turn:∀n s,I n s->wpAny (Qz prog w) A (pyNext it) (fun r s₁=>match r with
   |none=>R (.ok .next) s₁
   |some v=>wpAny (Qz prog w) A (letOwnedTupleGo target it v) (fun _ s₁'=>wpAny (Qz prog w) A (assign target env v) (fun _ s₂=>wpAny (Qz prog w) A (PySem.isTrue c env (eval c env)) (fun b s₂'=>match b with
    |true=>wpAny (Qz prog w) A (eval elt env) (fun x s₃=>
     wpAny (Qz prog w) A (call (.builtin "list.append") [acc,x]) (fun _ s₄=>∃m,m<n/\I m s₄) (fun _ _=>False) s₃)
     (fun _ _=>False) s₂'
    |false=>∃m,m<n/\I m s₂') (fun _ _=>False) s₂) (fun _ _=>False) s₁') (fun _ _=>False) s₁) (fun _ _=>False) s)
  (n:Nat) (h:I n s) :
  codeAny (Qz prog w) A (.compLoop (.ListComp elt [⟨target,iter,[c],0⟩] scope pos) 0 it acc env) R s:=by
 refine codeAny_loop rfl I (fun n s hI=>?_) n h;show wpAny _ _ ((compTurn (.ListComp elt [⟨target,iter,[c],0⟩] scope pos) 0 it acc env).onRaise (fun x=>do noteFrame x env;theTreesLotGoes x)) _ _ s;refine wpAny_noted ?_;rw[compTurn_list];refine Q2 (wpAny_standAt (Q2 (Z6 (turn n s hI) (fun r s₁ h₁=>?_) fun _ _ h'=>h'.elim)));cases r with
 |none=>exact QJ h₁
 |some v=>
  refine Q2 (Z6 h₁ (fun _ s₁' h₁'=>?_) fun _ _ h'=>h'.elim);refine Q2 (Z6 h₁' (fun _ s₂ h₂=>?_) fun _ _ h'=>h'.elim);dsimp only;simp only[List.forIn_cons,List.forIn_nil,if_true,bind_assoc,pure_bind];refine Q2 (Z6 h₂ (fun b s₂' h₂'=>?_) fun _ _ h'=>h'.elim);cases b with
  |true=>
   rw[if_pos rfl];exact Q2 (Z6 h₂' (fun x s₃ h₃=>Q2 (Z6 h₃
    (fun _ s₄ h₄=>QJ ⟨rfl,h₄⟩) fun _ _ h'=>h'.elim)) fun _ _ h'=>h'.elim)
  |false=>
   rw[if_neg Q6];exact QJ ⟨rfl,h₂'⟩
theorem wG{X:Cx}{Nc capN tn:List Str}{scope:Zr}{cl:List (Str×Addr)}{n:Nat}{caps:List Nat}{tg iter elt:QH}{pos:Pos}{wi:TI}{g:TG}{te:TE}{tt:TT}{c:QH}
  (hc:X.calm=true) (hi:WI X tg iter wi) (hg:∀s3 H3 fp,WG (cxC X Nc scope cl s3 H3 fp) tg g) (he:∀s3 H3 fp,WE (cxC X Nc scope cl s3 H3 fp) elt te)
  (ht:∀s3 H3 fp,WT (cxC X Nc scope cl s3 H3 fp) c tt)
  (hclos:closureFor scope X.env=pure cl) (hkind:scope.kind=.function) (hnl:∀x∈scope.names,x.2=.local->scope.names.lookup x.1=some .local) (hcell:∀x∈scope.names,x.2≠.cell)
  (hcl:vH X.env cl) (hhas:((relabel scope X.env).names.all fun p=>!(p.2 == .cell||p.2 == .free)||(cl.lookup p.1).isSome)=true)
  (hcap:Paired (Cap X scope cl) caps capN) (hN:Nc=tn++capN) (hn:tn.length=n)
  {use:Option (Q3->Sem Unit)} {pins:List (Addr×Obj)} {σ:L2.St} {H:Hp} {s:Q4} {Q:VK} {Qf:Q3->Q4->Prop} (I:Inv X pins σ H s) (h:xA wi g tt te n caps σ H Q)
  (hend:∀(D C:Addr) (s6:Q4) (H5:Hp) (m:Str->Option Q3),Inv X pins σ H5 s6->s6.heap.Ns C m->H5 C=none->C≠X.env.locals->X.s₀.heap.objs.size<=C->(∀x c,X.env.cells.lookup x=some c->c≠C)->(∀p∈X.pn++pins,p.1≠C)->Q (.ref D) H5->compPost (Qz X.prog X.w) X.A X.xe use Qf (.ref D) C (.ok .next) s6)
  (hs:∀x,foldedSetIterable iter X.env x=pure x) :
  wpAny (Qz X.prog X.w) X.A (comprehension (.ListComp elt [⟨tg,iter,[c],0⟩] scope pos) scope X.env (firstIterPos [⟨tg,iter,[c],0⟩] pos) (newList []) (firstAsync [⟨tg,iter,[c],0⟩]) (firstIter [⟨tg,iter,[c],0⟩] X.env) use) Qf X.xe s:=by
 refine wpAny_comprehension_free (use:=use) (g:=⟨tg,iter,[c],0⟩) (gs:=[]) rfl hs hclos hkind hnl (thn (hi.h pins s σ H _ I h) fun v s1 h1=>thn h1 fun itv s2 h2=>?_);obtain⟨it,fp,tnn,J,H2,rfl,I2,T,st2,f2,hW⟩:=h2;have hD:=I2.fresh;obtain⟨W,⟨m0,w0⟩,turn⟩:=hW _ hD;refine wpAny_newObj_type (wpAny_newFunctionEnv hcell (by intro y hy;simp at hy) (fun h₁ hns₁ hsb₁=>?_) hkind);dsimp only at hns₁ hsb₁ ⊢;have I3:Inv X pins σ (upd H2 s2.heap.objs.size (.lst [])) { s2 with heap:=s2.heap.push { cls:=.type "list",dict:=none,data:=.seq ([]:List Q3).toArray },toks:=s2.toks }:=I2.lnew (its:=[]) .nil (ZZ _);generalize hs3:({ s2 with heap:=s2.heap.push { cls:=.type "list",dict:=none,data:=.seq ([]:List Q3).toArray },toks:=s2.toks }:Q4)=s3 at I3;have es3:s3.heap=s2.heap.push { cls:=.type "list",dict:=none,data:=.seq ([]:List Q3).toArray }:=by rw[<-hs3]
 generalize hDD:s2.heap.objs.size=D at *;have kept:∀b o,s3.heap.get? b=some o->h₁.get? b=some o:=fun b o e=>by
  have lt:=QK e;rw[es3]at lt e;exact hsb₁.extBut b o (Qj lt) (Q5 _ e)
 have old:∀b o,s2.heap.get? b=some o->s3.heap.get? b=some o:=fun b o e=>by rw[es3];exact Q5 _ e
 have ltD:∀b∈fp,b<D:=fun b hb=>by
  obtain⟨o,e,_⟩:=T.obj 0 _ st2 b hb;rw[<-hDD];exact QK e
 have fo:∀b∈fp,b<s3.heap.objs.size:=fun b hb=>by
  obtain⟨o,e,_⟩:=T.obj 0 _ st2 b hb;exact QK (old _ _ e)
 have f3:∀b∈fp,wU X pins (upd H2 D (.lst [])) b:=fun b hb=>by
  refine⟨?_,(f2 b hb).2⟩;rw[aP (Qj (ltD b hb))];exact(f2 b hb).1
 rw[<-es3]at hns₁ hsb₁ ⊢;have Ic:=fun t'=>Inv.comp (h1:=h₁) (t':=t') (Nc:=Nc) (n:=n) I3 hc f3 fo hkind hcl hhas hcap tn hN hn hns₁ kept;have stat:∀{H':Hp},(∀b∈fp,H' b=none)->∀b∈fp,wU (cxC X Nc scope cl s3 (upd H2 D (.lst [])) fp) [] H' b:=fun hn' b hb=>by
  refine⟨hn' b hb,Qj (fo b hb),fun z=>?_,.inl hb,fun x c e=>(f2 b hb).2.2.2.2.1 x c (hcl.look e),fun p hp=>(by simp at hp)⟩;rcases Qq.mp (I3.stkSub b z)with q|q
  ·exact(f2 b hb).2.1 q
  ·exact(f2 b hb).2.2.1 q
 have loop:∀s4:Q4,(∃t',s4={ s3 with heap:=h₁,toks:=t' })->codeAny (Qz X.prog X.w) X.A (.compLoop (.ListComp elt [⟨tg,iter,[c],0⟩] scope pos) 0 (.ref it) (.ref D) (compEnvC scope cl s3.heap.objs.size X.env))
   (compPost (Qz X.prog X.w) X.A X.xe use Qf (.ref D) s3.heap.objs.size) s4:=by
  rintro s4 ⟨t',rfl⟩;refine nM (fun n' s'=>∃i σ' H',Inv (cxC X Nc scope cl s3 (upd H2 D (.lst [])) fp) [] σ' H' s'/\tnn i s'.heap/\(∀b∈fp,H' b=none)/\W i n' σ' H') ?_ m0
   ⟨0,_,_,Ic t',T.keep 0 _ _ st2 fun b hb o e=>kept _ _ (old _ _ e),fun b hb=>(f3 b hb).1,w0⟩
  rintro n' s5 ⟨i,σ5,H5,I5,st5,fr5,w5⟩;rcases turn i n' σ5 H5 w5 with⟨stop,qn⟩|⟨go,N,hN',step⟩
  ·refine thn (T.done (cxC X Nc scope cl s3 (upd H2 D (.lst [])) fp) rfl rfl rfl hc i [] s5 σ5 H5 (fun _ _=>False) I5 (stat fr5) st5 stop) fun r s6 ⟨hr,I6⟩=>?_;subst hr;obtain⟨m,hm,_⟩:=I6.loc;have I7:Inv X pins σ H5 s6:=Inv.call' (ch:=fp) I3 I6.os I6.base I6.hok I6.bare fun b hb=>⟨(f2 b hb).2.2.2.1,(f2 b hb).2.1,(f2 b hb).2.2.2.2.1,(f2 b hb).2.2.2.2.2⟩;exact hend D _ s6 H5 m I7 hm I6.free (Ne.symm (Qj I3.lt)) I3.sz (fun x c e=>by
     obtain⟨v',o,ho,_⟩:=I3.cell x c e;exact Qj (QK ho)) (fun p hp=>Qj (QK (I3.pin p hp).1)) qn
  ·refine thn (T.item (cxC X Nc scope cl s3 (upd H2 D (.lst [])) fp) rfl rfl rfl hc i [] s5 σ5 H5 (fun _ _=>False) I5 (stat fr5) st5 go) fun r s6 ⟨u,hr,h6⟩=>?_;subst hr;refine thn h6 fun _ s7 hz=>?_;obtain⟨x,H7,I7,r7,y7,st7,fr7⟩:=hz;have I7':=I7.pinned (stat fr7) (T.obj _ _ st7);refine thn ((hg s3 (upd H2 D (.lst [])) fp).h _ s7 σ5 H7 x u _ I7' r7 (step x H7 y7)) fun _ s8 hz=>?_;obtain⟨σ8,H8,I8,q8⟩:=hz;have fin:∀{s10:Q4} {H10:Hp},Inv (cxC X Nc scope cl s3 (upd H2 D (.lst [])) fp) _ σ8 H10 s10->N σ8 H10->∃m',m'<n'/\∃i' σ' H',Inv (cxC X Nc scope cl s3 (upd H2 D (.lst [])) fp) [] σ' H' s10/\tnn i' s10.heap/\(∀b∈fp,H' b=none)/\W i' m' σ' H':=fun{s10 H10} I10 q10=>by
    obtain⟨m',hm,w10⟩:=hN' σ8 H10 q10;refine⟨m',hm,i+1,σ8,H10,Inv.unpinned I10,T.keep _ _ _ st7 fun b hb o e=>(Inv.pin I10 (b,o) (QN _ (QN _ (fN hb e)))).1,fun b hb=>?_,w10⟩;obtain⟨o,e,d⟩:=T.obj _ _ st7 b hb;exact(Inv.pin I10 (b,o) (QN _ (QN _ (fN hb e)))).2.1
   refine thn ((ht s3 (upd H2 D (.lst [])) fp).h _ s8 σ8 H8 _ I8 q8) fun b9 s9' h9=>?_;obtain⟨H9',I9',q9'⟩:=h9;cases b9 with
   |false=>exact fin I9' q9'
   |true=>
    refine thn ((he s3 (upd H2 D (.lst [])) fp).h _ s9' σ8 H9' _ I9' q9') fun v9 s9 hz=>?_;obtain⟨x9,H9,I9,r9,ys,hy,hlt,q9⟩:=hz;exact thn (mB (X:=cxC X Nc scope cl s3 (upd H2 D (.lst [])) fp) _ s9 σ8 H9 (.ref D) [x9] (.ref D) [v9] (fun _ H'=>N σ8 H') I9 rfl (.cons r9 .nil) ⟨D,ys,x9,rfl,rfl,hy,hlt,q9⟩) fun _ s10 ⟨_,H10,I10,_,q10⟩=>fin I10 q10
 have e4:∀t',({ s2 with heap:=h₁,toks:=t' }:Q4)={ s3 with heap:=h₁,toks:=t' }:=fun t'=>by rw[<-hs3]
 refine codeAny_compStart_list (loop _ ⟨_,e4 _⟩) (T.self _ 0 _ _ _ (T.keep 0 _ _ st2 fun b hb o e=>kept _ _ (old _ _ e)) (loop _ ⟨_,e4 _⟩))
end OG
namespace OP
open PySem PySem.Spec PyProof.Rows L2 OG
open Classical in
def c6(ok:Sto->Prop)(g:CG)(ct:CT)(ce:CE)(l:Nat):List U->Rho->Sto->Option Sto
 |[],_,S=>if ok S then some S else none
 |u::us,ρ,S=>if ok S then(g u ρ S).bind fun p=>(ct p.1 p.2).bind fun q=>if q.1=true then(ce p.1 q.2).bind fun r=>match r.2[l]? with
  |some (.lst ys)=>if ys.length<LIM then c6 ok g ct ce l us p.1 (r.2.set l (.lst (ys++[r.1])))else none
  |_=>none else c6 ok g ct ce l us p.1 q.2 else none
def Lx(ci:CI)(g:CG)(ct:CT)(ce:CE)(n:Nat)(caps:List Nat):CE:=fun ρ S=>(ci ρ S).bind fun p=>(c6 p.2.1 g ct ce p.2.2.length p.1 (rV n caps ρ) (p.2.2++[.lst []])).bind fun S'=>some (.ref p.2.2.length,S')
section
variable{K:Q1}
theorem tL{g:CG}{ct:CT}{ce:CE}{n:Nat}{caps:List Nat}{J:It}{us:List U}{ok:Sto->Prop}{Q:VK}{m1:List Addr}{H1:Hp}{S1 S':Sto}{ρ:Rho}{σ:L2.St}{l:Addr}(sr1:Sr K m1 S1 H1)(lr:Lr K m1 H1 ρ σ)(ito:zP K J m1 H1 us ok)(hl:H1 l=none)(h2:c6 ok g ct ce S1.length us (rV n caps ρ) (S1++[.lst []])=some S')
  (post:∀m2 H2,Ext K (m1++[l]) (upd H1 l (.lst [])) m2 H2->Sr K m2 S' H2->Q (.ref l) H2) :
  ∃W:Nat->Nat->L2.St->Hp->Prop,(∃m,W 0 m (OG.stC n caps σ) (upd H1 l (.lst [])))/\
 ∀i m σ' H2,W i m σ' H2->(J.stop i H2/\Q (.ref l) H2)\/(J.go i H2/\∃N:L2.St->Hp->Prop,(∀σ'' H',N σ'' H'->∃m',m'<m/\W (i+1) m' σ'' H')/\
  ∀x H3,J.yld i H2 x H3->tG K g x σ' H3 fun σ2 H4=>tT K ct σ2 H4 fun b H5=>match b with
   |true=>tE K ce σ2 H5 fun v H6=>∃ys,H6 l=some (.lst ys)/\ys.length<QB/\N σ2 (upd H6 l (.lst (ys++[v])))
   |false=>N σ2 H5):=by
 have ee:Ext K m1 H1 (m1++[l]) (upd H1 l (.lst [])):=.new (cN hl _);let W:Nat->Nat->L2.St->Hp->Prop:=fun i k σ2 H2=>k=us.length-i/\i<=us.length/\∃m2 ρ2 S2,Ext K (m1++[l]) (upd H1 l (.lst [])) m2 H2/\Sr K m2 S2 H2/\Lr K m2 H2 ρ2 σ2/\c6 ok g ct ce S1.length (us.drop i) ρ2 S2=some S'
 refine⟨W,⟨us.length,by simp,ZZ _,m1++[l],rV n caps ρ,S1++[.lst []],.refl,sr1.new (o:=.lst []) hl ⟨[],aL,.nil_⟩,yt (lr.mono ee),by simpa using h2⟩,?_⟩;rintro i k σ2 H2 ⟨rfl,hi,m2,ρ2,S2,e2,sr2,lr2,hl2⟩;by_cases hlt:i<us.length
 ·have hu:=Q7 hlt;rw[mS hu]at hl2;unfold c6 at hl2;split at hl2
  ·rename_i hok;obtain⟨⟨ρ3,S3⟩,h3,hl2⟩:=Q0.mp hl2;obtain⟨⟨b4,S4⟩,h4,hl2⟩:=Q0.mp hl2;obtain⟨hgo,hy⟩:=(ito m2 S2 H2 i (ee.trans e2) sr2 hok).1 _ hu;refine .inr ⟨hgo,W (i+1) (us.length-(i+1)),fun σ' H' w'=>⟨_,by omega,w'⟩,fun x H3 y=>?_⟩;obtain⟨e3,sr3,ix⟩:=hy x H3 y;refine⟨m2,ρ2,S2,_,ρ3,S3,sr3,lr2.mono e3,ix,h3,fun m4 σ4 H4 e4 sr4 lr4=>⟨m4,ρ3,S3,b4,S4,sr4,lr4,h4,fun m4' H4' e4' sr4'=>?_⟩⟩;cases b4 with
   |false=>
    rw[if_neg Q6]at hl2;exact⟨rfl,hlt,m4',ρ3,_,(((e2.trans e3).trans e4).trans e4'),sr4',lr4.mono e4',hl2⟩
   |true=>
    rw[if_pos rfl]at hl2;obtain⟨⟨u5,S5⟩,h5,hl2⟩:=Q0.mp hl2;simp only at hl2;split at hl2<;>try cases hl2
    rename_i ys hys;split at hl2<;>try cases hl2
    rename_i hlen;refine⟨m4',ρ3,S4,u5,S5,sr4',lr4.mono e4',h5,fun m5 v5 H5 e5 sr5 i5=>?_⟩;obtain⟨a',ha',xs,hx,il⟩:=sr5.get hys;have ha:m5[S1.length]?=some l:=((((e2.trans e3).trans e4).trans e4').trans e5).get (fK sr1.len);rw[ha]at ha';cases ha';have eu:Ext K m5 H5 m5 (upd H5 l (.lst (xs++[v5]))):=.of (sr5.keep ha _);exact⟨xs,hx,Jn (by rw[il.length];exact hlen),rfl,hlt,m5,ρ3,_,(((((e2.trans e3).trans e4).trans e4').trans e5).trans eu),sr5.put (o:=.lst (ys++[u5])) ha ⟨_,aL,(il.append (.cons_ i5 .nil_)).mono eu⟩,(lr4.mono ((e4'.trans e5).trans eu)),hl2⟩
  ·cases hl2
 ·have e:i=us.length:=by omega
  subst e;rw[List.drop_length]at hl2;unfold c6 at hl2;split at hl2
  ·rename_i hok;cases hl2;exact .inl ⟨(ito m2 _ H2 _ (ee.trans e2) sr2 hok).2 (QQ _),post m2 H2 e2 sr2⟩
  ·cases hl2
end
end OP
namespace OP
open PySem PySem.Spec PyProof PyProof.Rows L2 OG
mutual
inductive RdV(K:Q1)(H:Hp):V->PyData->Prop
 |non:RdV K H .non .none
 |bl (b:Bool):RdV K H (.bl b) (.bool b)
 |int (i:Int):RdV K H (.int i) (.int i)
 |str (x:Str):RdV K H (.str x) (.str x)
 |lst {a:Addr} {xs:List V} {ds:List PyData}:SqL K H a xs->zE K H xs ds->RdV K H (.ref a) (.list ds)
 |tup {a:Addr} {xs:List V} {ds:List PyData}:SqT K H a xs->zE K H xs ds->RdV K H (.ref a) (.tuple ds)
inductive zE(K:Q1)(H:Hp):List V->List PyData->Prop
 |nil:zE K H [] []
 |cons {x:V} {xs:List V} {d:PyData} {ds:List PyData}:RdV K H x d->zE K H xs ds->zE K H (x::xs) (d::ds)
end
mutual
inductive Dt(S:Sto):U->PyData->Prop
 |non:Dt S .non .none
 |bl (b:Bool):Dt S (.bl b) (.bool b)
 |int (i:Int):Dt S (.int i) (.int i)
 |str (x:Str):Dt S (.str x) (.str x)
 |lst {l:Nat} {us:List U} {ds:List PyData}:S[l]?=some (.lst us)->DtL S us ds->Dt S (.ref l) (.list ds)
 |tup {us:List U} {ds:List PyData}:DtL S us ds->Dt S (.tup us) (.tuple ds)
inductive DtL(S:Sto):List U->List PyData->Prop
 |nil:DtL S [] []
 |cons {x:U} {xs:List U} {d:PyData} {ds:List PyData}:Dt S x d->DtL S xs ds->DtL S (x::xs) (d::ds)
end
section
variable{X:Cx}{K:Q1}{pins:List (Addr×Obj)}{σ:L2.St}{H:Hp}{s:Q4}
mutual
theorem RdV.reads(I:Inv X pins σ H s):∀{x:V} {d:PyData} {v:Q3},RdV X.K H x d->cE x v->∃as,Reads s.heap v d as
 |_,_,_,.non,r=>by cases r;exact⟨_,.none⟩
 |_,_,_,.bl b,r=>by cases r;exact⟨_,.bool b⟩
 |_,_,_,.int i,r=>by obtain⟨t,rfl⟩:=r;exact⟨_,.int i t⟩
 |_,_,_,.str i,r=>by obtain⟨t,rfl⟩:=r;exact⟨_,.str i t⟩
 |_,_,_,.lst (a:=a) h t,r=>by
  cases r;obtain⟨its,rv,pl,_⟩:=I.list h;obtain⟨as,k⟩:=zE.reads I t rv;obtain⟨o,h1,h2,n,h3⟩:=pl.isList;exact⟨_,.list h1 h2 h3 (by simpa using k)⟩
 |_,_,_,.tup (a:=a) h t,r=>by
  cases r;obtain⟨its,rv,pl,_⟩:=I.tuple h;obtain⟨as,k⟩:=zE.reads I t rv;obtain⟨o,h1,h2,n,h3⟩:=pl;exact⟨_,.tuple h1 h2 h3 (by simpa using k)⟩
theorem zE.reads(I:Inv X pins σ H s):∀{xs:List V} {ds:List PyData} {vs:List Q3},zE X.K H xs ds->bR xs vs->∃as,ReadsAll s.heap vs ds as
 |_,_,_,.nil,r=>by cases r;exact⟨_,.nil⟩
 |_,_,_,.cons h t,.cons r rs=>by
  obtain⟨as,a⟩:=RdV.reads I h r;obtain⟨bs,b⟩:=zE.reads I t rs;exact⟨_,.cons a b⟩
end
mutual
theorem Dt.rd{m:List Addr}{S:Sto}(sr:Sr K m S H):∀{u:U} {d:PyData} {v:V},Dt S u d->Is K m H v u->RdV K H v d
 |_,_,_,.non,i=>by rw[i.of_non];exact .non
 |_,_,_,.bl b,i=>by rw[i.of_bl];exact .bl b
 |_,_,_,.int b,i=>by rw[i.of_int];exact .int b
 |_,_,_,.str b,i=>by rw[i.of_str];exact .str b
 |_,_,_,.lst h t,i=>by
  obtain⟨a,ha,rfl⟩:=i.of_ref;obtain⟨a',ha',xs,hx,il⟩:=sr.get h;rw[ha]at ha';cases ha';exact .lst (SqL.of hx) (DtL.rd sr t il)
 |_,_,_,.tup t,i=>by
  obtain⟨a,xs,rfl,sa,la⟩:=i.of_tup;exact .tup sa (DtL.rd sr t la)
theorem DtL.rd{m:List Addr}{S:Sto}(sr:Sr K m S H):∀{us:List U} {ds:List PyData} {vs:List V},DtL S us ds->IsL K m H vs us->zE K H vs ds
 |_,_,_,.nil,i=>by rw[i.of_nil];exact .nil
 |_,_,_,.cons h t,i=>by
  obtain⟨x,r,rfl,i1,i2⟩:=i.of_cons;exact .cons (Dt.rd sr h i1) (DtL.rd sr t i2)
end
mutual
theorem Dt.uniq{S:Sto}:∀{u:U} {d e:PyData},Dt S u d->Dt S u e->d=e
 |_,_,_,.non,.non=>rfl
 |_,_,_,.bl _,.bl _=>rfl
 |_,_,_,.int _,.int _=>rfl
 |_,_,_,.str _,.str _=>rfl
 |_,_,_,.lst h t,.lst h' t'=>by
  rw[h]at h';cases h';rw[DtL.uniq t t']
 |_,_,_,.tup t,.tup t'=>by rw[DtL.uniq t t']
theorem DtL.uniq{S:Sto}:∀{us:List U} {ds es:List PyData},DtL S us ds->DtL S us es->ds=es
 |_,_,_,.nil,.nil=>rfl
 |_,_,_,.cons h t,.cons h' t'=>by rw[Dt.uniq h h',DtL.uniq t t']
end
def t6(d:PyData):Prop:=d.canLay0=true/\d.depth<=60
def KO(K:Q1)(neg:Bool):R2:=fun x y H Q=>(∃dx dy,RdV K H x dx/\RdV K H y dy/\t6 dx/\t6 dy/\Q (.bl (if neg then !dx.eqv dy else dx.eqv dy)) H)\/
 ∃a b xs ys,x=.ref a/\y=.ref b/\SqL K H a xs/\SqL K H b ys/\xs.length≠ys.length/\Q (.bl neg) H
theorem Cy(hu:X.A.units+64<cLine):OpR X (compareOp .Eq) (KO X.K false):=by
 rintro pins s σ H x y v u Q I rx ry (⟨dx,dy,hx,hy,lx,ly,q⟩|⟨a,b,xs,ys,rfl,rfl,ha,hb,ne,q⟩)
 ·obtain⟨as,hx⟩:=hx.reads I rx;obtain⟨bs,hy⟩:=hy.reads I ry;exact SeqAt.compareEq_reads hx hy lx.1 ly.1 (by have:=lx.2;omega) ⟨.bl _,H,I,rfl,q⟩
 ·cases rx;cases ry;obtain⟨i1,r1,p1,_⟩:=I.list ha;obtain⟨i2,r2,p2,_⟩:=I.list hb;have l1:=r1.length;have l2:=r2.length;exact SeqAt.RcAt.lists_lengths p1.isList p2.isList (by simp;omega) (by omega) X.prog X.w X.xe _ ⟨.bl false,H,I,rfl,q⟩
theorem my(hu:X.A.units+64<cLine):OpR X (compareOp .NotEq) (KO X.K true):=by
 rintro pins s σ H x y v u Q I rx ry (⟨dx,dy,hx,hy,lx,ly,q⟩|⟨a,b,xs,ys,rfl,rfl,ha,hb,ne,q⟩)
 ·obtain⟨as,hx⟩:=hx.reads I rx;obtain⟨bs,hy⟩:=hy.reads I ry;exact SeqAt.compareNe_reads hx hy lx.1 ly.1 (by have:=lx.2;omega) ⟨.bl _,H,I,rfl,q⟩
 ·cases rx;cases ry;obtain⟨i1,r1,p1,_⟩:=I.list ha;obtain⟨i2,r2,p2,_⟩:=I.list hb;have l1:=r1.length;have l2:=r2.length;exact SeqAt.RcNeAt.lists_lengths p1.isList p2.isList (by simp;omega) (by omega) X.prog X.w X.xe _ ⟨.bl true,H,I,rfl,q⟩
def zQ(x y:U)(S:Sto)(b:Bool):Prop:=(∃dx dy,Dt S x dx/\Dt S y dy/\t6 dx/\t6 dy/\b=dx.eqv dy)\/∃l l' us vs,x=.ref l/\y=.ref l'/\S[l]?=some (.lst us)/\S[l']?=some (.lst vs)/\us.length≠vs.length/\b=false
theorem DtL.length{S:Sto}:∀{us:List U} {ds:List PyData},DtL S us ds->us.length=ds.length
 |_,_,.nil=>rfl
 |_,_,.cons _ t=>by rw[QV,QV,DtL.length t]
theorem zQ.mix{l l':Nat}{us vs:List U}{S:Sto}{dx dy:PyData}(h1:Dt S (.ref l) dx)(h2:Dt S (.ref l') dy)(k1:S[l]?=some (.lst us))(k2:S[l']?=some (.lst vs))(ne:us.length≠vs.length):dx.eqv dy=false:=by
 cases h1 with
 |lst a1 t1=>
  cases h2 with
  |lst a2 t2=>
   rw[k1]at a1;cases a1;rw[k2]at a2;cases a2;show PyData.eqvAll _ _=false;exact SeqAt.eqvAll_other_length (by rw[<-t1.length,<-t2.length];exact ne)
theorem zQ.uniq{x y:U}{S:Sto}{b c:Bool}(h:zQ x y S b)(k:zQ x y S c):b=c:=by
 rcases h with⟨dx,dy,h1,h2,_,_,rfl⟩|⟨l,l',us,vs,rfl,rfl,h1,h2,ne,rfl⟩
 ·rcases k with⟨ex,ey,k1,k2,_,_,rfl⟩|⟨l,l',us,vs,rfl,rfl,k1,k2,ne,rfl⟩
  ·rw[h1.uniq k1,h2.uniq k2]
  ·exact zQ.mix h1 h2 k1 k2 ne
 ·rcases k with⟨ex,ey,k1,k2,_,_,rfl⟩|⟨_,_,_,_,_,_,_,_,_,rfl⟩
  ·exact(zQ.mix k1 k2 h1 h2 ne).symm
  ·rfl
open Classical in
def m9(neg:Bool):U->U->Sto->Option (U×Sto):=fun x y S=>if h:∃b,zQ x y S b then some (.bl (if neg then !h.choose else h.choose),S)else none
theorem yX{x y:U}{S:Sto}{b:Bool}(neg:Bool)(h:zQ x y S b):m9 neg x y S=some (.bl (if neg then !b else b),S):=by
 unfold m9;rw[dif_pos ⟨b,h⟩];have e:(⟨b,h⟩:∃b,zQ x y S b).choose=b:=(Exists.choose_spec (⟨b,h⟩:∃b,zQ x y S b)).uniq h;rw[e]
theorem oN{neg:Bool}:OpP K (KO K neg) (m9 neg):=by
 intro m S H x y v w u S' Q sr ix iy hf post;unfold m9 at hf;split at hf<;>try cases hf
 rename_i h;have hb:=h.choose_spec;generalize h.choose=b at hb post;rcases hb with⟨dx,dy,h1,h2,l1,l2,rfl⟩|⟨l,l',us,vs,rfl,rfl,h1,h2,ne,rfl⟩
 ·exact .inl ⟨dx,dy,h1.rd sr ix,h2.rd sr iy,l1,l2,post m _ H .refl sr .bl_⟩
 ·obtain⟨a,ha,rfl⟩:=ix.of_ref;obtain⟨a',ha',xs,hx,la⟩:=sr.get h1;rw[ha]at ha';cases ha';obtain⟨c,hc,rfl⟩:=iy.of_ref;obtain⟨c',hc',ys,hy,lc⟩:=sr.get h2;rw[hc]at hc';cases hc';refine .inr ⟨a,c,xs,ys,rfl,rfl,SqL.of hx,SqL.of hy,by rw[la.length,lc.length];exact ne,?_⟩;have e:(if neg=true then !false else false)=neg:=by cases neg<;>rfl
  have:=post m _ H .refl sr (Is.bl_ (b:=if neg=true then !false else false));rw[e]at this;exact this
def BI(us:List U)(lo hi:Option Int):List U:=(us.drop (HT.sIx us.length 0 lo)).take (HT.sIx us.length us.length hi-HT.sIx us.length 0 lo)
theorem CZ{m:List Addr}{xs:List V}{us:List U}{lo hi:Option Int}(i:IsL K m H xs us):IsL K m H (C0 xs lo hi) (BI us lo hi):=by
 unfold C0 BI;rw[i.length];exact(i.drop _).take _
def FD:Option CE->Rho->Sto->Option (Option Int×Sto)
 |none,_,S=>some (none,S)
 |some c,ρ,S=>(c ρ S).bind fun p=>match p.1 with
  |.int i=>some (some i,p.2)
  |_=>none
def LB(K:Q1)(m:List Addr)(H:Hp)(Q:Option Int->Hp->Prop)(o:Option Int)(S':Sto):Prop:=∀m' H',Ext K m H m' H'->Sr K m' S' H'->Q o H'
def tO(K:Q1)(c:Option CE):TO:=fun σ H Q=>∃m ρ S o S',Sr K m S H/\Lr K m H ρ σ/\FD c ρ S=some (o,S')/\LB K m H Q o S'
abbrev QO(X:Cx)(e:Option QH)(c:Option CE):Prop:=WO X e (tO X.K c)
theorem xQ:QO X none none:=⟨fun pins s σ H Q I hz=>lD hz fun m ρ S o S' sr lr hc post=>z8.h pins s σ H Q I (by cases hc;exact post m H .refl sr)⟩
theorem xP{e:QH}{ca:CE}(h:QE X e ca):QO X (some e) (some ca):=⟨fun pins s σ H Q I hz=>lD hz fun m ρ S o S' sr lr hc post=>(z7 h).h pins s σ H Q I (by
 obtain⟨⟨x,S1⟩,h1,h2⟩:=Q0.mp hc;refine⟨m,ρ,S,x,S1,sr,lr,h1,fun m1 v1 H1 e1 sr1 i1=>?_⟩;cases x<;>simp at h2;obtain⟨rfl,rfl⟩:=h2;exact⟨_,i1.of_int,post m1 H1 e1 sr1⟩)⟩
end
section
variable{X:Cx}{K:Q1}
def Eo(K:Q1):R2:=fun x y H Q=>∃a k xs,x=.ref a/\y=.int k/\SqT K H a xs/\xs≠[]/\1<=k/\xs.length*k.toNat<=1000/\∀q H',C7 H H'->SqT K H' q (QY k.toNat xs).flatten->Q (.ref q) H'
theorem EU:OpR X (binaryOp .Mult) (Eo X.K):=by
 intro pins s σ H x y v u Q I rx ry h;obtain⟨a,k,xs,rfl,rfl,ha,hne,hk,hz,q⟩:=h;cases rx;obtain⟨t,rfl⟩:=ry;obtain⟨its,r1,p1,hzz⟩:=I.tuple ha;have hlen:=r1.length;obtain⟨⟨cls,dd,data,sl⟩,ho,hc,n,hd⟩:=id p1;simp only at hc hd;subst hc hd;have hne':its≠[]:=fun z=>hne (r1.nil_iff.mp z);refine wpAny_binaryOp_repeat_ref (T:="tuple") (U:="int") (by decide) ⟨_,ho,rfl⟩ (fun s'=>typeIs_int s' k t) lH F.fills_int_mul F.slot_int_rmul qr F.slot_int_index.lookup
  (call_meets F.slot_int_rmul (typeIs_int s k t) F.entry_int_rmul (F.args_int_rmul_2 _ _) (nv k t a its.toArray n dd sl) ⟨ho,rfl,⟨_,ho,rfl⟩,?_⟩)
 by_cases k1:k=1
 ·subst k1;refine call_meets F.slot_tuple_mul ⟨_,ho,rfl⟩ F.entry_tuple_mul (F.args_tuple_mul_2 _ _) (sy a its.toArray n dd sl t) ⟨ho,⟨.ref a,H,I,rfl,q a H (.refl _) ?_⟩⟩;simpa using ha
 ·have hfold:List.foldl (fun x1 x2=>x1++x2) #[] (QY k.toNat its.toArray)=(QY k.toNat its).flatten.toArray:=by
   have:=mO its k.toNat [];rw[Qs]at this;exact this
  have hfl:(QY k.toNat its).flatten.length<=1000:=by rw[sP,<-hlen,Nat.mul_comm];exact hz
  have hlp:0<its.length:=List.length_pos_iff.mpr hne';have hk2:k.toNat<=1000:=Qp (Nat.le_mul_of_pos_left _ (by rw[hlen];exact hlp)) hz;have hsz:(its.toArray.size:Int)*k<=1000:=by
   rw[QD,<-hlen];have e:k=((k.toNat:Nat):Int):=by omega
   rw[e,<-Int.natCast_mul];omega
  refine call_meets F.slot_tuple_mul ⟨_,ho,rfl⟩ F.entry_tuple_mul (F.args_tuple_mul_2 _ _) (sx a its.toArray n dd sl k t ?_ ?_ ?_ ?_ ?_ ?_) ⟨ho,?_⟩
  ·simp;omega
  ·simp[hne',k1]
  ·simp[hne'];omega
  ·omega
  ·unfold Builtin.Tuple.tupleTooMany;have:¬(its.toArray.size:Int)*k>(QB:Int):=by
    have:(1000:Nat)<=QB:=ql (QQ _);omega
   simpa using this
  ·rw[hfold,QD];exact ql hfl
  ·rw[hfold];refine⟨.ref s.heap.objs.size,_,I.laid (t':=s.toks) (o:=.tup (QY k.toNat xs).flatten) (fun b ob q=>Q5 _ q) (QQ _) ?_,rfl,q _ _ (gO (I.hok.fresh (QQ _)) _) (SqT.of aL)⟩;exact⟨ql (by rw[sP,Nat.mul_comm];exact hz),_,r1.rep k.toNat,IsTup.new _ _⟩
def qZ:U->U->Sto->Option (U×Sto)
 |.int i,.int j,S=>if zI i j then some (.int (i*j),S)else none
 |.tup us,.int k,S=>if us≠[]/\1<=k/\us.length*k.toNat<=1000 then some (.tup (QY k.toNat us).flatten,S)else none
 |.ref l,.int k,S=>match S[l]? with
  |some (.lst us)=>if 0<=k/\k<=100000/\us.length*k.toNat<=LIM then some (.ref S.length,S++[.lst (QY k.toNat us).flatten])else none
  |_=>none
 |_,_,_=>none
theorem Cz:OpR X (binaryOp .Mult) (fun x y H Q=>rI zI (fun i j=>.int (i*j)) x y H Q\/(Eo X.K x y H Q\/KJ x y H Q)):=j5.or (EU.or HV)
instance {us:List U}:Decidable (us≠[]):=match us with
 |[]=>.isFalse fun h=>h rfl
 |_::_=>.isTrue fun h=>by cases h
theorem Cw:OpP K (fun x y H Q=>rI zI (fun i j=>.int (i*j)) x y H Q\/(Eo K x y H Q\/KJ x y H Q)) qZ:=by
 intro m S H x y v w u S' Q sr ix iy hf post;cases x<;>cases y<;>simp only[qZ]at hf<;>try cases hf
 ·split at hf<;>try cases hf
  rename_i hc;exact .inl ⟨_,_,ix.of_int,iy.of_int,hc,post m _ H .refl sr .int_⟩
 ·rename_i us k;split at hf<;>try cases hf
  rename_i hc;obtain⟨a,xs,rfl,sa,la⟩:=ix.of_tup;refine .inr (.inl ⟨a,k,xs,rfl,iy.of_int,sa,fun z=>hc.1 ?_,hc.2.1,by rw[la.length];exact hc.2.2,fun q H' s sq=>?_⟩)
  ·subst z;have:=la.length;exact ZG.mp this.symm
  ·exact post m _ H' (.of (dw s)) (sr.same s) (.tup_ sq ((la.rep k.toNat).mono (.of (dw s))))
 ·rename_i l k;split at hf<;>try cases hf
  rename_i us hS;split at hf<;>try cases hf
  rename_i hc;obtain⟨a,ha,rfl⟩:=ix.of_ref;obtain⟨a',ha',xs,hx,la⟩:=sr.get hS;rw[ha]at ha';cases ha';exact .inr (.inr ⟨a,k,xs,rfl,iy.of_int,hx,by omega,by omega,lim (by rw[la.length];exact hc.2.2),fun p hp=>ej sr (la.rep k.toNat) post hp⟩)
end
end OP
namespace OG
open PySem PySem.Spec PyProof.Rows L2
theorem CB{C a:Addr}{m:Str->Option Q3}{h h':Heap}(n:h.Ns C m)(s:Heap.SameBut a h h')(ne:C≠a):h'.Ns C m:=by
 obtain⟨o,es,ep,e,r⟩:=n;exact⟨o,es,ep,(s.2 C ne).trans e,r⟩
theorem vI{X:Cx}{Nc capN tn:List Str}{scope:Zr}{cl:List (Str×Addr)}{n:Nat}{caps:List Nat}{tg iter elt:QH}{pos:Pos}{wi:TI}{g:TG}{te:TE}
  (hc:X.calm=true) (hi:WI X tg iter wi) (hg:∀s3 H3 fp,WG (cxC X Nc scope cl s3 H3 fp) tg g) (he:∀s3 H3 fp,WE (cxC X Nc scope cl s3 H3 fp) elt te)
  (hclos:closureFor scope X.env=pure cl) (hkind:scope.kind=.function) (hnl:∀x∈scope.names,x.2=.local->scope.names.lookup x.1=some .local) (hcell:∀x∈scope.names,x.2≠.cell)
  (hcl:vH X.env cl) (hhas:((relabel scope X.env).names.all fun p=>!(p.2 == .cell||p.2 == .free)||(cl.lookup p.1).isSome)=true)
  (hcap:Paired (Cap X scope cl) caps capN) (hN:Nc=tn++capN) (hn:tn.length=n)
  {i₀:Nat} {x₀:Str} {pos₀ pos':Pos} (hN0:X.N.Nodup) (hi0:X.N[i₀]?=some x₀) (hx0:X.env.scope.names.lookup x₀=some .local)
  (hsw:ZT (.ListComp elt [⟨tg,iter,[],0⟩] scope pos) (some (.Name x₀ pos')) pos₀.line X.env=pure true)
  (hs:∀x,foldedSetIterable iter X.env x=pure x:=by intro _;rfl) :
  WS X (.Assign [.Name x₀ pos'] (.ListComp elt [⟨tg,iter,[],0⟩] scope pos) pos₀) (fun D σ H=>Ap wi g te n caps σ H fun v H'=>D.nx (σ.set i₀ (some v)) H'):=by
 constructor;intro pins s σ H Dn I h;rw[exec_Assign_arm];refine Q2 (wpAny_standAt ?_);have hsw':swapsWithSole [.Name x₀ pos'] (.ListComp elt [⟨tg,iter,[],0⟩] scope pos) pos₀.line X.env=pure true:=hsw;rw[hsw'];refine Q2 (QJ ?_);rw[if_pos rfl,arm_evalThenUse_ListComp];refine Q2 (Q2 (vt (Qf:=fun _ s'=>wpAny (Qz X.prog X.w) X.A (pure ()) (fun _ s'=>wpAny (Qz X.prog X.w) X.A (pure Flow.next) (SP X pins Dn) X.xe s') X.xe s') hc hi hg he hclos hkind hnl hcell hcl hhas hcap hN hn I h (fun D C s6 H5 m I7 hm fr nl sz cn pn qn=>?_) hs));show wpAny _ _ (assign (.Name x₀ pos') X.env (.ref D)) _ _ s6;rw[arm_assign_Name];refine Q2 (wpAny_standAt (wpAny_bindName (l8 (v:=.ref D) I7 hN0 hi0 (.inl hx0) rfl (fun s7 I7' hsb=>?_) (.inr hx0))));obtain⟨a7,hsb,ha7⟩:=hsb;have cNe:C≠a7:=by
  rcases ha7 with z|z
  ·rw[z];exact nl
  ·exact Ne.symm (cn _ _ z)
 refine⟨m,CB hm hsb cNe,fun h' hs'=>QJ (QJ ⟨_,H5,?_,qn⟩)⟩;exact I7'.turned (t':=s7.toks) (it:=C) (fun b o hb e=>hs'.extBut b o hb e) fr nl (.inr sz) cn pn
theorem qd{X:Cx}{Nc capN tn:List Str}{scope:Zr}{cl:List (Str×Addr)}{n:Nat}{caps:List Nat}{tg iter elt:QH}{pos:Pos}{wi:TI}{g:TG}{te:TE}{tt:TT}{c:QH}
  (hc:X.calm=true) (hi:WI X tg iter wi) (hg:∀s3 H3 fp,WG (cxC X Nc scope cl s3 H3 fp) tg g) (he:∀s3 H3 fp,WE (cxC X Nc scope cl s3 H3 fp) elt te)
  (ht:∀s3 H3 fp,WT (cxC X Nc scope cl s3 H3 fp) c tt)
  (hclos:closureFor scope X.env=pure cl) (hkind:scope.kind=.function) (hnl:∀x∈scope.names,x.2=.local->scope.names.lookup x.1=some .local) (hcell:∀x∈scope.names,x.2≠.cell)
  (hcl:vH X.env cl) (hhas:((relabel scope X.env).names.all fun p=>!(p.2 == .cell||p.2 == .free)||(cl.lookup p.1).isSome)=true)
  (hcap:Paired (Cap X scope cl) caps capN) (hN:Nc=tn++capN) (hn:tn.length=n)
  {i₀:Nat} {x₀:Str} {pos₀ pos':Pos} (hN0:X.N.Nodup) (hi0:X.N[i₀]?=some x₀) (hx0:X.env.scope.names.lookup x₀=some .local)
  (hsw:ZT (.ListComp elt [⟨tg,iter,[c],0⟩] scope pos) (some (.Name x₀ pos')) pos₀.line X.env=pure true)
  (hs:∀x,foldedSetIterable iter X.env x=pure x:=by intro _;rfl) :
  WS X (.Assign [.Name x₀ pos'] (.ListComp elt [⟨tg,iter,[c],0⟩] scope pos) pos₀) (fun D σ H=>xA wi g tt te n caps σ H fun v H'=>D.nx (σ.set i₀ (some v)) H'):=by
 constructor;intro pins s σ H Dn I h;rw[exec_Assign_arm];refine Q2 (wpAny_standAt ?_);have hsw':swapsWithSole [.Name x₀ pos'] (.ListComp elt [⟨tg,iter,[c],0⟩] scope pos) pos₀.line X.env=pure true:=hsw;rw[hsw'];refine Q2 (QJ ?_);rw[if_pos rfl,arm_evalThenUse_ListComp];refine Q2 (Q2 (wG (Qf:=fun _ s'=>wpAny (Qz X.prog X.w) X.A (pure ()) (fun _ s'=>wpAny (Qz X.prog X.w) X.A (pure Flow.next) (SP X pins Dn) X.xe s') X.xe s') hc hi hg he ht hclos hkind hnl hcell hcl hhas hcap hN hn I h (fun D C s6 H5 m I7 hm fr nl sz cn pn qn=>?_) hs));show wpAny _ _ (assign (.Name x₀ pos') X.env (.ref D)) _ _ s6;rw[arm_assign_Name];refine Q2 (wpAny_standAt (wpAny_bindName (l8 (v:=.ref D) I7 hN0 hi0 (.inl hx0) rfl (fun s7 I7' hsb=>?_) (.inr hx0))));obtain⟨a7,hsb,ha7⟩:=hsb;have cNe:C≠a7:=by
  rcases ha7 with z|z
  ·rw[z];exact nl
  ·exact Ne.symm (cn _ _ z)
 refine⟨m,CB hm hsb cNe,fun h' hs'=>QJ (QJ ⟨_,H5,?_,qn⟩)⟩;exact I7'.turned (t':=s7.toks) (it:=C) (fun b o hb e=>hs'.extBut b o hb e) fr nl (.inr sz) cn pn
end OG
namespace OP
open PySem PySem.Spec PyProof.Rows L2 OG
section
variable{X:Cx}{K:Q1}
theorem vS{i₀:Nat}{x₀:Str}{pos₀ pos':Pos}{Nc capN tn:List Str}{scope:Zr}{cl:List (Str×Addr)}{n:Nat}{caps:List Nat}{tg iter elt:QH}{pos:Pos}{ci:CI}{g:CG}{ce:CE}
  (hc:X.calm=true) (hi:QI X tg iter ci) (hg:∀s3 H3 fp,WG (cxC X Nc scope cl s3 H3 fp) tg (tG X.K g)) (he:∀s3 H3 fp,WE (cxC X Nc scope cl s3 H3 fp) elt (tE X.K ce))
  (hclos:closureFor scope X.env=pure cl) (hkind:scope.kind=.function) (hnl:∀x∈scope.names,x.2=.local->scope.names.lookup x.1=some .local) (hcell:∀x∈scope.names,x.2≠.cell)
  (hcl:vH X.env cl) (hhas:((relabel scope X.env).names.all fun p=>!(p.2 == .cell||p.2 == .free)||(cl.lookup p.1).isSome)=true)
  (hcap:Paired (Cap X scope cl) caps capN) (hN:Nc=tn++capN) (hn:tn.length=n)
  (hN0:X.N.Nodup) (hi0:X.N[i₀]?=some x₀) (hx0:X.env.scope.names.lookup x₀=some .local)
  (hsw:ZT (.ListComp elt [⟨tg,iter,[],0⟩] scope pos) (some (.Name x₀ pos')) pos₀.line X.env=pure true)
  (hs:∀x,foldedSetIterable iter X.env x=pure x:=by intro _;rfl) :
  QS X (.Assign [.Name x₀ pos'] (.ListComp elt [⟨tg,iter,[],0⟩] scope pos) pos₀) (eL i₀ (gK ci g ce n caps)):=(vI hc hi hg he hclos hkind hnl hcell hcl hhas hcap hN hn hN0 hi0 hx0 hsw hs).imp fun D σ H hz=>ve hz fun m ρ S o ρ' S' sr lr hc post=>by
 obtain⟨⟨u,S1⟩,h1,h2⟩:=Q0.mp hc;cases h2;exact vq _ _ _ ⟨m,ρ,S,u,_,sr,lr,h1,fun m1 v1 H1 e1 sr1 i1=>post m1 _ H1 e1 sr1 ((lr.mono e1).set i₀ i1)⟩
end
end OP
namespace OP
open PySem PySem.Spec PyProof PyProof.Rows L2 OG
section
variable{X:Cx}{K:Q1}
def Jz(ca:CE):CE:=fun ρ S=>(ca ρ S).bind fun p=>match p.1 with
 |.int i=>some (.int (-i),p.2)
 |_=>none
theorem GU:UnR X (unaryOp .USub) (fun x H Q=>∃i,x=.int i/\Q (.int (-i)) H):=by
 rintro pins s σ H x v Q I rx ⟨i,rfl,q⟩;obtain⟨t,rfl⟩:=rx;exact PyProof.Rows.neg_int ⟨.int (-i),H,I.tok _,⟨_,rfl⟩,q⟩
theorem KR{a:QH}{ca:CE}{pos:Pos}(ha:QE X a ca):QE X (.UnaryOp .USub a pos) (Jz ca):=(GO GU ha).imp fun σ H Q hz=>lD hz fun m ρ S u S' sr lr hc post=>by
 obtain⟨⟨x,S1⟩,h1,h2⟩:=Q0.mp hc;refine⟨m,ρ,S,x,S1,sr,lr,h1,fun m1 v1 H1 e1 sr1 i1=>?_⟩;cases x<;>simp at h2;obtain⟨rfl,rfl⟩:=h2;exact⟨_,i1.of_int,post m1 _ H1 e1 sr1 .int_⟩
def mQ:U->List U->Sto->Option (U×Sto)
 |.ref l,[.int i],S=>match S[l]? with
  |some (.lst us)=>if 0<=i/\i<us.length/\us.length<=LIM then(us[i.toNat]?).bind fun u=>some (u,S.set l (.lst (us.eraseIdx i.toNat)))else none
  |_=>none
 |_,_,_=>none
theorem ER:MtP K Cq mQ:=by
 intro m S H x v us vs u S' Q sr ix i hf post;match x,us,hf with
 |.ref l,[.int k],hf=>
  simp only[mQ]at hf;split at hf<;>try cases hf
  rename_i ws hS;split at hf<;>try cases hf
  rename_i hk;obtain⟨w,hw,h⟩:=Q0.mp hf;cases h;obtain⟨a,ha,rfl⟩:=ix.of_ref;obtain⟨a',ha',xs,hx,la⟩:=sr.get hS;rw[ha]at ha';cases ha';obtain⟨y,hy,iy⟩:=la.getD hw;obtain⟨z,rfl,iz⟩:=i.one;have eu:Ext K m H m (upd H a (.lst (xs.eraseIdx k.toNat))):=.of (sr.keep ha _);have hL:ws.length<=100000:=hk.2.2;exact⟨a,xs,k,k.toNat,y,rfl,by rw[iz.of_int],hx,by omega,by omega,seqIndex_of hk.1 (by rw[la.length];exact hk.2.1),hy,post m _ _ eu (sr.put ha ⟨_,aL,(la.erase _).mono eu⟩) (iy.mono eu)⟩
variable{e:QH}{es:List QH}{co:CE}{cr:CA}{o:QH}{apos cpos:Pos}
theorem xS (ho : QE X o co) (ha : QA X (e :: es) cr) (hbase : attributeBase o "pop" X.env (eval o X.env) = eval o X.env := by rfl) (hfew : ((Z9 cpos (QR (e :: es) X.env)).all (fun x => !x.1) && (backToKw cpos (keywordEach [] X.env)).all (fun x => x.1.isSome)
   && decide ((e::es).length+([]:List Keyword).length+(if ([]:List Keyword).isEmpty then 0 else 1)<30))=true:=by rfl) (hline:(apos.endLine == cpos.line)=true:=by rfl) (hs:QR (e::es) X.env=(false,eval e X.env)::QR es X.env:=by rfl) (hplain:(Z9 cpos (QR es X.env)).any (·.1)=false:=by rfl) :
  QE X (.Call (.Attribute o "pop" apos) (e::es) [] cpos) (cBM mQ co cr):=(Cb PySem.F.plainAttrs_list PySem.F.slot_list_pop PySem.F.type_list_pop A9 ho ha.h hbase hfew hline hs hplain).imp (C4 ER)
theorem BX(bs:List Bool):(Qa bs.length).any (fun i=>(bs[i]?).getD false)=bs.any id:=by
 rw[ZK,Zz,Zz];constructor
 ·rintro⟨i,hi,h⟩;have hi':=ZJ.mp hi;rw[Q7 hi',Zq]at h;exact⟨_,Zb hi',h⟩
 ·rintro⟨b,hb,h⟩;obtain⟨i,hi,e⟩:=List.mem_iff_getElem.mp hb;refine⟨i,ZJ.mpr hi,?_⟩;rw[Q7 hi,Zq,e];exact h
theorem pR(hc:X.calm=true):fD X (.builtin "any") (fun xs H Q=>∃(p:Addr) (bs:List Bool),xs=[.ref p]/\SqL X.K H p (bs.map V.bl)/\Q (.bl (bs.any id)) H):=by
 intro pins s σ H xs us Q I r h;obtain⟨p,bs,rfl,hq,q⟩:=h;obtain⟨u,rfl,rx⟩:=kC r;cases rx;obtain⟨its,rv,pl,hz⟩:=I.list hq;have hlen:=rv.length;rw[Q8]at hlen;refine call_any_walk (wpAny_pyIter_list pl.isList ?_);have lt:p<s.heap.objs.size:=by obtain⟨o,e,_⟩:=pl.isList;exact QK e
 refine⟨s.heap.objs.size,_,_,_,_,_,fun i=>(bs[i]?).getD false,rfl,Walks.list (show X.A.in1.handled=none from I.ok.hd hc) s.heap.objs.size p (Qj lt) its.toArray,⟨⟨_,QM _ rfl,rfl,rfl⟩,pl.isList.at fun o e=>Q5 _ e⟩,?_,fun h' tk hk=>?_⟩
 ·intro i v s' Q' E' hP hQ;have hP':its.toArray[i]?=some v:=hP;obtain⟨b,e1,e2⟩:=sj rv (by simpa using hP');subst e2;dsimp only at hQ;rw[e1,Zq]at hQ;exact wpAny_truthy_bool hQ
 ·have e:(Qa its.toArray.size).any (fun i=>(bs[i]?).getD false)=bs.any id:=by
   rw[QD,<-hlen];exact BX bs
  rw[e];exact⟨.bl (bs.any id),H,I.kept fun b o e=>hk b o (yg e) (Q5 _ e),rfl,q⟩
def wQ:Fn
 |[.ref l],S=>match S[l]? with
  |some (.lst us)=>(FF us).bind fun bs=>some (.bl (bs.any id),S)
  |_=>none
 |_,_=>none
theorem ES:k6 K (fun xs H Q=>∃(p:Addr) (bs:List Bool),xs=[.ref p]/\SqL K H p (bs.map V.bl)/\Q (.bl (bs.any id)) H) wQ:=by
 intro m S H us vs u S' Q sr i hf post;match us,hf with
 |[.ref l],hf=>
  obtain⟨v,rfl,iv⟩:=i.one;obtain⟨a,ha,rfl⟩:=iv.of_ref;simp only[wQ]at hf;split at hf<;>try cases hf
  rename_i ws hS;obtain⟨bs,hb,h⟩:=Q0.mp hf;cases h;obtain⟨a',ha',xs,hx,la⟩:=sr.get hS;rw[ha]at ha';cases ha';rw[tN hb]at la;rw[la.bls]at hx;exact⟨a,bs,rfl,SqL.of hx,post m _ H .refl sr .bl_⟩
end
section
variable{X:Cx}{K:Q1}
theorem DW{e:QH}{t:TE}(h:WE X e t):WE X e (fun σ H Q=>t σ H fun v H'=>∃a ob kvs,wN X a/\H' a=some (.frz ob (.dK kvs))/\Q v (upd H' a (.dK kvs))):=
 ⟨fun pins s σ H Q I k=>thn (h.h pins s σ H _ I k) fun u s1 ⟨v,H1,I1,r1,a,ob,kvs,nf,e,q⟩=>⟨v,_,j9 I1 nf e,r1,q⟩⟩
def oe(ce:CE)(f:(Sto->Prop)->Nat->List U->Rho->Sto->Option Sto)(n:Nat)(caps:List Nat):CE:=fun ρ S=>(ce ρ S).bind fun p=>match p.1 with
 |.ref l=>match p.2[l]? with
  |some (.dic kus)=>uni fun ep=>(f (fun S'=>S'[l]?=some (.fdc ep kus)) p.2.length (kus.map fun q=>kU q.1) (rV n caps ρ) (p.2.set l (.fdc ep kus)++[.lst []])).bind fun S'=>match S'[l]? with
   |some (.fdc _ kus')=>some (.ref p.2.length,S'.set l (.dic kus'))
   |_=>none
  |_=>none
 |_=>none
def fW(ce:CE)(g:CG)(el:CE)(n:Nat)(caps:List Nat):CE:=oe ce (fun ok l=>gI ok g el l) n caps
def ko(ce:CE)(g:CG)(ct:CT)(el:CE)(n:Nat)(caps:List Nat):CE:=oe ce (fun ok l=>c6 ok g ct el l) n caps
theorem qg{ce:CE}{f:(Sto->Prop)->Nat->List U->Rho->Sto->Option Sto}{n:Nat}{caps:List Nat}{G:It->Hp->L2.St->VK->Prop}
  (core:∀{J:It} {us:List U} {ok:Sto->Prop} {Q:VK} {m1:List Addr} {H1:Hp} {S1 S':Sto} {ρ:Rho} {σ:L2.St},Sr X.K m1 S1 H1->Lr X.K m1 H1 ρ σ->zP X.K J m1 H1 us ok->f ok S1.length us (rV n caps ρ) (S1++[.lst []])=some S'->
   (∀l,H1 l=none->∀m2 H2,Ext X.K (m1++[l]) (upd H1 l (.lst [])) m2 H2->Sr X.K m2 S' H2->Q (.ref l) H2)->G J H1 σ Q) :
  ∀σ H Q,tE X.K (oe ce f n caps) σ H Q->Fp X (tE X.K ce) σ H fun J H1=>G J H1 σ fun v H'=>∃a ob kvs,wN X a/\H' a=some (.frz ob (.dK kvs))/\Q v (upd H' a (.dK kvs)):=by
 rintro σ H Q ⟨m,ρ,S,u,S',sr,lr,hc,post⟩;obtain⟨⟨x,S1⟩,h1,h⟩:=Q0.mp hc;refine⟨m,ρ,S,x,S1,sr,lr,h1,fun m1 v1 H1 e1 sr1 i1=>?_⟩;cases x with
 |ref l=>
  simp only at h;split at h<;>try cases h
  rename_i kus hS;obtain⟨a,ha,rfl⟩:=i1.of_ref;obtain⟨a',ha',kvs,hx,ip⟩:=sr1.get hS;rw[ha]at ha';cases ha';refine⟨a,kvs,rfl,hx,fun ob es ep nf hd=>?_⟩;obtain⟨S2,h2,h3⟩:=Q0.mp (oo h ep);try simp only at h3
  split at h3<;>try cases h3
  rename_i ep' kus' hS2;have kp:wR X.K H1 (upd H1 a (.frz ob (.dK kvs))):=sr1.keep ha _;have ee:Ext X.K m1 H1 m1 (upd H1 a (.frz ob (.dK kvs))):=.of kp;have sr2:Sr X.K m1 (S1.set l (.fdc ep kus)) (upd H1 a (.frz ob (.dK kvs))):=sr1.put ha ⟨ob,es,kvs,aL,hd,ip.mono ee⟩;rw[ip.1];have hln:(S1.set l (.fdc ep kus)).length=S1.length:=by simp
  refine core sr2 (lr.mono (e1.trans ee)) (yJ ha) (by rw[hln];exact h2) fun p hp m3 H3 e3 sr3=>?_;have en:Ext X.K m1 (upd H1 a (.frz ob (.dK kvs))) (m1++[p]) (upd (upd H1 a (.frz ob (.dK kvs))) p (.lst [])):=.new (cN hp _);have e03:=en.trans e3;obtain⟨a3,ha3,ob3,es3,kvs3,hx3,hd3,ip3⟩:=sr3.get hS2;rw[e03.get ha]at ha3;cases ha3;have e4:Ext X.K m3 H3 m3 (upd H3 a (.dK kvs3)):=.of (sr3.keep (e03.get ha) _);refine⟨a,ob3,kvs3,nf,hx3,post m3 _ _ (((e1.trans ee).trans e03).trans e4) (sr3.put (e03.get ha) ⟨kvs3,aL,ip3.mono e4⟩) ?_⟩;have lg:(m1++[p])[S1.length]?=some p:=fK sr1.len;exact .ref_ (e3.get lg)
 |_=>cases h
variable{Nc capN tn:List Str}{scope:Zr}{cl:List (Str×Addr)}{n:Nat}{caps:List Nat}{tg iter elt:QH}{pos:Pos}{ci:CE}{g:CG}{ce:CE}
theorem sF(hc:X.calm=true)(hi:QE X iter ci)(hg:∀s3 H3 fp,WG (cxC X Nc scope cl s3 H3 fp) tg (tG X.K g))(he:∀s3 H3 fp,WE (cxC X Nc scope cl s3 H3 fp) elt (tE X.K ce))
  (hclos:closureFor scope X.env=pure cl) (hkind:scope.kind=.function) (hnl:∀x∈scope.names,x.2=.local->scope.names.lookup x.1=some .local) (hcell:∀x∈scope.names,x.2≠.cell)
  (hcl:vH X.env cl) (hhas:((relabel scope X.env).names.all fun p=>!(p.2 == .cell||p.2 == .free)||(cl.lookup p.1).isSome)=true)
  (hcap:Paired (Cap X scope cl) caps capN) (hN:Nc=tn++capN) (hn:tn.length=n)
  (hs:∀x,foldedSetIterable iter X.env x=pure x:=by intro _;rfl) :
  QE X (.ListComp elt [⟨tg,iter,[],0⟩] scope pos) (fW ci g ce n caps):=
 (DW (ud hc (si hi) hg he hclos hkind hnl hcell hcl hhas hcap hN hn hs)).imp (qg (G:=fun J H1 σ Q=>∀l,H1 l=none->∃W:Nat->Nat->L2.St->Hp->Prop,(∃m,W 0 m (OG.stC n caps σ) (upd H1 l (.lst [])))/\
  ∀i m σ' H2,W i m σ' H2->(J.stop i H2/\Q (.ref l) H2)\/(J.go i H2/\∃N:L2.St->Hp->Prop,(∀σ'' H',N σ'' H'->∃m',m'<m/\W (i+1) m' σ'' H')/\
  ∀x H3,J.yld i H2 x H3->tG X.K g x σ' H3 fun σ2 H4=>tE X.K ce σ2 H4 fun v H5=>∃ys,H5 l=some (.lst ys)/\ys.length<QB/\N σ2 (upd H5 l (.lst (ys++[v]))))) fun sr lr ito h2 post l hl=>rE sr lr ito hl h2 (post l hl))
end
end OP
namespace OP
open PySem PySem.Spec PyProof PyProof.Rows L2 OG PySem.W
section
variable{cmp:Nat->Nat->(Bool->Q4->Prop)->Q4->Prop}{s:Q4}{n:Nat}{lt:Nat->Nat->Bool}
structure zN(n:Nat)(lt:Nat->Nat->Bool):Prop where
 tr:∀{i j k},i<n->j<n->k<n->lt i j=true->lt j k=true->lt i k=true
 tot:∀{i j},i<n->j<n->i≠j->lt i j=false->lt j i=true
 asym:∀{i j},i<n->j<n->lt i j=true->lt j i=false
def vG(cmp:Nat->Nat->(Bool->Q4->Prop)->Q4->Prop)(n:Nat)(lt:Nat->Nat->Bool)(s:Q4):Prop:=∀i j C,i<n->j<n->C (lt i j) s->cmp i j C s
structure Pm(n:Nat)(p:Array Nat):Prop where
 sz:p.size=n
 bd:∀i,i<n->p.getD i 0<n
 ne:∀i j,i<j->j<n->p.getD i 0≠p.getD j 0
def Asc(lt:Nat->Nat->Bool)(p:Array Nat)(k:Nat):Prop:=∀i j,i<j->j<k->lt (p.getD i 0) (p.getD j 0)=true
def Dsc(lt:Nat->Nat->Bool)(p:Array Nat)(k:Nat):Prop:=∀i j,i<j->j<k->lt (p.getD j 0) (p.getD i 0)=true
variable{p:Array Nat}
theorem Pm.ne'(P:Pm n p){i j:Nat}(hi:i<n)(hj:j<n)(h:i≠j):p.getD i 0≠p.getD j 0:=by
 rcases Nat.lt_or_gt_of_ne h with z|z
 ·exact P.ne i j z hj
 ·exact Ne.symm (P.ne j i z hi)
theorem Asc.snoc(O:zN n lt)(P:Pm n p){m:Nat}(h1:1<=m)(hm:m<n)(h:Asc lt p m)(h2:lt (p.getD (m-1) 0) (p.getD m 0)=true):Asc lt p (m+1):=fun i j hij hj=>by
 by_cases e:j=m
 ·subst e;by_cases e2:i=j-1
  ·subst e2;exact h2
  ·exact O.tr (P.bd _ (by omega)) (P.bd _ (by omega)) (P.bd _ (by omega)) (h i (j-1) (by omega) (by omega)) h2
 ·exact h i j hij (by omega)
theorem Dsc.snoc(O:zN n lt)(P:Pm n p){m:Nat}(h1:1<=m)(hm:m<n)(h:Dsc lt p m)(h2:lt (p.getD m 0) (p.getD (m-1) 0)=true):Dsc lt p (m+1):=fun i j hij hj=>by
 by_cases e:j=m
 ·subst e;by_cases e2:i=j-1
  ·subst e2;exact h2
  ·exact O.tr (P.bd _ (by omega)) (P.bd _ (by omega)) (P.bd _ (by omega)) h2 (h i (j-1) (by omega) (by omega))
 ·exact h i j hij (by omega)
theorem zA(O:zN n lt)(A:vG cmp n lt s)(P:Pm n p):∀(f m:Nat) {Q:Nat->Q4->Prop},1<=m->m+f<=n->Asc lt p m->(∀m',m<=m'->m'<=m+f->Asc lt p m'->(m'=m+f\/lt (p.getD m' 0) (p.getD (m'-1) 0)=true)->Q m' s)->(kas_asc p f m).kasWp cmp Q s
 |0,m,Q,h1,h2,h3,q=>q m (QQ _) (by omega) h3 (.inl rfl)
 |f+1,m,Q,h1,h2,h3,q=>by
  refine A _ _ _ (P.bd _ (by omega)) (P.bd _ (by omega)) ?_;cases hc:lt (p.getD m 0) (p.getD (m-1) 0)with
  |true=>exact q m (QQ _) (by omega) h3 (.inr hc)
  |false=>
   have h4:=h3.snoc O P h1 (by omega) (O.tot (P.bd _ (by omega)) (P.bd _ (by omega)) (P.ne' (by omega) (by omega) (by omega)) hc);exact zA O A P f (m+1) (by omega) (by omega) h4 fun m' a b c d=>q m' (by omega) (by omega) c (by rcases d with d|d;exact .inl (by omega);exact .inr d)
theorem za(O:zN n lt)(A:vG cmp n lt s)(P:Pm n p):∀(f m:Nat) {Q:Array Nat×Nat×Nat->Q4->Prop},1<=m->m+f<=n->Dsc lt p m->(∀m',m<=m'->m'<=m+f->Dsc lt p m'->Q (p,m',0) s)->(kas_desc f p m 0).kasWp cmp Q s
 |0,m,Q,h1,h2,h3,q=>q m (QQ _) (by omega) h3
 |f+1,m,Q,h1,h2,h3,q=>by
  refine A _ _ _ (P.bd _ (by omega)) (P.bd _ (by omega)) ?_;cases hc:lt (p.getD m 0) (p.getD (m-1) 0)with
  |true=>exact za O A P f (m+1) (by omega) (by omega) (h3.snoc O P h1 (by omega) hc) fun m' a b c=>q m' (by omega) (by omega) c
  |false=>
   refine A _ _ _ (P.bd _ (by omega)) (P.bd _ (by omega)) ?_;rw[O.tot (P.bd _ (by omega)) (P.bd _ (by omega)) (P.ne' (by omega) (by omega) (by omega)) hc];exact q m (QQ _) (by omega) h3
theorem jD{p q:Array Nat}{i j:Nat}(h:p[i]?=q[j]?):p.getD i 0=q.getD j 0:=by
 rw[ZS,ZS,h]
theorem mh{m k:Nat}(hm:m<=p.size):(kas_rev p 0 m).getD k 0=if k<m then p.getD (m-1-k) 0 else p.getD k 0:=by
 unfold kas_rev;have h:=getElem?_mirror_all (i:=0) hm k;split
 ·rename_i c;rw[if_pos ⟨ZZ _,c⟩]at h;exact jD (by rw[h];congr 1;omega)
 ·rename_i c;rw[if_neg (by omega)]at h;exact jD h
theorem Pm.rev(P:Pm n p){m:Nat}(hm:m<=n):Pm n (kas_rev p 0 m) where
 sz:=by rw[kas_rev_size];exact P.sz
 bd:=fun i hi=>by
  rw[mh (by rw[P.sz];exact hm)];split<;>exact P.bd _ (by omega)
 ne:=fun i j hij hj=>by
  rw[mh (by rw[P.sz];exact hm),mh (by rw[P.sz];exact hm)];split<;>split<;>exact P.ne' (by omega) (by omega) (by omega)
theorem Dsc.rev{m:Nat}(P:Pm n p)(hm:m<=n)(h:Dsc lt p m):Asc lt (kas_rev p 0 m) m:=fun i j hij hj=>by
 rw[mh (by rw[P.sz];exact hm),mh (by rw[P.sz];exact hm),if_pos (by omega),if_pos hj];exact h _ _ (by omega) (by omega)
theorem BJ(O:zN n lt)(A:vG cmp n lt s)(P:Pm n p){Q:Nat×Array Nat->Q4->Prop}(h1:1<=n)(q:∀m p',1<=m->m<=n->Pm n p'->Asc lt p' m->Q (m,p') s):(kas_count n p).kasWp cmp Q s:=by
 unfold kas_count;rw[KasT.kasWp_bind];refine zA O A P (n-1) 1 (QQ _) (by omega) (fun i j a b=>by omega) fun m a b c d=>?_;by_cases e:m=n
 ·rw[if_pos (by rw[e];exact beq_self_eq_true n)];exact q m p a (by omega) P c
 rw[if_neg (by simpa using e)];have d':lt (p.getD m 0) (p.getD (m-1) 0)=true:=by
  rcases d with d|d
  ·omega
  ·exact d
 by_cases g:m>1
 ·rw[if_pos g];refine A _ _ _ (P.bd _ (by omega)) (P.bd _ (by omega)) ?_;rw[c 0 (m-1) (by omega) (by omega)];exact q m p a (by omega) P c
 ·rw[if_neg g];have m1:m=1:=by omega
  subst m1;unfold kas_descPart;rw[KasT.kasWp_bind];have d2:Dsc lt p 2:=fun i j a b=>by
   have e1:i=0:=by omega
   have e2:j=1:=by omega
   subst e1;subst e2;exact d'
  refine za O A P (n-(1+1)) (1+1) (by omega) (by omega) d2 fun m' a' b' c'=>?_;rw[if_neg (by simp)];unfold kas_tail3;rw[KasT.kasWp_bind];have hm':m'<=n:=by omega
  exact zA O A (P.rev hm') (n-m') m' (by omega) (by omega) (c'.rev P hm') fun m2 a2 b2 c2 _=>q m2 _ (by omega) (by omega) (P.rev hm') c2
theorem oI(O:zN n lt)(A:vG cmp n lt s)(P:Pm n p){k:Nat}(hk:k<n)(hs:Asc lt p k):∀(f l r:Nat) {Q:Nat->Q4->Prop},l<=r->r<=k->r-l<=f->(∀i,i<l->lt (p.getD i 0) (p.getD k 0)=true)->(∀i,r<=i->i<k->lt (p.getD k 0) (p.getD i 0)=true)->
  (∀l',l'<=k->(∀i,i<l'->lt (p.getD i 0) (p.getD k 0)=true)->(∀i,l'<=i->i<k->lt (p.getD k 0) (p.getD i 0)=true)->Q l' s)->(kas_place p k f l r).kasWp cmp Q s
 |0,l,r,Q,h1,h2,h3,h4,h5,q=>q l (by omega) h4 fun i a b=>h5 i (by omega) b
 |f+1,l,r,Q,h1,h2,h3,h4,h5,q=>by
  unfold kas_place;by_cases e:l≥r
  ·rw[if_pos e];exact q l (by omega) h4 fun i a b=>h5 i (by omega) b
  ·rw[if_neg e];have hM:(l+r) / 2<k:=by omega
   refine A _ _ _ (P.bd _ hk) (P.bd _ (by omega)) ?_;cases hc:lt (p.getD k 0) (p.getD ((l+r) / 2) 0)with
   |true=>
    refine oI O A P hk hs f l ((l+r) / 2) (by omega) (by omega) (by omega) h4 (fun i a b=>?_) q;by_cases e2:i=(l+r) / 2
    ·subst e2;exact hc
    ·exact O.tr (P.bd _ hk) (P.bd _ (by omega)) (P.bd _ (by omega)) hc (hs _ i (by omega) b)
   |false=>
    have hc':=O.tot (P.bd _ hk) (P.bd _ (show(l+r) / 2<n by omega)) (P.ne' hk (by omega) (by omega)) hc;refine oI O A P hk hs f ((l+r) / 2+1) r (by omega) (by omega) (by omega) (fun i a=>?_) h5 q;by_cases e2:i=(l+r) / 2
    ·subst e2;exact hc'
    ·exact O.tr (P.bd _ (by omega)) (P.bd _ (by omega)) (P.bd _ hk) (hs i ((l+r) / 2) (by omega) hM) hc'
theorem kR{k l i:Nat}(hk:k<p.size)(hl:l<=k):(bubble p k (k-l)).getD i 0=if i=l then p.getD k 0 else if l<i/\i<=k then p.getD (i-1) 0 else p.getD i 0:=by
 have h:=getElem?_bubble hk (k-l) (by omega) i;rw[show k-(k-l)=l by omega]at h;by_cases c:i=l
 ·rw[if_pos c]at h ⊢;exact jD h
 ·rw[if_neg c]at h ⊢;by_cases d:l<i/\i<=k
  ·rw[if_pos d]at h ⊢;exact jD h
  ·rw[if_neg d]at h ⊢;exact jD h
theorem Pm.bub(P:Pm n p){k l:Nat}(hk:k<n)(hl:l<=k):Pm n (bubble p k (k-l)) where
 sz:=by rw[bubble_size];exact P.sz
 bd:=fun i hi=>by
  rw[kR (by rw[P.sz];exact hk) hl];repeat' split
  all_goals exact P.bd _ (by omega)
 ne:=fun i j hij hj=>by
  rw[kR (by rw[P.sz];exact hk) hl,kR (by rw[P.sz];exact hk) hl];repeat' split
  all_goals first|(exfalso;omega)|exact P.ne' (by omega) (by omega) (by omega)
theorem Asc.bub(P:Pm n p){k l:Nat}(hk:k<n)(hl:l<=k)(h:Asc lt p k)(h1:∀i,i<l->lt (p.getD i 0) (p.getD k 0)=true)(h2:∀i,l<=i->i<k->lt (p.getD k 0) (p.getD i 0)=true):Asc lt (bubble p k (k-l)) (k+1):=fun i j hij hj=>by
 rw[kR (by rw[P.sz];exact hk) hl,kR (by rw[P.sz];exact hk) hl];repeat' split
 all_goals first|(exfalso;omega)|exact h1 _ (by omega)|exact h2 _ (by omega) (by omega)|exact h _ _ (by omega) (by omega)
theorem C5(O:zN n lt)(A:vG cmp n lt s):∀(f:Nat) (p:Array Nat) (k:Nat) {Q:Array Nat->Q4->Prop},Pm n p->k+f=n->Asc lt p k->(∀p',Pm n p'->Asc lt p' n->Q p' s)->(kas_bin f p k).kasWp cmp Q s
 |0,p,k,Q,P,h1,h2,q=>q p P (by rw[<-h1];exact h2)
 |f+1,p,k,Q,P,h1,h2,q=>by
  unfold kas_bin;rw[KasT.kasWp_bind];refine oI O A P (k:=k) (by omega) h2 k 0 k (ZZ _) (QQ _) (by omega) (fun i a=>by omega) (fun i a b=>by omega) fun l a b c=>?_;exact C5 O A f _ (k+1) (P.bub (by omega) a) (by omega) (h2.bub P (by omega) a b c) q
theorem oH:Pm n (List.toArray (Qa n)):=by
 have g:∀i,i<n->(List.toArray (Qa n)).getD i 0=i:=fun i hi=>by simp[Array.getD,hi]
 exact⟨by simp,fun i hi=>by rw[g i hi];exact hi,fun i j hij hj=>by rw[g i (by omega),g j hj];omega⟩
theorem Eg(O:zN n lt)(A:vG cmp n lt s){Q:Array Nat->Q4->Prop}(h1:1<=n)(q:∀p',Pm n p'->Asc lt p' n->Q p' s):(kas_sort n).kasWp cmp Q s:=by
 unfold kas_sort;rw[KasT.kasWp_bind];refine BJ O A oH h1 fun m p' a b P c=>?_;by_cases e:m<n
 ·rw[if_pos e];rw[show max m 1=m by omega];exact C5 O A _ _ _ P (by omega) c q
 ·rw[if_neg e];exact q p' P (by rw[show n=m by omega];exact c)
end
end OP
namespace OP
open PySem PySem.Spec PyProof PyProof.Rows L2 OG
section
variable{prog:Qx}{w:Qg}{A:Qd}{E:Q3->Q4->Prop}{s:Q4}{d it:Addr}{o:Obj}{es:Array DictEntry}{ep i:Nat}
theorem Av{Q:Q3->Q4->Prop}(hd:(d == sysModules)=false)(ho:s.heap.get? d=some o)(hc:o.ExactDict)(he:o.data=.dict es ep)
  (q:Q (.ref s.heap.objs.size) { s with heap:=s.heap.push { cls:=.type "dict_keyiterator",data:=.fields #[.ref d,.int 0 0,.int es.size 0,.int ep 0] } }):wpAny (Qz prog w) A (pyIter (.ref d)) Q E s:=by
 have T:s.TypeIs (.ref d) "dict":=⟨o,ho,hc.1⟩;refine wpAny_pyIter_slot T F.slot_dict_iter (wpAny_call_entry F.slot_dict_iter T F.entry_dict_iter ?_ (F.args_dict_iter_1 _));unfold Builtin.«dict.__iter__»;refine Q2 ?_;unfold Builtin.Dict.dictSlotNone;refine Q2 (wpAny_notOrdered_dict T ?_);refine QJ (show wpAny _ _ (Builtin.Dict.showsAll d >>= _) _ _ s from ?_);unfold Builtin.Dict.showsAll;rw[if_neg (by rw[hd];exact Q6)];refine Q2 (QJ (Q2 (wpAny_dictEntries ho he (Q2 (wpAny_dictEpoch ho he ?_)))));refine Q2 (wpAny_newObj_type (QJ ⟨_,rfl,"dict_keyiterator",_,⟨_,QM _ rfl,rfl⟩,F.slot_dict_keyiterator_next.lookup,q⟩))
theorem Aw{Q:Option Q3->Q4->Prop}(hit:s.heap.IsKeyIter it d i es.size ep)(ho:s.heap.get? d=some o)(he:o.data=.dict es ep)(hi:i<es.size)
  (q:∀h',h'.IsKeyIter it d (i+1) es.size ep->Heap.SameBut it s.heap h'->Q (some es[i].key) { s with heap:=h' }):wpAny (Qz prog w) A (pyNext (.ref it)) Q E s:=by
 obtain⟨io,hio,ic,id'⟩:=id hit;unfold pyNext;refine Q2 (wpAny_attempt (wpAny_callSpecial?_slot (name:=Str.ofString "__next__") hit.typeIs F.slot_dict_keyiterator_next (wpAny_call_entry F.slot_dict_keyiterator_next hit.typeIs F.entry_dict_keyiterator_next ?_ (F.args_dict_keyiterator_next_1 _))));refine Q2 (QJ (Q2 (Q2 ?_)));first|refine Q2 (wpAny_typeNameOfWhole_keyiter hit.typeIs (QJ (Q2 (wpAny_fieldsOf hio id' ?_))))|refine Q2 (wpAny_typeNameOf_keyiter hit.typeIs (QJ (Q2 (wpAny_fieldsOf hio id' ?_))))
 simp only[show Builtin.Dict_items.ownsTuple "dict_keyiterator"=false by decide,Qh,if_false];refine(show wpAny _ _ (if (Value.ref d == Value.none)=true then _ else _) _ _ s from ?_);rw[if_neg (show ¬((Value.ref d == Value.none)=true)from Q6)];refine Q2 (QJ (Q2 (wpAny_dictEntries ho he ?_)));rw[if_neg (by simp)];refine Q2 (QJ (Q2 (wpAny_dictEpoch ho he ?_)));rw[if_neg (by simp)];refine QJ ?_;simp only[show ¬((i:Int)<0)by omega,if_false,ZD,Z8 hi];refine Q2 ?_;first|refine Q2 (wpAny_typeNameOfWhole_keyiter hit.typeIs (QJ (Q2 (wpAny_isOneOf_keyiter hit.typeIs ?_))))|refine Q2 (wpAny_typeNameOf_keyiter hit.typeIs (QJ (Q2 (wpAny_isOneOf_keyiter hit.typeIs ?_))))
 refine(show wpAny _ _ (setField (.ref it) 1 (rawInt ((i:Int)+1)) >>= _) _ _ s from Q2 (wpAny_setField hio id' (by simp) ?_));have hit2:(s.heap.update it (Obj.mapFields (·.setIfInBounds 1 (rawInt ((i:Int)+1))))).IsKeyIter it d (i+1) es.size ep:=⟨_,Heap.get?_update_self _ hio (Obj.isFreed_of_fields (Obj.data_mapFields id' _)),(Obj.cls_mapFields ..).trans ic,by rw[Obj.data_mapFields id'];simp[rawInt]⟩;refine Q2 (wpAny_holding (Q2 (wpAny_isOneOf_keyiter (s:={ s with heap:=s.heap.update it (Obj.mapFields (·.setIfInBounds 1 (rawInt ((i:Int)+1)))) }) hit2.typeIs ?_)));exact(show wpAny _ _ (pure es[i].key) _ _ _ from QJ (QJ ⟨_,rfl,QJ (q _ hit2 (Heap.SameBut.update ..))⟩))
theorem En{Q:Option Q3->Q4->Prop}(hh:A.handled=none)(hit:s.heap.IsKeyIter it d i es.size ep)(ho:s.heap.get? d=some o)(he:o.data=.dict es ep)(hi:es.size<=i)
  (q:∀h',Heap.ExtBut it s.heap h'->Q none { s with heap:=h' }):wpAny (Qz prog w) A (pyNext (.ref it)) Q E s:=by
 obtain⟨io,hio,ic,id'⟩:=id hit;unfold pyNext;refine Q2 (wpAny_attempt (wpAny_callSpecial?_slot (name:=Str.ofString "__next__") hit.typeIs F.slot_dict_keyiterator_next (wpAny_call_entry F.slot_dict_keyiterator_next hit.typeIs F.entry_dict_keyiterator_next ?_ (F.args_dict_keyiterator_next_1 _))));refine Q2 (QJ (Q2 (Q2 ?_)));first|refine Q2 (wpAny_typeNameOfWhole_keyiter hit.typeIs (QJ (Q2 (wpAny_fieldsOf hio id' ?_))))|refine Q2 (wpAny_typeNameOf_keyiter hit.typeIs (QJ (Q2 (wpAny_fieldsOf hio id' ?_))))
 simp only[show Builtin.Dict_items.ownsTuple "dict_keyiterator"=false by decide,Qh,if_false];refine(show wpAny _ _ (if (Value.ref d == Value.none)=true then _ else _) _ _ s from ?_);rw[if_neg (show ¬((Value.ref d == Value.none)=true)from Q6)];refine Q2 (QJ (Q2 (wpAny_dictEntries ho he ?_)));rw[if_neg (by simp)];refine Q2 (QJ (Q2 (wpAny_dictEpoch ho he ?_)));rw[if_neg (by simp)];refine QJ ?_;simp only[show ¬((i:Int)<0)by omega,if_false,ZD,Array.getElem?_eq_none hi];refine Q2 ?_;first|refine Q2 (wpAny_typeNameOfWhole_keyiter hit.typeIs (QJ ?_));skip|refine Q2 (wpAny_typeNameOf_keyiter hit.typeIs (QJ ?_));skip
 refine(show wpAny _ _ (setField (.ref it) 0 .none >>= _) _ _ s from Q2 (wpAny_setField hio id' (by simp) ?_));refine(show wpAny _ _ (newExc (.type "StopIteration") [] >>= _) _ _ _ from Q2 ?_);simp only[newExc,newTuple];refine Q2 (wpAny_newObj_type ?_ (by size_fits));refine Q2 (m:=firstArgMember _ _) (wpAny_of_eq (a:=Value.none) (by first|rfl|(simp only[firstArgMember];rfl)) (wpAny_newObj_type ?_ (by size_fits)));simp only[raiseNew];refine Q2 (wpAny_handled ?_);rw[show A.in1.handled=none from hh];refine Q2 (QJ (wpAny_throw ?_));refine Q2 (wpAny_isInstance (T:="StopIteration") (b:=true) ⟨_,QM _ rfl,rfl⟩ isSubtype_stop ?_);exact QJ (q _ (((Heap.SameBut.update ..).extBut.push _).push _))
end
def FzT(H:Hp)(a:Addr)(ep:Nat)(ks:List (List Key)):Prop:=∃ob es kvs,H a=some (.frz ob (.dT kvs))/\ob.data=.dict es ep/\kvs.map (·.1)=ks
def Itt(a:Addr)(ep:Nat)(ks:List (List Key)):It:=
 ⟨fun i H=>i<ks.length/\FzT H a ep ks,fun i H x H'=>H'=H/\∃k p,ks[i]?=some k/\x=.ref p/\H p=some (.tup (k.map kV)),fun i H=>ks.length<=i/\FzT H a ep ks⟩
end OP
namespace OP
open PySem PySem.Spec PyProof PyProof.Rows L2 OG PySem.W
theorem oU{prog:Qx}{w:Qg}{A:Qd}{E:Q3->Q4->Prop}{s:Q4}{a:Addr}{vs:List Q3}{n:Nat}{P:PySem.Fin->Q4->Prop}
  (g:s.heap.get? a=some (seqObj "list" vs.toArray n)) (h2:2<=vs.length) (h64:vs.length<64)
  (ask:∀h':Heap,(∀b o,b≠a->s.heap.get? b=some o->h'.get? b=some o)->wpAny (Qz prog w) A (keyKind' vs.toArray) (fun κ s'=>s'={ s with heap:=h' }/\KasT.kasWp (kas_ask prog w A κ vs) (kas_sort vs.length)
   (fun p s''=>s''={ s with heap:=h' }/\P (Fin.done (Flow.ret Value.none)) { s with heap:=sortedHeap s.heap a vs (p.toList.map fun i=>vs.getD i Value.none).toArray }) { s with heap:=h' }) E { s with heap:=h' }) :
  wpAny (Qz prog w) A (Builtin.«list.sort» { pos:=[Value.ref a] }) P E s:=by
 rw[list_sort_plain];have hS:vs.toArray.size=vs.length:=by simp
 have hz:vs.length<=QB:=by unfold QB;omega
 have lt:=QK g;refine Q2 (listItems_at g rfl (Q2 (listUpdate_at g rfl ?_ (by rw[hS];exact hz) (by simp))));obtain⟨e1,g1⟩:∃e1,(s.heap.update a (Obj.mapSeq fun _=>#[])).get? a=some (seqObj "list" #[] e1):=⟨_,get?_update_seq g fun _=>#[]⟩;refine Q2 (seqEpoch_at g1 rfl (Q2 (wpAny_newTuple (Q2 (wpAny_newList (wpAny_holding ?_) (by simp))) (by simpa using hz))));have hu:(s.heap.update a (Obj.mapSeq fun _=>#[])).objs.size=s.heap.objs.size:=Heap.size_update ..;have g2:(((s.heap.update a (Obj.mapSeq fun _=>#[])).push (seqObj "tuple" vs.toArray 0)).push (seqObj "list" #[] 0)).get? a=some (seqObj "list" #[] e1):=
  Q5 _ (Q5 _ g1)
 have n2:¬vs.toArray.size<2:=by rw[hS];omega
 dsimp only;rw[if_neg n2];have hk:∀b o,b≠a->s.heap.get? b=some o->(((s.heap.update a (Obj.mapSeq fun _=>#[])).push (seqObj "tuple" vs.toArray 0)).push (seqObj "list" #[] 0)).get? b=some o:=fun b o hb ho=>by
  refine Q5 _ (Q5 _ ?_);rw[Heap.get?_update_ne _ _ _ _ hb];exact ho
 refine Q2 (Z6 (ask _ hk) (fun κ s' hs'=>?_) fun _ _ h'=>h');obtain⟨rfl,hrun⟩:=hs';rw[if_neg n2];refine Q2 (Z6 (kat_run (ks:=vs) (Q:=fun st' s'=>∃p:Array Nat,p.size=vs.length/\arrOf st'=Array.map (kas_item (vs.toArray.zip vs.toArray)) p/\failedOf st'=none/\s'=_/\P (Fin.done (Flow.ret Value.none)) { s with heap:=sortedHeap s.heap a vs (p.toList.map fun i=>vs.getD i Value.none).toArray }) rfl h2 h64 (fun p st' s' hp harr hfail hG=>⟨p,hp,harr,hfail,hG⟩) hrun) (fun r s' hr=>?_) fun _ _ h'=>h');obtain⟨u,st'⟩:=r;obtain⟨p,hp,harr,hfail,rfl,hP⟩:=hr;have hout:Array.map (fun x=>x.snd) (arrOf st')=(p.toList.map fun i=>vs.getD i Value.none).toArray:=kat_snds rfl harr;refine Q2 (seqEpoch_at g2 rfl (Q2 (listUpdate_at g2 rfl ?_ (by simp) ?_)))
 ·dsimp only at hfail ⊢;rw[hfail];simp only[bne_self_eq_false,Qh,if_false];have hP':=hP;rw[<-hout]at hP';exact QJ hP'
 ·dsimp only;rw[hout];simp;unfold QB;omega
def rR(h:Heap)(v:Q3)(p:Int×Int):Prop:=∃b o t1 t2 e,v=Value.ref b/\h.get? b=some o/\o.cls=Value.type "tuple"/\o.data=Data.seq #[Value.int p.1 t1,Value.int p.2 t2] e
def ltP(p q:Int×Int):Bool:=decide (p.1<q.1\/p.1=q.1/\p.2<q.2)
section
variable{prog:Qx}{w:Qg}{A:Qd}{E:Q3->Q4->Prop}{s:Q4}
theorem kJ{b:Bool}{x y:Int}{t u:Tok}{Q:Bool->Q4->Prop}(h:Q (decide (x<y)) s):wpAny (Qz prog w) A (oneLt' b (Value.int x t) (Value.int y u)) Q E s:=by
 cases b with
 |true=>exact oneLt_int h
 |false=>
  rw[oneLt'_eq];dsimp only;rw[if_neg Q6];exact Q2 (wpAny_lt_int (wpAny_truthy_bool h))
theorem EN{v v':Q3}{p p':Int×Int}{C:Bool->Q4->Prop}(h:rR s.heap v p)(h':rR s.heap v' p')(c:C (ltP p p') s):wpAny (Qz prog w) A (keyLt' (tuples' true) v v') C E s:=by
 obtain⟨b,o,t1,t2,e,rfl,g,_,d⟩:=h;obtain⟨b',o',t1',t2',e',rfl,g',_,d'⟩:=h';refine kat_lt g d g' d' (kat_cons (wpAny_eqBool_int ?_));by_cases e1:p.1=p'.1
 ·rw[e1,beq_self_eq_true];refine kat_yes (kat_cons (wpAny_eqBool_int ?_));by_cases e2:p.2=p'.2
  ·rw[e2,beq_self_eq_true];refine kat_yes (kat_nil ?_);have:ltP p p'=false:=by simp[ltP,e1,e2]
   rw[this]at c;exact c
  ·rw[beq_eq_false_iff_ne.mpr e2];refine kat_no (kJ ?_);have:ltP p p'=decide (p.2<p'.2):=by simp[ltP,e1]
   rw[this]at c;exact c
 ·rw[beq_eq_false_iff_ne.mpr e1];refine kat_no (kJ ?_);have:ltP p p'=decide (p.1<p'.1):=by simp[ltP,e1]
  rw[this]at c;exact c
def jG(h:Heap):List Q3->List (Int×Int)->Prop
 |[],[]=>True
 |v::vs,p::ps=>rR h v p/\jG h vs ps
 |_,_=>False
theorem qw{h:Heap}:∀{vs:List Q3} {ps:List (Int×Int)},jG h vs ps->vs.length=ps.length
 |[],[],_=>rfl
 |_::_,_::_,k=>by rw[QV,QV,qw k.2]
 |[],_::_,k=>k.elim
 |_::_,[],k=>k.elim
theorem mq{h:Heap}:∀{vs:List Q3} {ps:List (Int×Int)} {i:Nat},jG h vs ps->i<ps.length->rR h (vs.getD i Value.none) (ps.getD i (0,0))
 |[],[],_,_,k=>absurd k (Nat.not_lt_zero _)
 |_::_,_::_,0,k,_=>k.1
 |_::vs,_::ps,i+1,k,l=>by
  show rR h (vs.getD i Value.none) (ps.getD i (0,0));exact mq k.2 (by rw[QV]at l;omega)
 |[],_::_,_,k,_=>k.elim
 |_::_,[],_,k,_=>k.elim
theorem nW{h:Heap}:∀{vs:List Q3} {ps:List (Int×Int)},jG h vs ps->∃fs,KatTups h vs fs/\fs.length=vs.length/\∀f∈fs,∃i t,f=Value.int i t
 |[],[],_=>⟨[],trivial,rfl,fun f hf=>by cases hf⟩
 |v::vs,p::ps,k=>by
  obtain⟨fs,h1,h2,h3⟩:=nW k.2;obtain⟨b,o,t1,t2,e,hv,g,c,d⟩:=k.1;refine⟨Value.int p.1 t1::fs,⟨⟨b,o,_,e,hv,g,c,d,rfl⟩,h1⟩,by rw[QV,QV,h2],fun f hf=>?_⟩;rcases Qq.mp hf with z|z
  ·exact⟨_,_,z⟩
  ·exact h3 f z
 |[],_::_,k=>k.elim
 |_::_,[],k=>k.elim
theorem vZ{vs:List Q3}{ps:List (Int×Int)}{Q:SortKind->Q4->Prop}(h:jG s.heap vs ps)(hn:0<vs.length)(q:Q (tuples' true) s):wpAny (Qz prog w) A (keyKind' vs.toArray) Q E s:=by
 obtain⟨fs,h1,h2,h3⟩:=nW h;refine kat_kind (T:=Value.type "int") h1 (by omega) (fun v hv A Q E s' _ q=>?_) (by decide +kernel) (by exact q);obtain⟨i,t,rfl⟩:=h3 v hv;exact wpAny_typeOf (typeIs_int s' i t) q
end
theorem mG{prog:Qx}{w:Qg}{A:Qd}{E:Q3->Q4->Prop}{s:Q4}{a:Addr}{vs:List Q3}{n:Nat}{P:PySem.Fin->Q4->Prop}
  (g:s.heap.get? a=some (seqObj "list" vs.toArray n)) (h2:vs.length<2) (hP:P (Fin.done (Flow.ret Value.none)) { s with heap:=sortedHeap s.heap a vs vs.toArray }) :
  wpAny (Qz prog w) A (Builtin.«list.sort» { pos:=[Value.ref a] }) P E s:=by
 rw[list_sort_plain];have hS:vs.toArray.size=vs.length:=by simp
 have hz:vs.length<=QB:=by unfold QB;omega
 refine Q2 (listItems_at g rfl (Q2 (listUpdate_at g rfl ?_ (by rw[hS];exact hz) (by simp))));obtain⟨e1,g1⟩:∃e1,(s.heap.update a (Obj.mapSeq fun _=>#[])).get? a=some (seqObj "list" #[] e1):=⟨_,get?_update_seq g fun _=>#[]⟩;refine Q2 (seqEpoch_at g1 rfl (Q2 (wpAny_newTuple (Q2 (wpAny_newList (wpAny_holding ?_) (by simp))) (by simpa using hz))));have g2:(((s.heap.update a (Obj.mapSeq fun _=>#[])).push (seqObj "tuple" vs.toArray 0)).push (seqObj "list" #[] 0)).get? a=some (seqObj "list" #[] e1):=
  Q5 _ (Q5 _ g1)
 have n2:vs.toArray.size<2:=by rw[hS];omega
 dsimp only;rw[if_pos n2];refine Q2 (QJ ?_);rw[if_pos n2];refine Q2 (QJ ?_);have hout:Array.map (fun x=>x.snd) (arrOf (SortSt.mk' general' (vs.toArray.zip vs.toArray) #[] 7 none))=vs.toArray:=by
  show Array.map (fun x=>x.snd) (vs.toArray.zip vs.toArray)=vs.toArray;simp[List.map_snd_zip]
 refine Q2 (seqEpoch_at g2 rfl (Q2 (listUpdate_at g2 rfl ?_ (by simp) ?_)))
 ·have hfail:failedOf (SortSt.mk' general' (vs.toArray.zip vs.toArray) #[] 7 none)=none:=rfl;dsimp only at hfail ⊢;simp only[hfail,bne_self_eq_false,Qh,if_false];have hP':=hP;rw[<-hout]at hP';exact QJ hP'
 ·dsimp only;rw[hout];rw[hS];omega
theorem Ak{ys:List V}{vs:List Q3}(r:bR ys vs){i:Nat}(hi:i<ys.length):cE (ys.getD i .non) (vs.getD i Value.none):=by
 induction r generalizing i with
 |nil=>simp at hi
 |cons r1 r2 ih=>
  cases i with
  |zero=>exact r1
  |succ i=>exact ih (by simpa using hi)
theorem oj{ys:List V}{vs:List Q3}(r:bR ys vs):∀(is:List Nat),(∀i∈is,i<ys.length)->bR (is.map fun i=>ys.getD i .non) (is.map fun i=>vs.getD i Value.none)
 |[],_=>.nil
 |i::is,h=>.cons (Ak r (h i QU)) (oj r is fun j hj=>h j (QX _ hj))
theorem iQ{n:Nat}{q:Array Nat}(P:Pm n q):∀i∈q.toList,i<n:=fun i hi=>by
 obtain⟨j,hj,e⟩:=List.mem_iff_getElem.mp hi;have hj':j<q.size:=by simpa using hj
 have:=P.bd j (by rw[<-P.sz];exact hj');rw[ZS,Z8 hj']at this;rw[Array.getElem_toList]at e;rw[<-e];exact this
theorem ue:∀as:List Addr,bR (as.map V.ref) (as.map Value.ref)
 |[]=>.nil
 |a::r=>.cons rfl (ue r)
def ltR:List Int->List Int->Bool
 |[],[]=>false
 |[],_::_=>true
 |_::_,[]=>false
 |a::r,b::t=>if a=b then ltR r t else decide (a<b)
theorem oR:∀r:List Int,ltR r r=false
 |[]=>rfl
 |a::r=>by rw[ltR,if_pos rfl];exact oR r
theorem oS:∀{r t:List Int},ltR r t=true->ltR t r=false
 |[],[],h=>by cases h
 |[],_::_,_=>rfl
 |_::_,[],h=>by cases h
 |a::r,b::t,h=>by
  rw[ltR]at h ⊢;by_cases e:a=b
  ·rw[if_pos e]at h;rw[if_pos e.symm];exact oS h
  ·rw[if_neg e,decide_eq_true_eq]at h;rw[if_neg (Ne.symm e),decide_eq_false_iff_not];omega
theorem yq:∀{r t:List Int},r≠t->ltR r t=false->ltR t r=true
 |[],[],n,_=>absurd rfl n
 |[],_::_,_,h=>by cases h
 |_::_,[],_,_=>rfl
 |a::r,b::t,n,h=>by
  rw[ltR]at h ⊢;by_cases e:a=b
  ·subst e;rw[if_pos rfl]at h ⊢;exact yq (fun z=>n (by rw[z])) h
  ·rw[if_neg e,decide_eq_false_iff_not]at h;rw[if_neg (Ne.symm e),decide_eq_true_eq];omega
theorem qD:∀{r t u:List Int},ltR r t=true->ltR t u=true->ltR r u=true
 |[],[],_,h,_=>by cases h
 |_::_,[],_,h,_=>by cases h
 |_,_::_,[],_,k=>by cases k
 |[],_::_,_::_,_,_=>rfl
 |a::r,b::t,c::u,h,k=>by
  rw[ltR]at h k ⊢;by_cases e:a=b
  ·subst e;rw[if_pos rfl]at h;by_cases e2:a=c
   ·rw[if_pos e2]at k ⊢;exact qD h k
   ·rw[if_neg e2]at k ⊢;exact k
  ·rw[if_neg e,decide_eq_true_eq]at h;by_cases e2:b=c
   ·subst e2;rw[if_neg e,decide_eq_true_eq];exact h
   ·rw[if_neg e2,decide_eq_true_eq]at k;have:a≠c:=by omega
    rw[if_neg this,decide_eq_true_eq];omega
def tQ(h:Heap)(v:Q3)(ns:List Int):Prop:=∃b o its e,v=Value.ref b/\h.get? b=some o/\o.cls=Value.type "tuple"/\o.data=Data.seq its e/\bR (ns.map V.int) its.toList
section
variable{prog:Qx}{w:Qg}{A:Qd}{E:Q3->Q4->Prop}{s:Q4}
theorem CC{C:Bool->Q4->Prop}{fin:Bool}:∀{ns ms:List Int} {vs us:List Q3} {i:Nat},bR (ns.map V.int) vs->bR (ms.map V.int) us->fin=decide (ns.length<ms.length)->C (ltR ns ms) s->KatLex prog w A true fin C (vs.zip us) i s
 |[],ms,vs,us,i,r1,r2,e,c=>by
  cases r1;rw[List.zip_nil_left];refine kat_nil ?_;cases ms with
  |nil=>subst e;exact c
  |cons m ms=>subst e;exact c
 |n::ns,[],vs,us,i,r1,r2,e,c=>by
  cases r2;rw[List.zip_nil_right];refine kat_nil ?_;subst e;exact c
 |n::ns,m::ms,vs,us,i,r1,r2,e,c=>by
  cases r1 with
  |cons u1 t1=>
   cases r2 with
   |cons u2 t2=>
    obtain⟨k1,rfl⟩:=u1;obtain⟨k2,rfl⟩:=u2;rw[List.zip_cons_cons];refine kat_cons (wpAny_eqBool_int ?_);by_cases en:n=m
    ·subst en;rw[beq_self_eq_true];rw[ltR,if_pos rfl]at c;exact kat_yes (CC t1 t2 (by rw[e];simp) c)
    ·rw[beq_eq_false_iff_ne.mpr en];rw[ltR,if_neg en]at c;exact kat_no (kJ c)
theorem Hg{v v':Q3}{ns ms:List Int}{C:Bool->Q4->Prop}(h:tQ s.heap v ns)(h':tQ s.heap v' ms)(c:C (ltR ns ms) s):wpAny (Qz prog w) A (keyLt' (tuples' true) v v') C E s:=by
 obtain⟨b,o,its,e,rfl,g,_,d,r⟩:=h;obtain⟨b',o',its',e',rfl,g',_,d',r'⟩:=h';refine kat_lt g d g' d' (CC r r' ?_ c);have l1:its.size=ns.length:=by have:=r.length;rw[Q8]at this;rw[this];exact Qk.symm
 have l2:its'.size=ms.length:=by have:=r'.length;rw[Q8]at this;rw[this];exact Qk.symm
 rw[l1,l2]
def gu(h:Heap):List Q3->List (List Int)->Prop
 |[],[]=>True
 |v::vs,p::ps=>tQ h v p/\gu h vs ps
 |_,_=>False
theorem oy{h:Heap}:∀{vs:List Q3} {ps:List (List Int)},gu h vs ps->vs.length=ps.length
 |[],[],_=>rfl
 |_::_,_::_,k=>by rw[QV,QV,oy k.2]
 |[],_::_,k=>k.elim
 |_::_,[],k=>k.elim
theorem oz{h:Heap}:∀{vs:List Q3} {ps:List (List Int)} {i:Nat},gu h vs ps->i<ps.length->tQ h (vs.getD i Value.none) (ps.getD i [])
 |[],[],_,_,k=>absurd k (Nat.not_lt_zero _)
 |_::_,_::_,0,k,_=>k.1
 |_::vs,_::ps,i+1,k,l=>by
  show tQ h (vs.getD i Value.none) (ps.getD i []);exact oz k.2 (by rw[QV]at l;omega)
 |[],_::_,_,k,_=>k.elim
 |_::_,[],_,k,_=>k.elim
theorem j2{h h':Heap}{a:Addr}(m:∀b o,b≠a->h.get? b=some o->h'.get? b=some o):∀{vs:List Q3} {ps:List (List Int)},gu h vs ps->(∀v∈vs,v≠.ref a)->gu h' vs ps
 |[],[],_,_=>trivial
 |v::vs,_::_,k,hv=>by
  refine⟨?_,j2 m k.2 fun x hx=>hv x (QX _ hx)⟩;obtain⟨b,o,its,e,rfl,g,c,d⟩:=k.1;exact⟨b,o,its,e,rfl,m b o (fun e=>hv _ QU (by rw[e])) g,c,d⟩
 |[],_::_,k,_=>k.elim
 |_::_,[],k,_=>k.elim
theorem qp{h:Heap}:∀{vs:List Q3} {ps:List (List Int)},gu h vs ps->(∀p∈ps,p≠[])->∃fs,KatTups h vs fs/\fs.length=vs.length/\∀f∈fs,∃i t,f=Value.int i t
 |[],[],_,_=>⟨[],trivial,rfl,fun f hf=>by cases hf⟩
 |v::vs,p::ps,k,ne=>by
  obtain⟨fs,h1,h2,h3⟩:=qp k.2 fun q hq=>ne q (QX _ hq);obtain⟨b,o,its,e,hv,g,c,d,r⟩:=k.1;cases p with
  |nil=>exact absurd rfl (ne [] QU)
  |cons n ns=>
   obtain⟨x,t,hx⟩:∃x t,its.toList=x::t:=by
    cases hl:its.toList with
    |nil=>rw[hl]at r;have:=r.length;simp at this
    |cons x t=>exact⟨x,t,rfl⟩
   have hi:∃i t',x=Value.int i t':=by
    rw[hx]at r;cases r with
    |cons u1 t1=>obtain⟨k1,rfl⟩:=u1;exact⟨_,_,rfl⟩
   refine⟨x::fs,⟨⟨b,o,its,e,hv,g,c,d,?_⟩,h1⟩,by rw[QV,QV,h2],fun f hf=>?_⟩
   ·rw[<-Zv,hx];rfl
   ·rcases Qq.mp hf with z|z
    ·rw[z];exact hi
    ·exact h3 f z
 |[],_::_,k,_=>k.elim
 |_::_,[],k,_=>k.elim
theorem xJ{vs:List Q3}{ps:List (List Int)}{Q:SortKind->Q4->Prop}(h:gu s.heap vs ps)(ne:∀p∈ps,p≠[])(hn:0<vs.length)(q:Q (tuples' true) s):wpAny (Qz prog w) A (keyKind' vs.toArray) Q E s:=by
 obtain⟨fs,h1,h2,h3⟩:=qp h ne;refine kat_kind (T:=Value.type "int") h1 (by omega) (fun v hv A Q E s' _ q=>?_) (by decide +kernel) (by exact q);obtain⟨i,t,rfl⟩:=h3 v hv;exact wpAny_typeOf (typeIs_int s' i t) q
theorem j3{h:Heap}:∀{vs:List Q3} {ps:List (List Int)},gu h vs ps->∀v∈vs,∀a,h.objs.size<=a->v≠.ref a
 |[],[],_,v,hv,_,_=>by cases hv
 |_::_,_::_,k,v,hv,a,ha=>by
  rcases Qq.mp hv with z|z
  ·obtain⟨b,o,its,e,e1,g,_⟩:=k.1;rw[z,e1];intro e2;cases e2;exact absurd (QK g) (Nat.not_lt.mpr ha)
  ·exact j3 k.2 v z a ha
 |[],_::_,k,_,_,_,_=>k.elim
 |_::_,[],k,_,_,_,_=>k.elim
end
theorem Ia{ps:List (List Int)}(nd:ps.Nodup):zN ps.length fun i j=>ltR (ps.getD i []) (ps.getD j []) where
 tr:=fun{i j k} hi hj hk h1 h2=>qD h1 h2
 asym:=fun{i j} hi hj h=>oS h
 tot:=fun{i j} hi hj hne h=>by
  refine yq (fun e=>hne ?_) h;rw[Qv,Qv,Q7 hi,Q7 hj]at e;simp only[Zq]at e;exact(List.getElem_inj nd).mp e
def Jg(ps:List (List Int))(q:Array Nat):Prop:=Pm ps.length q/\Asc (fun i j=>ltR (ps.getD i []) (ps.getD j [])) q ps.length
theorem jo{prog:Qx}{w:Qg}{A:Qd}{E:Q3->Q4->Prop}{s:Q4}{a:Addr}{vs:List Q3}{ps:List (List Int)}{n:Nat}{P:PySem.Fin->Q4->Prop}
  (g:s.heap.get? a=some (seqObj "list" vs.toArray n)) (hp:gu s.heap vs ps) (hv:∀v∈vs,v≠.ref a) (ne:∀p∈ps,p≠[]) (nd:ps.Nodup) (h64:ps.length<64)
  (k:∀q:Array Nat,Jg ps q->P (Fin.done (Flow.ret Value.none)) { s with heap:=sortedHeap s.heap a vs (q.toList.map fun i=>vs.getD i Value.none).toArray }) :
  wpAny (Qz prog w) A (Builtin.«list.sort» { pos:=[Value.ref a] }) P E s:=by
 have hl:=oy hp;by_cases h2:vs.length<2
 ·have hr:((Qa ps.length).toArray.toList.map fun i=>vs.getD i Value.none)=vs:=by
   rw[<-hl];refine List.ext_getElem? fun i=>?_;by_cases hi:i<vs.length
   ·simp[List.getElem?_range hi,Q7 hi]
   ·simp[Zj (Nat.le_of_not_lt hi),hi]
  have:=k (Qa ps.length).toArray ⟨oH,fun i j hij hj=>by omega⟩;rw[hr]at this;exact mG g h2 this
 ·refine oU g (by omega) (by omega) fun h' m=>?_;have hp':gu ({ s with heap:=h' }:Q4).heap vs ps:=j2 m hp hv;refine xJ hp' ne (by omega) ⟨rfl,?_⟩;have hl':vs.length=ps.length:=hl;rw[hl'];refine Eg (Ia nd) (fun i j C hi hj c=>?_) (by omega) fun q P1 P2=>⟨rfl,k q ⟨P1,P2⟩⟩;exact Hg (oz hp' hi) (oz hp' hj) c
theorem sD{prog:Qx}{w:Qg}{A:Qd}{E:Q3->Q4->Prop}{s:Q4}{l:Addr}{vs:List Q3}{ps:List (List Int)}{Q:Q3->Q4->Prop}
  (hL:s.heap.IsList l vs.toArray) (hp:gu s.heap vs ps) (ne:∀p∈ps,p≠[]) (nd:ps.Nodup) (h64:ps.length<64)
  (k:∀q:Array Nat,Jg ps q->Q (Value.ref (s.heap.objs.size+1)) { s with heap:=sortedAll s.heap vs (q.toList.map fun i=>vs.getD i Value.none).toArray }) :
  wpAny (Qz prog w) A (call (Value.builtin "sorted") [Value.ref l]) Q E s:=by
 have hl:=oy hp;have hz:vs.length<=QB:=by unfold QB;omega
 refine Calls.call_function_entry kind_sorted plain_sorted entry_sorted (args_sorted1 _) ?_;unfold Builtin.«sorted»;refine Q2 (m:=checkCount "sorted" 1 1 _) (QJ (Q2 (collect_list hL (Q2 (wpAny_newList ?_ hz)) hz)));have hsz:((s.heap.push (seqObj "list" #[] 0)).update s.heap.objs.size (Obj.mapSeq fun x=>x++vs.toArray)).objs.size=s.heap.objs.size+1:=by
  rw[Heap.size_update,size_push']
 have gL:(((s.heap.push (seqObj "list" #[] 0)).update s.heap.objs.size (Obj.mapSeq fun x=>x++vs.toArray)).push (seqObj "list" vs.toArray 0)).get? (s.heap.objs.size+1)=some (seqObj "list" vs.toArray 0):=by
  rw[<-hsz];exact QM _ rfl
 have old:∀b o,s.heap.get? b=some o->(((s.heap.push (seqObj "list" #[] 0)).update s.heap.objs.size (Obj.mapSeq fun x=>x++vs.toArray)).push (seqObj "list" vs.toArray 0)).get? b=some o:=fun b o g=>by
  refine Q5 _ ?_;rw[Heap.get?_update_ne _ _ _ _ (Qj (QK g))];exact Q5 _ g
 show wpAny _ _ _ _ _ { s with heap:=((s.heap.push (seqObj "list" #[] 0)).update s.heap.objs.size (Obj.mapSeq fun x=>x++vs.toArray)).push (seqObj "list" vs.toArray 0) };rw[show Value.ref ((s.heap.push (seqObj "list" #[] 0)).update s.heap.objs.size (Obj.mapSeq fun x=>x++vs.toArray)).objs.size=Value.ref (s.heap.objs.size+1)from by rw[hsz]];refine Q2 (wpAny_holding (wpAny_call_entry slot_list_sort ⟨_,gL,rfl⟩ entry_list_sort (jo (n:=0) gL (j2 (a:=s.heap.objs.size+1) (fun b o _ g=>old b o g) hp fun v hv=>j3 hp v hv _ (by omega)) (fun v hv=>j3 hp v hv _ (by omega)) ne nd h64 fun q hq=>⟨_,rfl,?_⟩) (args_list_sort _)));exact QJ ⟨_,rfl,k q hq⟩
def RwL(K:Q1)(H:Hp):List V->List (List Int)->Prop
 |[],[]=>True
 |x::xs,p::ps=>(∃a,x=.ref a/\SqT K H a (p.map V.int))/\RwL K H xs ps
 |_,_=>False
theorem xF{K:Q1}{H:Hp}:∀{ys:List V} {ps:List (List Int)},RwL K H ys ps->ys.length=ps.length
 |[],[],_=>rfl
 |_::_,_::_,k=>by rw[QV,QV,xF k.2]
 |[],_::_,k=>k.elim
 |_::_,[],k=>k.elim
theorem Cp{X:Cx}{pins:List (Addr×Obj)}{σ:L2.St}{H:Hp}{s:Q4}(I:Inv X pins σ H s):∀{ys:List V} {ps:List (List Int)} {vs:List Q3},RwL X.K H ys ps->bR ys vs->gu s.heap vs ps
 |[],[],_,_,r=>by cases r;trivial
 |_::_,p::ps,_,k,r=>by
  cases r with
  |cons r1 r2=>
   refine⟨?_,Cp I k.2 r2⟩;obtain⟨a,rfl,hs⟩:=k.1;obtain⟨its,rv,⟨o,g,c,n,d⟩,_⟩:=I.tuple hs;cases r1;exact⟨a,o,_,n,rfl,g,c,d,by simpa using rv⟩
 |[],_::_,_,k,_=>k.elim
 |_::_,[],_,k,_=>k.elim
def oB(K:Q1):List V->Hp->VK->Prop:=fun xs H Q=>∃(p:Addr) (ys:List V) (ps:List (List Int)),xs=[.ref p]/\SqL K H p ys/\RwL K H ys ps/\(∀p∈ps,p≠[])/\ps.Nodup/\ps.length<64/\
 ∀(l:Addr) (q:Array Nat),H l=none->Jg ps q->Q (.ref l) (upd H l (.lst (q.toList.map fun i=>ys.getD i .non)))
theorem yf{X:Cx}:fD X (.builtin "sorted") (oB X.K):=by
 rintro pins s σ H xs us Q I r ⟨p,ys,ps,rfl,hL,hp,ne,nd,h64,q⟩;obtain⟨u,rfl,ru⟩:=kC r;cases ru;obtain⟨its,rv,pl,hz⟩:=I.list hL;have hlen:=xF hp;refine sD pl.isList (Cp I hp rv) ne nd h64 fun qa a1=>?_;obtain⟨e,ge⟩:=sortedAll_at s.heap its (qa.toList.map fun i=>its.getD i Value.none).toArray;have hf:=I.hok.fresh (Nat.le_succ s.heap.objs.size);have hq:qa.toList.length=ps.length:=by rw[Qk,a1.1.sz]
 refine⟨.ref (s.heap.objs.size+1),_,I.laid (o:=.lst (qa.toList.map fun i=>ys.getD i .non)) (t':=s.toks) (fun b o e=>sortedAll_old e) (Nat.le_succ _) ⟨by rw[Q8,hq];unfold QB;omega,_,e,oj rv qa.toList (by rw[hlen];exact iQ a1.1),ge⟩,rfl,q _ qa hf a1⟩
theorem Em{prog:Qx}{w:Qg}{d:Addr}{o:Obj}{es:Array DictEntry}{ep:Nat}(hd:(d == sysModules)=false)(hc:o.ExactDict)(he:o.data=.dict es ep) :
  KdlSrc prog w "dict" d d es.size (fun i v=>∃h:i<es.size,v=es[i].key) (fun h=>h.get? d=some o) where
 type:=fun s g=>⟨o,g,hc.1⟩
 there:=fun h g=>⟨QK g,QK g⟩
 keep:=fun h h' g m=>m d (.inl rfl) o g
 notList:=by decide
 notTuple:=by decide
 hint:=fun A E s Q g q=>kdl_hint_dict ⟨o,g,hc.1⟩ q
 iter:=fun A s hh g=>by
  refine⟨_,fun i h=>h.IsKeyIter s.heap.objs.size d i es.size ep/\h.get? d=some o,fun E Q q=>Av hd g hc he q,?_,⟨⟨_,QM _ rfl,rfl,rfl⟩,Q5 _ g⟩⟩;refine⟨fun b hb=>by simp at hb;simp[hb],fun i h h' st m=>?_,fun i s' Q E hi st k=>?_,fun s' Q E st k=>?_,fun i s' Q E st q=>?_⟩
  ·obtain⟨⟨o1,g1,c1,d1⟩,g2⟩:=st;exact⟨⟨o1,m _ (by simp) o1 g1,c1,d1⟩,m _ (by simp) o g2⟩
  ·refine Aw st.1 st.2 he hi fun h' it' sb=>k _ h' _ ⟨hi,rfl⟩ ⟨it',?_⟩ fun b o' hb g'=>?_
   ·have:d≠s.heap.objs.size:=Qj (QK g);rw[sb.2 d this];exact st.2
   ·rw[sb.2 b (by simpa using hb)];exact g'
  ·exact En hh st.1 st.2 he (QQ _) fun h' eb=>k h' _ fun b o' hb g'=>eb b o' (by simpa using hb) g'
  ·exact wpAny_pyIter_keyiter st.1 q
def oA:List V->Hp->VK->Prop:=fun xs H Q=>∃(d:Addr) (kvs:List (List Key×V)) (ps:List (List Int)),xs=[.ref d]/\H d=some (.dT kvs)/\kvs.map (·.1)=ps.map (fun p=>p.map Sum.inl)/\(∀p∈ps,p≠[])/\ps.Nodup/\ps.length<64/\
 ∀(as:List Addr) (l:Addr) (q:Array Nat),H l=none->as.length=ps.length->(∀(i:Nat) (a:Addr) (p:List Int),as[i]?=some a->ps[i]?=some p->H a=some (.tup (p.map V.int)))->Jg ps q->
  Q (.ref l) (upd H l (.lst (q.toList.map fun i=>.ref (as.getD i 0))))
theorem Ie{H:Hp}:∀{kvs:List (List Key×V)} {xs:List (List Key×Addr×Q3)} {ps:List (List Int)},KT H kvs xs->kvs.map (·.1)=ps.map (fun p=>p.map Sum.inl)->∀(i:Nat) (a:Addr) (p:List Int),(xs.map fun x=>x.2.1)[i]?=some a->ps[i]?=some p->H a=some (.tup (p.map V.int))
 |_,_,ps,.nil,_,i,a,p,h,_=>by simp at h
 |(k,v)::kvs,(k',b,u)::xs,[],.cons r t,e,i,a,p,_,hp=>by simp at hp
 |(k,v)::kvs,(k',b,u)::xs,p0::ps,.cons r t,e,i,a,p,h,hp=>by
  simp only[QF,List.cons.injEq]at e;obtain⟨e1,e2⟩:=e;cases i with
  |zero=>
   simp at h hp;subst h;subst hp;obtain⟨r1,r2,r3⟩:=r;dsimp only at r1 r2;rw[r2,e1,Qu];rfl
  |succ i=>
   simp only[QF,ZI]at h hp;exact Ie t e2 i a p h hp
theorem xI{h:Heap}:∀{as:List Addr} {ps:List (List Int)},as.length=ps.length->(∀(i:Nat) (a:Addr) (p:List Int),as[i]?=some a->ps[i]?=some p->tQ h (.ref a) p)->gu h (as.map Value.ref) ps
 |[],[],_,_=>trivial
 |a::as,p::ps,l,k=>⟨k 0 a p rfl rfl,xI (by simpa using l) fun i a p h1 h2=>k (i+1) a p (by simpa using h1) (by simpa using h2)⟩
 |[],_::_,l,_=>by simp at l
 |_::_,[],l,_=>by simp at l
theorem ye{X:Cx}(hc:X.calm=true):fD X (.builtin "sorted") oA:=by
 rintro pins s σ H xs us Q I r ⟨d,kvs,ps,rfl,hD,hk,ne,nd,h64,q⟩;obtain⟨u,rfl,ru⟩:=kC r;cases ru;obtain⟨z,hd,ks,rel,o,es,ep,h1,h2,h3,h4,h5⟩:=rA I.hok (.inl hD);have lkv:kvs.length=ps.length:=by have:=congrArg List.length hk;simpa using this
 have lks:ks.length=ps.length:=by rw[<-Paired.length rel];exact lkv
 have les:es.size=ps.length:=by rw[<-lks,<-Qk,h4,Q8]
 obtain⟨as,has⟩:∃as,as=ks.map fun x=>x.2.1:=⟨_,rfl⟩;have las:as.length=ps.length:=by rw[has,Q8,lks]
 have hH:∀(i:Nat) (a:Addr) (p:List Int),as[i]?=some a->ps[i]?=some p->H a=some (.tup (p.map V.int)):=by rw[has];exact Ie rel hk
 refine Calls.call_function_entry kind_sorted plain_sorted entry_sorted (args_sorted1 _) ?_;unfold Builtin.«sorted»;refine Q2 (m:=checkCount "sorted" 1 1 _) (QJ (Q2 (kdu_collect (Em hd h2 h3) (show X.A.in1.handled=none from I.ok.hd hc) h1 (by rw[les];unfold QB;omega) fun h' tk acc up hac=>?_)));have hacc:acc.toList=as.map Value.ref:=by
  refine List.ext_getElem? fun i=>?_;by_cases hi:i<es.size
  ·have hi':i<acc.size:=by rw[hac.1];exact hi
   obtain⟨_,e2⟩:=hac.2 i acc[i] (Z8 hi');have e3:acc.toList[i]?=some acc[i]:=by rw[Zv,Z8 hi']
   have hk2:i<ks.length:=by rw[lks,<-les];exact hi
   have e4:es.toList[i]?=some (entryOfKey (tupleKind (bC X.prog X.w)) ks[i]):=by rw[h4,Qr,Q7 hk2];rfl
   rw[Zv,Z8 hi]at e4;rw[e3,e2,Option.some.inj e4,has,Qu,Qr,Q7 hk2];rfl
  ·rw[Zj (by rw[Qk,hac.1];omega),Zj (by rw[Q8,las,<-les];omega)]
 have hrow:∀(i:Nat) (a:Addr) (p:List Int),as[i]?=some a->ps[i]?=some p->tQ h' (.ref a) p:=fun i a p ha hp=>by
  obtain⟨_,its,r,o1,g1,c1,n1,d1⟩:=(show dr X.prog X.w H s.heap a (.tup (p.map V.int))from I.hok a _ (hH i a p ha hp));exact⟨a,o1,_,n1,rfl,up a o1 g1,c1,d1,by simpa using r⟩
 have hrows:gu h' (as.map Value.ref) ps:=xI las hrow;rw[hacc];refine Q2 (wpAny_newList ?_ (by rw[Q8,las];unfold QB;omega));have gL:(h'.push { cls:=.type "list",data:=.seq (as.map Value.ref).toArray }).get? h'.objs.size=some (seqObj "list" (as.map Value.ref).toArray 0):=QM _ rfl;have hv':∀v∈as.map Value.ref,v≠.ref h'.objs.size:=fun v hv=>j3 hrows v hv _ (QQ _);refine Q2 (wpAny_holding (wpAny_call_entry slot_list_sort ⟨_,gL,rfl⟩ entry_list_sort (jo (s:={ s with heap:=h'.push { cls:=.type "list",data:=.seq (as.map Value.ref).toArray },toks:=tk }) gL (j2 (a:=h'.objs.size) (fun b o _ g=>Q5 _ g) hrows hv') hv' ne nd h64 fun qa a1=>⟨_,rfl,?_⟩) (args_list_sort _)));obtain⟨e,ge⟩:=sortedHeap_at (out:=(qa.toList.map fun i=>(as.map Value.ref).getD i Value.none).toArray) gL;have I2:Inv X pins σ H { s with heap:=h',toks:=tk }:=I.kept (t':=tk) up;have old:∀b o,h'.get? b=some o->(sortedHeap (h'.push { cls:=.type "list",data:=.seq (as.map Value.ref).toArray }) h'.objs.size (as.map Value.ref) (qa.toList.map fun i=>(as.map Value.ref).getD i Value.none).toArray).get? b=some o:=fun b o g1=>by
  have lt1:=QK g1;rw[sortedHeap_old (Qj lt1) (by rw[Zc];exact Nat.lt_succ_of_lt lt1)];exact Q5 _ g1
 have hq:qa.toList.length=ps.length:=by rw[Qk,a1.1.sz]
 have rv:=ue as;have gd:∀i,i<as.length->(as.map V.ref).getD i .non=.ref (as.getD i 0):=fun i hi=>by
  simp[Qv,Q7 hi]
 have el:(qa.toList.map fun i=>(as.map V.ref).getD i .non)=qa.toList.map fun i=>V.ref (as.getD i 0):=ZX fun i hi=>gd i (by rw[las];exact iQ a1.1 i hi);refine QJ ⟨_,rfl,.ref h'.objs.size,_,Inv.laid (s:={ s with heap:=h',toks:=tk }) (o:=.lst (qa.toList.map fun i=>.ref (as.getD i 0))) (t':=tk) I2 old (QQ _) ⟨by rw[Q8,hq];unfold QB;omega,_,e,?_,ge⟩,rfl,q as _ qa (I2.hok.fresh (QQ _)) las hH a1⟩;rw[<-el];exact oj rv qa.toList (by rw[Q8,las];exact iQ a1.1)
open Classical in
def kF(ps:List (List Int)):List (List Int):=if h:∃L:List (List Int),L.Pairwise (fun a b=>ltR a b=true)/\∀x,x∈L↔x∈ps then h.choose else[]
theorem rO:∀{L M:List (List Int)},L.Pairwise (fun a b=>ltR a b=true)->M.Pairwise (fun a b=>ltR a b=true)->(∀x,x∈L↔x∈M)->L=M
 |[],[],_,_,_=>rfl
 |[],m::M,_,_,h=>by have:=(h m).mpr QU;cases this
 |l::L,[],_,_,h=>by have:=(h l).mp QU;cases this
 |l::L,m::M,h1,h2,h=>by
  obtain⟨a1,b1⟩:=List.pairwise_cons.mp h1;obtain⟨a2,b2⟩:=List.pairwise_cons.mp h2;have e:l=m:=by
   rcases Qq.mp ((h l).mp QU)with z|z
   ·exact z
   ·rcases Qq.mp ((h m).mpr QU)with y|y
    ·exact y.symm
    ·have p1:=a2 l z;rw[oS (a1 m y)]at p1;cases p1
  subst e;congr 1;refine rO b1 b2 fun x=>⟨fun hx=>?_,fun hx=>?_⟩
  ·rcases Qq.mp ((h x).mp (QX _ hx))with z|z
   ·subst z;have:=a1 x hx;rw[oR]at this;cases this
   ·exact z
  ·rcases Qq.mp ((h x).mpr (QX _ hx))with z|z
   ·subst z;have:=a2 x hx;rw[oR]at this;cases this
   ·exact z
theorem ux{L ps:List (List Int)}(h1:L.Pairwise (fun a b=>ltR a b=true))(h2:∀x,x∈L↔x∈ps):kF ps=L:=by
 have h:∃L:List (List Int),L.Pairwise (fun a b=>ltR a b=true)/\∀x,x∈L↔x∈ps:=⟨L,h1,h2⟩;unfold kF;rw[dif_pos h];obtain⟨k1,k2⟩:=h.choose_spec;exact rO k1 h1 fun x=>(k2 x).trans (h2 x).symm
theorem rP{ps:List (List Int)}{q:Array Nat}(h:Jg ps q):kF ps=q.toList.map fun i=>ps.getD i []:=by
 obtain⟨P,A⟩:=h;have hl:q.toList.length=ps.length:=by rw[Qk,P.sz]
 have gd:∀i (hi:i<q.toList.length),q.getD i 0=q.toList[i]:=fun i hi=>by
  have hi':i<q.size:=by simpa using hi
  rw[ZS,Z8 hi',Array.getElem_toList];rfl
 have h1:(q.toList.map fun i=>ps.getD i []).Pairwise (fun a b=>ltR a b=true):=by
  rw[List.pairwise_iff_getElem];intro i j hi hj hij;rw[Q8]at hi hj;rw[List.getElem_map,List.getElem_map,<-gd i hi,<-gd j hj];exact A i j hij (by omega)
 have nd:(q.toList.map fun i=>ps.getD i []).Nodup:=h1.imp fun{a b} h e=>by subst e;rw[oR]at h;cases h
 have sub:∀x∈q.toList.map fun i=>ps.getD i [],x∈ps:=fun x hx=>by
  obtain⟨i,hi,rfl⟩:=Qn.mp hx;have:=iQ P i hi;rw[Qv,Q7 this];exact Zb this
 refine ux h1 fun x=>⟨sub x,fun hx=>?_⟩;refine Classical.byContradiction fun hn=>?_;have:=List.Nodup.length_le_of_subset (Zk.mpr ⟨hn,nd⟩) (l₂:=ps) fun y hy=>by
  rcases Qq.mp hy with z|z
  ·rw[z];exact hx
  ·exact sub y z
 rw[QV,Q8,hl]at this;omega
def rwU(p:List Int):U:=.tup (p.map U.int)
def sE:List U->Option (List (List Int))
 |[]=>some []
 |.tup us::r=>(sS us).bind fun p=>(sE r).map (p::·)
 |_=>none
theorem qq:∀ps:List (List Int),sE (ps.map rwU)=some ps
 |[]=>rfl
 |p::ps=>by rw[QF,rwU,sE,qK,QZ,qq ps];rfl
theorem uz:∀{us:List U} {ps:List (List Int)},sE us=some ps->us=ps.map rwU
 |[],ps,h=>by cases h;rfl
 |u::us,ps,h=>by
  cases u with
  |tup ws=>
   rw[sE]at h;obtain⟨p,e1,h⟩:=Q0.mp h;obtain⟨qs,e2,h⟩:=Z0.mp h;subst h;rw[QF,<-uz e2,oZ e1];rfl
  |_=>cases h
def Bx:List Key->Option (List Int)
 |[]=>some []
 |.inl i::r=>(Bx r).map (i::·)
 |_=>none
theorem u6:∀{ks:List Key} {ns:List Int},Bx ks=some ns->ks=ns.map Sum.inl
 |[],ns,h=>by cases h;rfl
 |.inl i::r,ns,h=>by
  rw[Bx]at h;obtain⟨qs,e2,h⟩:=Z0.mp h;subst h;rw[QF,<-u6 e2]
 |.inr x::r,ns,h=>by cases h
def Au:List (List Key×U)->Option (List (List Int))
 |[]=>some []
 |(ks,_)::r=>(Bx ks).bind fun p=>(Au r).map (p::·)
theorem uA:∀{kus:List (List Key×U)} {ps:List (List Int)},Au kus=some ps->kus.map (·.1)=ps.map fun p=>p.map Sum.inl
 |[],ps,h=>by cases h;rfl
 |(ks,u)::us,ps,h=>by
  rw[Au]at h;obtain⟨p,e1,h⟩:=Q0.mp h;obtain⟨qs,e2,h⟩:=Z0.mp h;subst h;rw[QF,QF,<-uA e2,u6 e1]
open Classical in
def ja:Fn
 |[.ref l],S=>match S[l]? with
  |some (.lst us)=>(sE us).bind fun ps=>if (∀p∈ps,p≠[])/\ps.Nodup/\ps.length<64 then some (.ref S.length,S++[.lst ((kF ps).map rwU)])else none
  |some (.dit kus)=>(Au kus).bind fun ps=>if (∀p∈ps,p≠[])/\ps.Nodup/\ps.length<64 then some (.ref S.length,S++[.lst ((kF ps).map rwU)])else none
  |_=>none
 |_,_=>none
section
variable{K:Q1}{m:List Addr}{H:Hp}
theorem Co:∀{ys:List V} {ps:List (List Int)},IsL K m H ys (ps.map rwU)->RwL K H ys ps
 |ys,[],h=>by rw[h.of_nil];trivial
 |ys,p::ps,h=>by
  obtain⟨y,r,rfl,i,t⟩:=h.of_cons;obtain⟨a,xs,rfl,hs,il⟩:=i.of_tup;have e:xs=p.map V.int:=IsL.ints il;subst e;exact⟨⟨a,rfl,hs⟩,Co t⟩
theorem xG:∀{ys:List V} {ps:List (List Int)} {i:Nat},RwL K H ys ps->i<ps.length->Is K m H (ys.getD i .non) (rwU (ps.getD i []))
 |[],[],i,_,h=>by simp at h
 |y::ys,p::ps,0,k,_=>by
  obtain⟨a,e,hs⟩:=k.1;show Is K m H y (rwU p);rw[e];exact .tup_ hs (i9 p)
 |y::ys,p::ps,i+1,k,h=>by
  show Is K m H (ys.getD i .non) (rwU (ps.getD i []));exact xG k.2 (by simpa using h)
 |[],_::_,_,k,_=>k.elim
 |_::_,[],_,k,_=>k.elim
theorem xE{ys:List V}{ps:List (List Int)}(k:RwL K H ys ps):∀is:List Nat,(∀i∈is,i<ps.length)->IsL K m H (is.map fun i=>ys.getD i .non) (is.map fun i=>rwU (ps.getD i []))
 |[],_=>.nil_
 |i::is,h=>.cons_ (xG k (h i QU)) (xE k is fun j hj=>h j (QX _ hj))
theorem zC{as:List Addr}{ps:List (List Int)}(la:as.length=ps.length)(hH:∀(i:Nat) (a:Addr) (p:List Int),as[i]?=some a->ps[i]?=some p->H a=some (.tup (p.map V.int))):∀is:List Nat,(∀i∈is,i<ps.length)->IsL K m H (is.map fun i=>V.ref (as.getD i 0)) (is.map fun i=>rwU (ps.getD i []))
 |[],_=>.nil_
 |i::is,h=>by
  have hi:=h i QU;have hi':i<as.length:=by rw[la];exact hi
  refine .cons_ ?_ (zC la hH is fun j hj=>h j (QX _ hj));have e1:as.getD i 0=as[i]:=by rw[Qv,Q7 hi'];rfl
  have e2:ps.getD i []=ps[i]:=by rw[Qv,Q7 hi];rfl
  show Is K m H (V.ref (as.getD i 0)) (rwU (ps.getD i []));rw[e1,e2];exact .tup_ (SqT.of (hH i _ _ (Q7 hi') (Q7 hi))) (i9 _)
end
def wb{X:Cx}(hc:X.calm=true):fD X (.builtin "sorted") (fun xs H Q=>oB X.K xs H Q\/oA xs H Q):=yf.or (ye hc)
theorem x5{K:Q1}:k6 K (fun xs H Q=>oB K xs H Q\/oA xs H Q) ja:=by
 intro m S H us vs u S' Q sr i hf post;match us,hf with
 |[.ref l],hf=>
  obtain⟨v,rfl,iv⟩:=i.one;obtain⟨a,ha,rfl⟩:=iv.of_ref;simp only[ja]at hf;split at hf<;>try cases hf
  ·rename_i ws hS;obtain⟨ps,hn,h⟩:=Q0.mp hf;split at h<;>try cases h
   have hc:(∀p∈ps,p≠[])/\ps.Nodup/\ps.length<64:=by assumption
   obtain⟨a',ha',xs,hx,la⟩:=sr.get hS;rw[ha]at ha';cases ha';rw[uz hn]at la;have pr:=Co la;refine .inl ⟨a,xs,ps,rfl,SqL.of hx,pr,hc.1,hc.2.1,hc.2.2,fun p q hp aq=>?_⟩;have il:=xE (m:=m) pr q.toList (iQ aq.1);have e:(q.toList.map fun i=>rwU (ps.getD i []))=(kF ps).map rwU:=by rw[rP aq,Qu];rfl
   rw[e]at il;exact ej sr il post hp
  ·rename_i ws hS;obtain⟨ps,hn,h⟩:=Q0.mp hf;split at h<;>try cases h
   have hc:(∀p∈ps,p≠[])/\ps.Nodup/\ps.length<64:=by assumption
   obtain⟨a',ha',kvs,hx,ip⟩:=sr.get hS;rw[ha]at ha';cases ha';refine .inr ⟨a,kvs,ps,rfl,hx,ip.1.trans (uA hn),hc.1,hc.2.1,hc.2.2,fun as p q hp las hH aq=>?_⟩;have il:=zC (m:=m) (K:=K) las hH q.toList (iQ aq.1);have e:(q.toList.map fun i=>rwU (ps.getD i []))=(kF ps).map rwU:=by rw[rP aq,Qu];rfl
   rw[e]at il;exact ej sr il post hp
def J5{ns:List Int}{i:Int}{S:Sto}:fIx (.kl ns) (.int i) S=(atI (ns.map U.int) i).bind fun u=>some (u,S):=rfl
def B7{ns:List Int}{S:Sto}:n9 [.kl ns] S=some (.int ns.length,S):=rfl
section
variable{X:Cx}{K:Q1}
def ib{κ α:Type}[DecidableEq κ](kus:List (κ×α))(k:κ):List (κ×α):=kus.filter fun p=>decide (p.1≠k)
theorem IsP.dropP{m:List Addr}{H:Hp}{kvs:List (Key×V)}{kus:List (Key×U)}{k:Key}(h:IsP K m H kvs kus):IsP K m H (pL kvs k) (ib kus k):=by
 refine IsP.ind (P:=fun kvs kus=>IsP K m H (pL kvs k) (ib kus k)) .nil_ (fun k' v u kvs kus i _ ih=>?_) h;unfold pL ib at ih ⊢;by_cases e:k'=k
 ·rw[List.filter_cons_of_neg (by simp[e]),List.filter_cons_of_neg (by simp[e])];exact ih
 ·rw[List.filter_cons_of_pos (by simp[e]),List.filter_cons_of_pos (by simp[e])];exact .cons_ i ih
def Fu:U->U->Sto->Option (U×Sto):=fun x y S=>match x with
 |.ref l=>match S[l]? with
  |some (.dic kus)=>(lB y).bind fun k=>(bq kus k).bind fun u=>some (u,S.set l (.dic (ib kus k)))
  |_=>none
 |_=>none
def zr(co ck:CE):CE:=fun ρ S=>(co ρ S).bind fun p=>match p.1 with
 |.ref l=>match p.2[l]? with
  |some (.dic _)=>(ck ρ p.2).bind fun q=>Fu p.1 q.1 q.2
  |_=>none
 |_=>none
theorem Hm{o e:QH}{co ck:CE}{apos cpos:Pos}(ho:QE X o co)(he:QE X e ck)(m1:M1 X o "pop" apos e cpos):QE X (.Call (.Attribute o "pop" apos) [e] [] cpos) (zr co ck):=
 (xm ho he m1).imp fun σ H Q hz=>lD hz fun m ρ S u S' sr lr hc post=>by
 obtain⟨⟨x,S1⟩,h1,h⟩:=Q0.mp hc;refine⟨m,ρ,S,_,S1,sr,lr,h1,fun m1 v1 H1 e1 sr1 i1=>?_⟩;cases x with
 |ref l=>
  simp only at h;split at h<;>try cases h
  rename_i kus0 hS0;obtain⟨⟨y,S2⟩,h3,h4⟩:=Q0.mp h;obtain⟨a,ha,rfl⟩:=i1.of_ref;obtain⟨a0,ha0,kvs0,hx0,ip0⟩:=sr1.get hS0;rw[ha]at ha0;cases ha0;refine⟨a,rfl,.inl ⟨kvs0,.inl hx0⟩,m1,ρ,S1,_,S2,sr1,lr.mono e1,h3,fun m2 v2 H2 e2 sr2 i2=>?_⟩;simp only[Fu]at h4;split at h4<;>try cases h4
  rename_i kus hS;obtain⟨k,hk,h5⟩:=Q0.mp h4;obtain⟨w,hw,h6⟩:=Q0.mp h5;cases h6;obtain⟨a',ha',kvs,hx,ip⟩:=sr2.get hS;rw[e2.get ha]at ha';cases ha';have ek:=iS i2 hk;have rf:=IsP.val (k:=k) ip;rw[hw]at rf;cases hv:jc kvs k with
  |none=>rw[hv]at rf;exact rf.elim
  |some z=>
   rw[hv]at rf;have ee:Ext X.K m2 H2 m2 (upd H2 a (.dK (pL kvs k))):=.of (sr2.keep (e2.get ha) _);exact⟨kvs,k,z,hx,ek,hv,post m2 _ _ ((e1.trans e2).trans ee) (sr2.put (e2.get ha) ⟨_,aL,ip.dropP.mono ee⟩) (Is.mono ee rf)⟩
 |_=>cases h
def LX:R2:=fun x y H Q=>∃(a b:Addr) (kvs:List (Key×V)),x=.ref a/\y=.ref b/\H a=some (.dK kvs)/\H b=some (.dK [])/\Q (.bl (decide (kvs.length=0))) H
theorem HW(hu:X.A.units+64<cLine):OpR X (compareOp .Eq) LX:=by
 rintro pins s σ H x y v u Q I rx ry ⟨a,b,kvs,rfl,rfl,ha,hb,q⟩;cases rx;cases ry;obtain⟨z,hd,vs,rel,dd⟩:=pM I.hok ha;obtain⟨z',hd',vs',rel',dd'⟩:=pM I.hok hb;have lv:vs.length=kvs.length:=(Paired.length rel).symm;have lv':vs'.length=0:=(Paired.length rel').symm;have ev:vs'=[]:=ZG.mp lv';subst ev;refine keq_eq (r:=true) hd hd' dd dd' (by omega) (fun e=>?_) ⟨.bl _,H,I,rfl,?_⟩
 ·have:vs=[]:=ZG.mp e;subst this;exact .nil
 ·have e:(vs.length == ([]:List (Key×Q3)).length&&true)=decide (kvs.length=0):=by
   rw[Bool.and_true,lv,Zh,ZK];simp
  rw[e];exact q
def IP:U->U->Sto->Option (U×Sto)
 |.ref l,.ref k,S=>match S[l]?,S[k]? with
  |some (.dic kus),some (.dic [])=>some (.bl (decide (kus.length=0)),S)
  |_,_=>none
 |_,_,_=>none
theorem K7:OpP K LX IP:=by
 intro m S H x y v w u S' Q sr ix iy hf post;cases x with
 |ref l=>
  cases y with
  |ref k=>
   simp only[IP]at hf;split at hf<;>try cases hf
   rename_i kus h1 h2;obtain⟨a,ha,rfl⟩:=ix.of_ref;obtain⟨b,hb,rfl⟩:=iy.of_ref;obtain⟨a',ha',kvs,hx,ip⟩:=sr.get h1;rw[ha]at ha';cases ha';obtain⟨b',hb',kvs',hx',ip'⟩:=sr.get h2;rw[hb]at hb';cases hb';have l0:kvs'=[]:=by
    have:=IsP.length ip';exact ZG.mp this
   subst l0;exact⟨a,b,kvs,rfl,rfl,hx,hx',by rw[IsP.length ip];exact post m _ H .refl sr .bl_⟩
  |_=>cases hf
 |_=>cases hf
def pS(c1 c2:CE):CE:=fun ρ S=>match c1 ρ S with
 |some r=>some r
 |none=>c2 ρ S
theorem AB{e:QH}{c1 c2:CE}(h1:QE X e c1)(h2:QE X e c2):QE X e (pS c1 c2):=
 (h1.or h2).imp fun σ H Q hz=>lD hz fun m ρ S u S' sr lr hc post=>by
 unfold pS at hc;split at hc
 ·rename_i r hr;cases hc;exact .inl ⟨m,ρ,S,u,S',sr,lr,hr,post⟩
 ·exact .inr ⟨m,ρ,S,u,S',sr,lr,hc,post⟩
end
end OP
namespace OP
open PySem PySem.Spec PyProof PyProof.Rows L2 OG PySem.W HT
section
variable{prog:Qx}{w:Qg}{A:Qd}{E:Q3->Q4->Prop}{s:Q4}
theorem pB{t sl:Addr}{items:Array Q3}{vl vu:Q3}{lo hi:Option Int}{Q:Q3->Q4->Prop}(ht:IsTup s.heap t items)(hs:s.heap.IsSliceOf sl vl vu .none)(pl:IsPart vl lo)(pu:IsPart vu hi)
  (hw:sIx items.size 0 lo=0/\sIx items.size items.size hi=items.size) (h:Q (.ref t) s):wpAny (Qz prog w) A (getItem (.ref t) (.ref sl)) Q E s:=by
 obtain⟨os,hos,hcs,hds⟩:=id hs;have hT:s.TypeIs (.ref sl) "slice":=⟨os,hos,hcs⟩;unfold getItem;try with_reducible refine wpAny_holding ?_
 first|refine Q2 (QJ ?_)|skip
 refine Q2 (wpAny_sequenceKey ht.typeIs (by decide) ?_);refine Q2 (wpAny_callSpecial?_slot (name:=Str.ofString "__getitem__") ht.typeIs PyProof.Rows.slot_tuple_getitem (wpAny_call_entry PyProof.Rows.slot_tuple_getitem ht.typeIs entry_tuple_getitem ?_ (args_tuple_getitem _ _)));show wpAny _ _ (Builtin.Tuple.tupleItemsOf (.ref t) >>= _) _ _ s;refine Q2 (tupleItemsOf_ ht (Q2 (wpAny_typeOf hT ?_)));rw[if_pos (by decide)];refine Q2 (hJ hs pl pu ?_);rw[hw.1,hw.2,Nat.sub_zero];dsimp only;rw[if_pos (by simp)];unfold Builtin.Tuple.tupleIsExact;refine Q2 (Q2 (wpAny_typeOf ht.typeIs (QJ ?_)));rw[if_pos (by decide)];exact Q2 (wpAny_rule (QJ ⟨_,rfl,QJ h⟩))
end
section
variable{X:Cx}
def MS(K:Q1):V->Option Int->Option Int->Hp->VK->Prop:=fun x lo hi H Q=>∃a xs,x=.ref a/\SqT K H a xs/\(sIx xs.length 0 lo=0/\sIx xs.length xs.length hi=xs.length)/\Q (.ref a) H
theorem Ei:SlR X (MS X.K):=by
 intro pins s σ H x v vl vu lo hi sl Q I rx hs pl pu h;obtain⟨a,xs,rfl,hx,hw,q⟩:=h;cases rx;obtain⟨its,r,ht,hz⟩:=I.tuple hx;have hlen:its.toArray.size=xs.length:=by rw[QD];exact r.length.symm
 exact⟨"tuple",_,PyProof.Rows.slot_tuple_getitem.lookup,ht.typeIs,pB ht hs pl pu (by rw[hlen];exact hw) ⟨.ref a,H,I,rfl,q⟩⟩
def Jv(x:U)(lo hi:Option Int)(S:Sto):Option (U×Sto):=match x with
 |.tup us=>some (.tup (BI us lo hi),S)
 |.ref l=>match S[l]? with
  |some (.lst us)=>some (.ref S.length,S++[.lst (BI us lo hi)])
  |_=>none
 |_=>none
def IW(ca:CE)(cl ch:Option CE):CE:=fun ρ S=>(ca ρ S).bind fun p=>(FD cl ρ p.2).bind fun q=>(FD ch ρ q.2).bind fun r=>Jv p.1 q.1 r.1 r.2
theorem Hj{e:QH}{lo hi:Option QH}{ca:CE}{cl ch:Option CE}{pos p2:Pos}(ha:QE X e ca)(hl:QO X lo cl)(hh:QO X hi ch):QE X (.Subscript e (.Slice lo hi none p2) pos) (IW ca cl ch):=(xj (Ej.or (Hc.or Ei)) ha hl hh).imp fun σ H Q hz=>lD hz fun m ρ S u S' sr lr hc post=>by
 obtain⟨⟨x,S1⟩,h1,ha⟩:=Q0.mp hc;obtain⟨⟨l,S2⟩,h2,hb⟩:=Q0.mp ha;obtain⟨⟨k,S3⟩,h3,h⟩:=Q0.mp hb;clear ha hb hc;refine⟨m,ρ,S,x,S1,sr,lr,h1,fun m1 v1 H1 e1 sr1 i1=>⟨m1,ρ,S1,l,S2,sr1,lr.mono e1,h2,fun m2 H2 e2 sr2=>⟨m2,ρ,S2,k,S3,sr2,lr.mono (e1.trans e2),h3,fun m3 H3 e3 sr3=>?_⟩⟩⟩;have i3:=i1.mono (e2.trans e3);have e03:=(e1.trans e2).trans e3;cases x with
 |tup us=>
  simp only[Jv]at h;cases h;obtain⟨a,xs,rfl,sa,la⟩:=i3.of_tup;by_cases hw:sIx us.length 0 l=0/\sIx us.length us.length k=us.length
  ·have e:BI us l k=us:=by
    unfold BI;rw[hw.1,hw.2,List.drop_zero,Nat.sub_zero,List.take_length]
   rw[e]at post;exact .inr (.inr ⟨a,xs,rfl,sa,by rw[la.length];exact hw,post m3 _ H3 e03 sr3 (.tup_ sa la)⟩)
  ·exact .inr (.inl ⟨a,xs,rfl,sa,by rw[la.length];exact hw,fun p hp=>oG sr3 (CZ la) (post.mono e03) hp⟩)
 |ref r=>
  simp only[Jv]at h;split at h<;>try cases h
  rename_i us hS;obtain⟨a,ha,rfl⟩:=i3.of_ref;obtain⟨a',ha',xs,hx,la⟩:=sr3.get hS;rw[ha]at ha';cases ha';exact .inl ⟨a,xs,rfl,SqL.of hx,fun p hp=>ej sr3 (CZ la) (post.mono e03) hp⟩
 |_=>simp[Jv]at h
end
end OP
namespace OP
open PySem PySem.Spec PyProof.Rows L2 OG
section
variable{P:Qx}{w:Qg}{K:Q1}{h base:Heap}{mg:Str->Option Q3}{x q:Str}{st:Qm}{f C:Addr}{oc:Q3}{od an:Option Addr}{osl:Array (Option Q3)}{kV doc pm cdv ct:Q3}{ps N:List Str}{k:Nat}{c:CS}{cl:Cl}
def MC(K:Q1)(x q:Str)(st:Qm)(f:Addr):Prop:=∃fd,Fun K x q st f fd
abbrev fAt(x q:Str)(st:Qm)(oc:Q3)(od an:Option Addr)(osl:Array (Option Q3))(kV doc pm cdv ct:Q3):Obj:=⟨oc,od,.func (PySem.W.fnOf x q (jF st) (dP st) (aA st) .none kV doc pm an cdv ct),osl⟩
def Je(K:Q1)(x:Str)(st:Qm):Prop:=∃f,PySem.W.nsIn K mainGlobals x=some (some (.ref f))/\MC K x x st f
theorem M9(a:PySem.W.nsIn K mainGlobals x=some (some (.ref f)))(l:K.lookup f=some (fAt x x st oc od an osl kV doc pm cdv ct))(c:PySem.W.codeIn K cdv x=true)(k:PySem.W.keepIn K (.ref f)=true):Je K x st:=⟨f,a,_,CP l c k⟩
def Jd(K:Q1):List (Str×Qm)->Prop
 |[]=>True
 |(x,st)::r=>Je K x st/\Jd K r
def Ja(K:Q1)(C:Addr)(x q:Str)(st:Qm):Prop:=∃f,PySem.W.findIn K (.ref C) x=some (some (.ref f))/\PySem.W.isFn K (.ref f)=true/\MC K x q st f
theorem LZ(a:PySem.W.findIn K (.ref C) x=some (some (.ref f)))(i:PySem.W.isFn K (.ref f)=true)(l:K.lookup f=some (fAt x q st oc od an osl kV doc pm cdv ct))(c:PySem.W.codeIn K cdv q=true)(k:PySem.W.keepIn K (.ref f)=true):Ja K C x q st:=⟨f,a,i,_,CP l c k⟩
def I0(K:Q1)(C:Addr):List (Str×Str×Qm)->Prop
 |[]=>True
 |(x,q,st)::r=>Ja K C x q st/\I0 K C r
def IZ(K:Q1)(C:Addr):List Str->Prop
 |[]=>True
 |x::r=>PySem.W.findIn K (.ref C) x=some none/\IZ K C r
def JC(K:Q1):List Str->Prop
 |[]=>True
 |x::r=>PySem.W.nsIn K mainGlobals x=some none/\JC K r
structure F0(K:Q1)(x:Str)(C:Addr)(ns:List Str)(ms:List (Str×Str×Qm)):Prop where
 a:PySem.W.nsIn K mainGlobals x=some (some (.ref C))
 pg:PySem.W.plainGet K C Str.empty=true
 hd:PySem.W.hasDictIn K C=true
 po:PySem.W.plainOver K C=true
 sa:PySem.W.findIn K (.ref C) "__setattr__"=some (some (.builtin "object.__setattr__"))
 mc:PySem.W.makesIn K C=true
 kc:PySem.W.keepIn K (.ref C)=true
 nf:IZ K C ns
 ms:I0 K C ms
theorem IZ.nas:∀{ns:List Str},IZ K C ns->∀f∈ns,PySem.W.findIn K (.ref C) f=some none
 |[],_,f,h=>by cases h
 |x::r,h,f,hf=>by
  rcases Qq.mp hf with rfl|z
  ·exact h.1
  ·exact IZ.nas h.2 f z
theorem F0.tc{ns:List Str}{ms:List (Str×Str×Qm)}(h:F0 K x C ns ms):TC K (⟨C,ns⟩:Cl) ns:=⟨⟨h.pg,h.hd,h.po,h.sa⟩,rfl,fun f hf=>h.nf.nas f hf⟩
abbrev Bd(x q:Str)(st:Qm)(ps:List Str):Prop:=∀us:List Q3,us.length=ps.length->∀(kV doc pm:Q3) (an:Option Addr) (cdv ct:Q3),bindArgs (PySem.W.fnOf x q (jF st) (dP st) (aA st) .none kV doc pm an cdv ct) ⟨us,[]⟩=pure (ps.zip us)
theorem Je.df(d:Je K x st)(X:K.In h)(G:h.Ns mainGlobals mg)(b:Bd x x st ps:=by first|exact FX fun _ _ _ _ _ _=>rfl|(repeat (first|exact FX fun _ _ _ _ _ _=>rfl|refine Ly fun _=>?_))):Def K mg x st ps:=by
 obtain⟨f,a,fd,F⟩:=d;exact⟨f,fd,F,F.binds fun kV doc pm an cdv ct us hl=>b us hl kV doc pm an cdv ct,PySem.W.mg_of X G a⟩
def MtD(K:Q1)(C:Addr)(x q:Str)(st:Qm)(ps:List Str):Prop:=∃fa fd,Fun K x q st fa fd/\ig K fd ps []/\FL K C x fa
theorem Ja.mt(d:Ja K C x q st)(b:Bd x q st ps:=by first|exact FX fun _ _ _ _ _ _=>rfl|(repeat (first|exact FX fun _ _ _ _ _ _=>rfl|refine Ly fun _=>?_))):MtD K C x q st ps:=by
 obtain⟨f,a,i,fd,F⟩:=d;exact⟨f,fd,F,F.binds fun kV doc pm an cdv ct us hl=>b us hl kV doc pm an cdv ct,a,i,F.kp⟩
theorem MtD.pure(d:MtD K cl.C x q st ps)(S:aV N ps (aA st))
  (hb:∀(f:Addr) (cdv:Q3) (A:Qd) (outer:List Env) (s:Q4) (H:Hp) (E:XK),fY k (A.deeper (envOfC q (aA st) s.heap.objs.size f cdv))->WSs (rX CX0 P w K mg base N q (aA st) f cdv A outer s H E).nox (dP st) (tS K c)) :
  eZ P w K mg base cl x (k+1) ps (fnU N.length ps.length c):=by
 obtain⟨fa,fd,F,b,m⟩:=d;exact⟨fa,fd,m,F.pure S (hb fa),b⟩
def MkD(K:Q1)(mg:Str->Option Q3)(C:Addr)(x q:Str)(st:Qm)(ps:List Str):Prop:=∃fa fd,Fun K "__init__" q st fa fd/\ig K fd ps []/\Mk K C fa/\mg x=some (.ref C)
theorem F0.mkd{ns:List Str}{ms:List (Str×Str×Qm)}(h0:F0 K x C ns ms)(d:Ja K C "__init__" q st)(X:K.In h)(G:h.Ns mainGlobals mg)(b:Bd "__init__" q st ps:=by first|exact FX fun _ _ _ _ _ _=>rfl|(repeat (first|exact FX fun _ _ _ _ _ _=>rfl|refine Ly fun _=>?_))):MkD K mg C x q st ps:=by
 obtain⟨f,a,i,fd,F⟩:=d;exact⟨f,fd,F,F.binds fun kV doc pm an cdv ct us hl=>b us hl kV doc pm an cdv ct,⟨h0.mc,a,i,h0.kc⟩,PySem.W.mg_of X G h0.a⟩
theorem MkD.pure{NS:List Str}(d:MkD K mg cl.C x q st ps)(T:TC K cl NS)(S:aV N ps (aA st))
  (hb:∀(f:Addr) (cdv:Q3) (A:Qd) (outer:List Env) (s:Q4) (H:Hp) (E:XK),fY k (A.deeper (envOfC q (aA st) s.heap.objs.size f cdv))->WSs (rX CX0 P w K mg base N q (aA st) f cdv A outer s H E).nox (dP st) (tS K c))
  (nd:NS.Nodup:=by decide +kernel) (few:NS.length<1000:=by decide):CMk P w K mg base cl x (k+1) ps (fnU N.length ps.length c):=by
 obtain⟨fa,fd,F,b,m,g⟩:=d;exact⟨⟨fa,fd,m,F.pure S (hb fa),b,g⟩,by rw[T.ns];exact nd,by rw[T.ns];exact few⟩
def MA:List Str:=["len","isinstance","int","bool","str","tuple","list","range","min","sum","all","zip","sorted","dict","enumerate","any","max","set"]
theorem JC.blt(z:JC K MA)(X:K.In h)(G:h.Ns mainGlobals mg):Blt mg:=by
 obtain⟨a,b,c,d,e,f,g,i,j,k,l,m,n,o,p,q,r,s,-⟩:=z;constructor<;>(refine PySem.W.mg_none_of X G ?_;assumption)
end
end OP
namespace OG
open PySem PySem.Spec PyProof.Rows L2
def IT(qual:Str)(scope:Zr)(L f:Addr)(cd:Q3)(cl:List (Str×Addr)):Env:=newEnv scope L mainGlobals cl (qual++".<locals>.") (some f) cd none builtinsNs
def cxL(P:Qx)(w:Qg)(K:Q1)(mg:Str->Option Q3)(base:Heap)(N:List Str)(qual:Str)(scope:Zr)(f:Addr)(cd:Q3)(cl:List (Str×Addr))(A:Qd)(outer:List Env)(s:Q4)(H:Hp):Cx where
 prog:=P
 w:=w
 K:=K
 mg:=mg
 base:=base
 A:=A.deeper (IT qual scope s.heap.objs.size f cd cl)
 N:=N
 s₀:=s
 H₀:=H
 env:=IT qual scope s.heap.objs.size f cd cl
 outer:=outer
 stack:=IT qual scope s.heap.objs.size f cd cl::outer
 ex:=[]
 calm:=true
 fn:=fun _=>false
 pn:=[]
 xe:=fun _ _=>False
structure JE(scope:Zr)(cl:List (Str×Addr))(h:Heap)(H:Hp)(x:Str)(v:V):Prop where
 ex:scope.names.lookup x=some .free/\∃c u,cl.lookup x=some c/\h.IsCell c (some u)/\cE v u
section
variable{P:Qx}{w:Qg}{K:Q1}{mg:Str->Option Q3}{base:Heap}{p:Str}{capN:List Str}{qual name:Str}{scope:Zr}{f:Addr}{cl:List (Str×Addr)}{A:Qd}{outer:List Env}{s:Q4}{H:Hp}{v:V}{vc:List V}{u cd:Q3}
theorem Fj{h1:Heap}{t':Nat}(e0:t7 P w K mg base A outer s H)(hd:A.handled=none)(hkind:scope.kind=.function)(hp:scope.names.lookup p=some .local)(r:cE v u)
  (hinj:∀x y c,cl.lookup x=some c->cl.lookup y=some c->x=y) (hhas:∀x,(scope.names.lookup x=some .cell\/scope.names.lookup x=some .free)->∃c,cl.lookup x=some c)
  (hcl:∀x c,cl.lookup x=some c->(∃u,s.heap.IsCell c u)/\H c=none)
  (hcap:Paired (fun x v=>JE scope cl s.heap H x v) capN vc)
  (hns:h1.Ns s.heap.objs.size (fun x=>([(p,u)]:List (Str×Q3)).reverse.lookup x)) (hk:∀b o,s.heap.get? b=some o->h1.get? b=some o) :
  Inv (cxL P w K mg base (p::capN) qual scope f cd cl A outer s H) [] (some v::vc.map some) H { s with heap:=h1,toks:=t' }:=by
 have noA:∀b:Addr,b∉(cxL P w K mg base (p::capN) qual scope f cd cl A outer s H).ex:=fun b z=>absurd (show b∈([]:List Addr)from z) (by simp);have cellK:∀c v,s.heap.IsCell c v->h1.IsCell c v:=fun c v ⟨o,ho,hd⟩=>⟨o,hk _ _ ho,hd⟩;refine⟨⟨e0.mod,hkind,rfl,rfl,QQ _,hinj,hhas,fun y c z=>(nomatch z),fun _=>hd,Around.frames_deeper e0.frames,.inr ⟨rfl,rfl⟩,fun b z=>absurd z (noA b),e0.bs,e0.bsz,fun b _ _=>noA b,fun b z=>absurd z (noA b),e0.funs,e0.frf⟩,
  rfl,e0.bare,Un.kept hk,⟨_,hns,fun i y v' h1' h2 h3=>?_⟩,fun y c h=>?_,e0.hok.fresh (QQ _),fun y c h=>(hcl y c h).2,fun p hp=>absurd (show p∈([]:List (Addr×Obj))from hp) (by simp),e0.hok.kept hk,?_⟩
 ·cases i with
  |zero=>
   have e1:p=y:=by simpa [cxL] using h1'
   have e2:v=v':=by simpa using h2
   subst e1;subst e2;exact⟨u,r,.inl ⟨hp,by simp⟩⟩
  |succ i=>
   have e1:capN[i]?=some y:=by simpa [cxL] using h1'
   have e2:vc[i]?=some v':=by
    simp only[ZI,Qr]at h2;cases q:vc[i]? with
    |none=>rw[q]at h2;cases h2
    |some z=>rw[q]at h2;cases h2;rfl
   have get:∀{l1:List Str} {l2:List V} {i:Nat},Paired (fun x v=>JE scope cl s.heap H x v) l1 l2->l1[i]?=some y->l2[i]?=some v'->JE scope cl s.heap H y v':=by
    intro l1 l2 i hq;induction hq generalizing i with
    |nil=>intro z;simp at z
    |cons a b ih=>cases i with
     |zero=>intro z1 z2;simp at z1 z2;subst z1;subst z2;exact a
     |succ i=>intro z1 z2;exact ih (by simpa using z1) (by simpa using z2)
   obtain⟨k1,c,u1,k2,k3,k4⟩:=(get hcap e1 e2).ex;exact⟨u1,k4,.inr ⟨.inr k1,c,k2,cellK _ _ k3⟩⟩
 ·obtain⟨z,q⟩:=(hcl y c h).1;exact⟨z,cellK _ _ q⟩
 ·show(some v::vc.map some).length=(p::capN).length;have:=hcap.length;simp only[QV,Q8];omega
theorem E8{c:Addr}{pm ctv:Q3}{params:Arguments}{body:PySem.Expr}{te:TE}{Q:VK}(hroom:A.depth<recursionLimit)(e0:t7 P w K mg base A outer s H)(hd:A.handled=none)
  (ho:s.heap.get? f=some (PySem.W.kla_obj name qual params body scope cl pm c ctv)) (hcd:s.heap.CodeRec (.ref c) qual) (hco:scope.isCoroutine=false) (hgen:scope.isGenerator=false) (hkind:scope.kind=.function)
  (hcell:∀x∈scope.names,x.2≠.cell) (hp:scope.names.lookup p=some .local) (hbind:bindArgs (PySem.W.kla_fn name qual params body scope cl pm (.ref c) ctv) ⟨[u],[]⟩=pure [(p,u)]) (r:cE v u)
  (hinj:∀x y c,cl.lookup x=some c->cl.lookup y=some c->x=y) (hhas:∀x,(scope.names.lookup x=some .cell\/scope.names.lookup x=some .free)->∃c,cl.lookup x=some c)
  (hcl:∀x c,cl.lookup x=some c->(∃u,s.heap.IsCell c u)/\H c=none) (hcap:Paired (fun x v=>JE scope cl s.heap H x v) capN vc)
  (hb:WE (cxL P w K mg base (p::capN) qual scope f (.ref c) cl A outer s H) body te) (hq:te (some v::vc.map some) H Q) :
  codeAny (Qz P w) A (.call (.ref f) ⟨[u],[]⟩) (fun r s'=>∃u',r=.ok (.ret u')/\CE outer P w H s Q u' s') s:=by
 have lim:s.heap.NoLimit:=e0.mod.nolimit.keeps fun b o e=>(e0.bs b o e).1;refine PySem.W.kla_callFunE hroom ho rfl hco hgen rfl hcd ?_;rw[hbind];refine QJ (wpAny_newFunctionEnv hcell (fun x hx=>(show x=(p,u)by simpa using hx)▸hp) (fun h₁ hns hsb=>?_) hkind);have hk₁:∀b o,s.heap.get? b=some o->h₁.get? b=some o:=fun b o e=>hsb.extBut b o (Qj (QK e)) (Q5 _ e);refine⟨lim.keeps hk₁,?_⟩;show codeAny _ _ (.expr body (IT qual scope s.heap.objs.size f (.ref c) cl)) _ _;refine PySem.W.kla_codeExpr (Z6 (hb.h [] _ _ H Q (Fj e0 hd hkind hp r hinj hhas hcl hcap hns hk₁) hq) (fun u' s' h=>?_) fun _ _ z=>z.elim);obtain⟨v',H',I',rv,q⟩:=h;exact⟨u',rfl,v',H',I'.os,I'.bare,I'.base,I'.hok,rv,q⟩
end
def zJ(mg:Str->Option Q3)(base:Heap):Prop:=∃bm ob,mg "__builtins__"=some (.ref bm)/\bm≠builtinsNs/\base.get? bm=some ob/\ob.cls=.type "module"/\ob.dict=some builtinsNs/\ob.data=.plain
section
variable{X:Cx}{pins:List (Addr×Obj)}{σ:L2.St}{H:Hp}{s:Q4}
theorem _root_.L2.Inv.tab{h':Heap}{t':Nat}{p:Addr}{ps more:Array Q3}(I:Inv X pins σ H s)(hp:H p=some (.tbl ps))(k:Heap.ExtBut p s.heap h')(e:h'.get? p=some { cls:=.none,data:=.fields (ps++more) }) :
  Inv X pins σ (upd H p (.tbl (ps++more))) { s with heap:=h',toks:=t' }:=by
 have np:∀b u,H b=some u->u≠.tbl ps->b≠p:=fun b u q d z=>by subst z;rw[hp]at q;cases q;exact d rfl
 have nf:∀b,H b=none->b≠p:=fun b q z=>by subst z;rw[hp]at q;cases q
 refine I.un ⟨fun b o q n _ _=>k b o (nf b n) q,fun b o q n _ _=>⟨o.slots,k b o (nf b n) q⟩,fun b o q n _=>by rw[aP (nf b n)];exact n,fun b o q _=>?_,fun b xs q=>by rw[aP (np b _ q (by simp))];exact q,fun b o u q=>by rw[aP (np b _ q (by simp))];exact q,fun b ps' q=>?_⟩ fun b u q=>?_
 ·by_cases z:b=p
  ·subst z;exact⟨_,e⟩
  ·exact⟨o,k b o z q⟩
 ·by_cases z:b=p
  ·subst z;rw[hp]at q;cases q;exact⟨more,aL⟩
  ·exact⟨#[],by rw[aP z,q];simp⟩
 ·by_cases z:b=p
  ·subst z;rw[aL]at q;cases q;exact e
  ·rw[aP z]at q;refine(I.hok b u q).stay (fun c o hc q2=>k c o ?_ q2) (fun c q2=>by rw[aP (np c _ q2 (by simp))];exact q2) fun c xs q2=>by rw[aP (np c _ q2 (by simp))];exact q2
   rcases hc with rfl|hc
   ·exact z
   ·exact np c _ hc (by simp)
theorem _root_.L2.Inv.adopt{c:Addr}{u:HO}(I:Inv X pins σ H s)(new:dr X.prog X.w (upd H c u) s.heap c u)(n:H c=none)(h0:X.s₀.heap.objs.size<=c)(hL:c≠X.env.locals)(hc:∀x d,X.env.cells.lookup x=some d->d≠c)(hp:∀q∈X.pn++pins,q.1≠c) :
  Inv X pins σ (upd H c u) s:=by
 have ne:∀b u,H b=some u->b≠c:=fun b u q z=>by subst z;rw[n]at q;cases q
 have neS:∀b ob,X.s₀.heap.get? b=some ob->b≠c:=fun b ob q z=>absurd (QL (QK q) h0) (by rw[z];exact ZN _);refine⟨I.ok,I.os,I.bare,⟨I.base.keep,I.base.slot,fun b ob q m hx=>by rw[aP (neS b ob q)];exact I.base.free b ob q m hx,I.base.there,fun b xs q=>?_,fun b ob xs q=>?_,fun b ps q=>?_⟩,I.loc,I.cell,by rw[aP (Ne.symm hL)];exact I.free,fun x d q=>by rw[aP (hc x d q)];exact I.freeC x d q,fun q hq=>?_,fun b u q=>?_,I.len⟩
 ·have:=I.base.tups b xs q;rw[aP (ne _ _ this)];exact this
 ·have:=I.base.frzs b ob xs q;rw[aP (ne _ _ this)];exact this
 ·obtain⟨m,e⟩:=I.base.tbls b ps q;exact⟨m,by rw[aP (ne _ _ e)];exact e⟩
 ·obtain⟨e1,e2,e3⟩:=I.pin q hq;exact⟨e1,by rw[aP (hp q hq)];exact e2,e3⟩
 ·by_cases z:b=c
  ·subst z;rw[aL]at q;cases q;exact new
  ·rw[aP z]at q;exact(I.hok b u q).stay (fun _ _ _ q2=>q2) (fun d q2=>by rw[aP (ne _ _ q2)];exact q2) fun d xs q2=>by rw[aP (ne _ _ q2)];exact q2
theorem Bn{c p:Addr}{ps:Array Q3}{name qual:Str}{params:Arguments}{body:PySem.Expr}{scope:Zr}{cl:List (Str×Addr)}{pos:Pos}{fl:Nat}{Q:Q3->Q4->Prop}(I:Inv X pins σ H s)(hc:X.env.code=.ref c)(C:PySem.W.CodeHd X.base c p)(B:zJ X.mg X.base)
  (hp:H p=some (.tbl ps)) (ht:TriplesOk ps.toList) (hcl:closureFor scope X.env=pure cl)
  (hit:codeAmong pos ps.toList=none\/∃c' ob vs t,codeAmong pos ps.toList=some (.ref c')/\H c'=some (.frz ob (.own 0))/\ob.data=.fields vs/\vs[1]?=some (.str qual t))
  (q:∀(f c':Addr) (pm ctv:Q3) (ps':Array Q3) (H':Hp) (s':Q4),Inv X pins σ H' s'->s.heap.objs.size<=f->H' f=none->s'.heap.get? f=some (PySem.W.kla_obj name qual params body scope cl pm c' ctv)->s'.heap.CodeRec (.ref c') qual->
   (∀b o,b≠p->s.heap.get? b=some o->s'.heap.get? b=some o)->H' p=some (.tbl ps')->TriplesOk ps'.toList->(∃ob vs t,codeAmong pos ps'.toList=some (.ref c')/\H' c'=some (.frz ob (.own 0))/\ob.data=.fields vs/\vs[1]?=some (.str qual t))->(∀b,b≠p->b≠c'->H' b=H b)->(H c'=none\/H'=H)->Q (.ref f) s') :
  wpAny (Qz X.prog X.w) X.A (makeFunction name qual params (.expr body) scope X.env [] [] [] pos fl) Q X.xe s:=by
 have gp:s.heap.get? p=some (PySem.W.tabObj ps):=I.hok p _ hp;obtain⟨bm,ob,b1,b2,b3,b4,b5,b6⟩:=B;have hg:=I.mod.glob.keeps I.bk;have hbp:bm≠p:=fun z=>by
  have:=I.bk _ _ b3;rw[z,gp]at this;cases this;cases b4
 have hgp:mainGlobals≠p:=fun z=>by
  obtain⟨o,es,ep,e,d,_⟩:=hg;rw[z,gp]at e;cases e;cases d
 have hbG:bm≠mainGlobals:=fun z=>by
  obtain⟨o,es,ep,e,d,_⟩:=I.mod.glob;rw[z,e]at b3;cases b3;rw[d]at b6;cases b6
 have hB:s.heap.BuiltinsAt X.mg p:=⟨bm,ob,b1,b2,hbG,hbp,I.bk _ _ b3,b4,b5,b6⟩;have lk:∀x d,X.env.cells.lookup x=some d->d<s.heap.objs.size:=fun x d e=>by
  obtain⟨v,o,ho,_⟩:=I.cell x d e;exact QK ho
 have C':PySem.W.CodeHd s.heap c p:=C.keeps I.bk;rcases hit with hn|⟨c',oc,vs,t,hf,h2,h3,h4⟩
 ·refine PySem.W.kla_makeFunction (mg:=X.mg) hcl I.ok.glob hg hc C' gp ht hn hgp hB fun c' ctv h' tk hx hge hlt hrec htb=>?_;obtain⟨c2,oc,vs,t,e2,hoc,hd,hv⟩:=hrec;cases e2;have I1:=I.tab (t':=tk) hp hx htb;have ncp:c'≠p:=fun z=>by
   have:=QK gp;rw[<-z]at this;exact absurd hge (Nat.not_le.mpr this)
  have n1:(upd H p (.tbl (ps++#[rawInt pos.line,rawInt pos.col,.ref c']))) c'=none:=by rw[aP ncp];exact I.hok.fresh hge
  have I2:=I1.adopt (c:=c') (u:=.frz oc (.own 0)) ⟨hoc,oc,hoc⟩ n1 (Qp I.sz hge) (Nat.ne_of_gt (QL I.lt hge)) (fun x d e=>Qj (QL (lk x d e) hge)) (fun q hq=>Qj (QL (QK (I.pin q hq).1) hge));have I3:=I2.kept (h':=h'.push (PySem.W.kla_obj name qual params body scope cl ((X.mg "__name__").getD .none) c' ctv)) (t':=tk) fun b o e=>Q5 _ e;refine q h'.objs.size c' _ ctv _ _ _ I3 (Nat.le_of_lt (Nat.lt_of_le_of_lt hge hlt)) ?_ (QM _ rfl) ⟨c',oc,vs,t,rfl,Q5 _ hoc,hd,hv⟩ (fun b o nb e=>Q5 _ (hx b o nb e)) (by rw[aP (Ne.symm ncp)];exact aL) ?_ ⟨oc,vs,t,?_,aL,hd,hv⟩ (fun b n1 n2=>by rw[aP n2,aP n1]) (.inl (I.hok.fresh hge))
  ·exact I2.hok.fresh (QQ _)
  ·rw[Array.toList_append];exact TriplesOk_snoc _ _ _ _ ht
  ·rw[Array.toList_append];exact codeAmong_snoc _ ht hn
 ·refine PySem.W.kla_makeFunctionHit (mg:=X.mg) hcl I.ok.glob hg hc C' gp ht hf hB fun ctv h' tk hk hsz=>?_;have I1:=I.kept (h':=h') (t':=tk) hk;have I3:=I1.kept (h':=h'.push { cls:=.type "function",data:=.func (PySem.W.kla_fn name qual params body scope cl ((X.mg "__name__").getD .none) (.ref c') ctv) }) (t':=tk) fun b o e=>Q5 _ e;obtain⟨g1,_⟩:=I3.hok c' _ h2;exact q h'.objs.size c' _ ctv ps H _ I3 hsz (I1.hok.fresh (QQ _)) (QM _ rfl) ⟨c',oc,vs,t,rfl,g1,h3,h4⟩ (fun b o nb e=>Q5 _ (hk b o e)) hp ht ⟨oc,vs,t,hf,h2,h3,h4⟩ (fun _ _ _=>rfl) (.inr rfl)
end
end OG
namespace OP
open PySem PySem.Spec PyProof PyProof.Rows L2 OG PySem.W
structure rQ(n:Nat)(lt:Nat->Nat->Bool):Prop where
 asym:∀{i j},i<n->j<n->lt i j=true->lt j i=false
 co:∀{i j k},i<n->j<n->k<n->lt i k=true->lt i j=true\/lt j k=true
def ltS(lt:Nat->Nat->Bool)(i j:Nat):Bool:=lt i j||(!lt j i&&decide (i<j))
section
variable{cmp:Nat->Nat->(Bool->Q4->Prop)->Q4->Prop}{s:Q4}{n:Nat}{lt:Nat->Nat->Bool}{p:Array Nat}
theorem rQ.tr(W:rQ n lt){i j k:Nat}(hi:i<n)(hj:j<n)(hk:k<n)(h1:lt i j=true)(h2:lt j k=true):lt i k=true:=by
 rcases W.co hi hk hj h1 with h|h
 ·exact h
 ·rw[W.asym hj hk h2]at h;cases h
def eB{i j:Nat}:ltS lt i j=true↔lt i j=true\/lt j i=false/\i<j:=by unfold ltS;simp
theorem H0{i j:Nat}(h:j<=i):ltS lt i j=lt i j:=by
 unfold ltS;rw[decide_eq_false (by omega)];simp
theorem rQ.le(W:rQ n lt){i j k:Nat}(hi:i<n)(hj:j<n)(hk:k<n)(h1:lt j i=false)(h2:lt k j=false):lt k i=false:=by
 cases h:lt k i with
 |false=>rfl
 |true=>exact(W.co hk hj hi h).elim (fun z=>by rw[h2]at z;cases z) (fun z=>by rw[h1]at z;cases z)
theorem rQ.ok(W:rQ n lt):zN n (ltS lt) where
 tr:=fun{i j k} hi hj hk h1 h2=>by
  rw[eB]at *;rcases h1 with h1|⟨h1,g1⟩<;>rcases h2 with h2|⟨h2,g2⟩
  ·exact .inl (W.tr hi hj hk h1 h2)
  ·rcases W.co hi hk hj h1 with z|z
   ·exact .inl z
   ·rw[h2]at z;cases z
  ·rcases W.co hj hi hk h2 with z|z
   ·rw[h1]at z;cases z
   ·exact .inl z
  ·exact .inr ⟨W.le hi hj hk h1 h2,by omega⟩
 asym:=fun{i j} hi hj h=>by
  cases g:ltS lt j i with
  |false=>rfl
  |true=>
   rw[eB]at h g;rcases h with h|⟨h,h'⟩<;>rcases g with g|⟨g,g'⟩
   ·rw[W.asym hi hj h]at g;cases g
   ·rw[h]at g;cases g
   ·rw[h]at g;cases g
   ·omega
 tot:=fun{i j} hi hj hne h=>by
  rw[eB];cases g:lt j i with
  |true=>exact .inl rfl
  |false=>
   refine .inr ⟨?_,?_⟩
   ·cases q:lt i j with
    |false=>rfl
    |true=>rw[eB.mpr (.inl q)]at h;cases h
   ·rcases Nat.lt_or_gt_of_ne hne with z|z
    ·rw[eB.mpr (.inr ⟨g,z⟩)]at h;cases h
    ·exact z
structure Px(n k:Nat)(p:Array Nat):Prop where
 pm:Pm n p
 lo:∀i,i<k->p.getD i 0<k
 hi:∀i,k<=i->i<n->p.getD i 0=i
theorem Px.next{k:Nat}(h:Px n k p)(hk:k<n):Px n (k+1) p:=⟨h.pm,fun i hi=>by
 by_cases e:i=k
 ·subst e;rw[h.hi i (QQ _) hk];omega
 ·have:=h.lo i (by omega);omega,fun i a b=>h.hi i (by omega) b⟩
theorem zB(W:rQ n lt)(A:vG cmp n lt s):∀(f m:Nat) {Q:Nat->Q4->Prop},1<=m->m+f<=n->Px n m p->Asc (ltS lt) p m->(∀m',m<=m'->m'<=m+f->Px n m' p->Asc (ltS lt) p m'->(m'=m+f\/lt (p.getD m' 0) (p.getD (m'-1) 0)=true)->Q m' s)->(kas_asc p f m).kasWp cmp Q s
 |0,m,Q,h1,h2,P,h3,q=>q m (QQ _) (by omega) P h3 (.inl rfl)
 |f+1,m,Q,h1,h2,P,h3,q=>by
  have b1:=P.pm.bd m (by omega);have b2:=P.pm.bd (m-1) (by omega);refine A _ _ _ b1 b2 ?_;cases hc:lt (p.getD m 0) (p.getD (m-1) 0)with
  |true=>exact q m (QQ _) (by omega) P h3 (.inr hc)
  |false=>
   have hlt:p.getD (m-1) 0<p.getD m 0:=by rw[P.hi m (QQ _) (by omega)];exact P.lo _ (by omega)
   have h4:=h3.snoc W.ok P.pm h1 (by omega) (eB.mpr (by
    cases z:lt (p.getD (m-1) 0) (p.getD m 0)with
    |true=>exact .inl rfl
    |false=>exact .inr ⟨hc,hlt⟩))
   exact zB W A f (m+1) (by omega) (by omega) (P.next (by omega)) h4 fun m' a b c d e=>q m' (by omega) (by omega) c d (by rcases e with e|e;exact .inl (by omega);exact .inr e)
theorem f9{i m k:Nat}(hm:m<=p.size):(kas_rev p i m).getD k 0=if i<=k/\k<m then p.getD (i+m-1-k) 0 else p.getD k 0:=by
 unfold kas_rev;have h:=getElem?_mirror_all (i:=i) hm k;split
 ·rename_i c;rw[if_pos c]at h;exact jD h
 ·rename_i c;rw[if_neg c]at h;exact jD h
theorem Px.rev{k i m:Nat}(P:Px n k p)(hm:m<=k)(hk:k<=n):Px n k (kas_rev p i m):=by
 have g:∀j,(kas_rev p i m).getD j 0=if i<=j/\j<m then p.getD (i+m-1-j) 0 else p.getD j 0:=fun j=>f9 (by rw[P.pm.sz];omega)
 refine⟨⟨by rw[kas_rev_size];exact P.pm.sz,fun j hj=>?_,fun a b hab hb=>?_⟩,fun j hj=>?_,fun j a b=>?_⟩
 ·rw[g];split
  ·exact P.pm.bd _ (by omega)
  ·exact P.pm.bd _ hj
 ·rw[g,g];split<;>split<;>exact P.pm.ne' (by omega) (by omega) (by omega)
 ·rw[g];split
  ·exact P.lo _ (by omega)
  ·exact P.lo _ hj
 ·rw[g,if_neg (by omega)];exact P.hi j a b
structure Dn(lt:Nat->Nat->Bool)(p:Array Nat)(m q:Nat):Prop where
 dn:∀i j,i<j->j<m->i<m-(q+1)->ltS lt (p.getD j 0) (p.getD i 0)=true
 st:∀i j,i<m-(q+1)->m-(q+1)<=j->j<m->lt (p.getD j 0) (p.getD i 0)=true
 eq:∀i j,m-(q+1)<=i->i<j->j<m->lt (p.getD i 0) (p.getD j 0)=false/\lt (p.getD j 0) (p.getD i 0)=false/\p.getD i 0<p.getD j 0
theorem Dn.rev{m q:Nat}(h:Dn lt p m q)(hm:m<=p.size)(hq:q+1<=m):Dsc (ltS lt) (kas_rev p (m-(q+1)) m) m:=fun i j a b=>by
 have g:∀j,(kas_rev p (m-(q+1)) m).getD j 0=if m-(q+1)<=j/\j<m then p.getD (m-(q+1)+m-1-j) 0 else p.getD j 0:=fun j=>f9 hm
 rw[g,g];by_cases ci:m-(q+1)<=i
 ·rw[if_pos ⟨by omega,b⟩,if_pos ⟨ci,by omega⟩];obtain⟨z1,z2,z3⟩:=h.eq (m-(q+1)+m-1-j) (m-(q+1)+m-1-i) (by omega) (by omega) (by omega);exact eB.mpr (.inr ⟨z2,z3⟩)
 ·rw[if_neg (c:=m-(q+1)<=i/\i<m) (by omega)];split
  ·exact h.dn _ _ (by omega) (by omega) (by omega)
  ·exact h.dn _ _ a b (by omega)
def Dn.dsc{m:Nat}(h:Dn lt p m 0):Dsc (ltS lt) p m:=fun i j a b=>h.dn i j a b (by omega)
theorem tJ(W:rQ n lt)(P:Pm n p){m:Nat}(h:Dsc (ltS lt) p m)(h1:1<=m)(hm:m<n)(hc:lt (p.getD m 0) (p.getD (m-1) 0)=true):Dn lt p (m+1) 0:=by
 have bm:=P.bd m hm;have all:∀i,i<m->lt (p.getD m 0) (p.getD i 0)=true:=fun i hi=>by
  by_cases e2:i=m-1
  ·subst e2;exact hc
  ·have z:=h i (m-1) (by omega) (by omega);rw[eB]at z;rcases z with z|⟨z,_⟩
   ·exact W.tr bm (P.bd _ (by omega)) (P.bd _ (by omega)) hc z
   ·rcases W.co bm (P.bd i (by omega)) (P.bd (m-1) (by omega)) hc with y|y
    ·exact y
    ·rw[z]at y;cases y
 refine⟨fun i j a b c=>?_,fun i j a b c=>?_,fun i j a b c=>by omega⟩
 ·by_cases e:j=m
  ·subst e;exact eB.mpr (.inl (all i (by omega)))
  ·exact h i j a (by omega)
 ·have e:j=m:=by omega
  subst e;exact all i (by omega)
theorem Dn.alike(W:rQ n lt){m q:Nat}(P:Px n m p)(h:Dn lt p m q)(h1:q+1<=m)(hm:m<n)(hc:lt (p.getD m 0) (p.getD (m-1) 0)=false)(hd:lt (p.getD (m-1) 0) (p.getD m 0)=false):Dn lt p (m+1) (q+1):=by
 have e1:m+1-(q+1+1)=m-(q+1):=by omega
 have bm:=P.pm.bd m hm;have eqm:∀i,m-(q+1)<=i->i<m->lt (p.getD i 0) (p.getD m 0)=false/\lt (p.getD m 0) (p.getD i 0)=false:=fun i a b=>by
  by_cases e:i=m-1
  ·subst e;exact⟨hd,hc⟩
  ·obtain⟨z1,z2,_⟩:=h.eq i (m-1) a (by omega) (by omega);exact⟨W.le bm (P.pm.bd (m-1) (by omega)) (P.pm.bd i (by omega)) hd z1,W.le (P.pm.bd i (by omega)) (P.pm.bd (m-1) (by omega)) bm z2 hc⟩
 have stm:∀i,i<m-(q+1)->lt (p.getD m 0) (p.getD i 0)=true:=fun i hi=>by
  rcases W.co (P.pm.bd (m-1) (by omega)) bm (P.pm.bd i (by omega)) (h.st i (m-1) hi (by omega) (by omega))with y|y
  ·rw[hd]at y;cases y
  ·exact y
 refine⟨fun i j a b c=>?_,fun i j a b c=>?_,fun i j a b c=>?_⟩
 ·rw[e1]at c;by_cases e:j=m
  ·subst e;exact eB.mpr (.inl (stm i c))
  ·exact h.dn i j a (by omega) c
 ·rw[e1]at a b;by_cases e:j=m
  ·subst e;exact stm i a
  ·exact h.st i j a b (by omega)
 ·rw[e1]at a;by_cases e:j=m
  ·subst e;obtain⟨z1,z2⟩:=eqm i a (by omega);exact⟨z1,z2,by rw[P.hi j (QQ _) hm];exact P.lo _ (by omega)⟩
  ·exact h.eq i j a b (by omega)
theorem pN(W:rQ n lt)(A:vG cmp n lt s):∀(f:Nat) (p:Array Nat) (m q:Nat) {Q:Array Nat×Nat×Nat->Q4->Prop},q+1<=m->m+f<=n->Px n m p->Dn lt p m q->(∀p' m' q',q'+1<=m'->m'<=n->Px n m' p'->Dn lt p' m' q'->Q (p',m',q') s)->(kas_desc f p m q).kasWp cmp Q s
 |0,p,m,q,Q,h1,h2,P,h3,g=>g p m q h1 (by omega) P h3
 |f+1,p,m,q,Q,h1,h2,P,h3,g=>by
  have b1:=P.pm.bd m (by omega);have b2:=P.pm.bd (m-1) (by omega);refine A _ _ _ b1 b2 ?_;cases hc:lt (p.getD m 0) (p.getD (m-1) 0)with
  |true=>
   dsimp only;rw[if_pos rfl];by_cases hq:q>0
   ·rw[if_pos hq];have P':Px n m (kas_rev p (m-(q+1)) m):=P.rev (QQ _) (by omega);have em:(kas_rev p (m-(q+1)) m).getD m 0=p.getD m 0:=by rw[f9 (by rw[P.pm.sz];omega),if_neg (by omega)]
    have e2:(kas_rev p (m-(q+1)) m).getD (m-1) 0=p.getD (m-(q+1)) 0:=by
     rw[f9 (by rw[P.pm.sz];omega),if_pos (by omega)];congr 1;omega
    refine pN W A f _ (m+1) 0 (by omega) (by omega) (P'.next (by omega)) (tJ W P'.pm (h3.rev (by rw[P.pm.sz];omega) h1) (by omega) (by omega) ?_) g;rw[em,e2];obtain⟨z1,_,_⟩:=h3.eq (m-(q+1)) (m-1) (QQ _) (by omega) (by omega);rcases W.co b1 (P.pm.bd (m-(q+1)) (by omega)) b2 hc with y|y
    ·exact y
    ·rw[z1]at y;cases y
   ·rw[if_neg hq];have q0:q=0:=by omega
    subst q0;exact pN W A f p (m+1) 0 (by omega) (by omega) (P.next (by omega)) (tJ W P.pm h3.dsc (by omega) (by omega) hc) g
  |false=>
   dsimp only;rw[if_neg Q6];refine A _ _ _ b2 b1 ?_;cases hd:lt (p.getD (m-1) 0) (p.getD m 0)with
   |true=>
    dsimp only;rw[if_pos rfl];exact g p m q h1 (by omega) P h3
   |false=>
    dsimp only;rw[if_neg Q6];exact pN W A f p (m+1) (q+1) (by omega) (by omega) (P.next (by omega)) (h3.alike W P h1 (by omega) hc hd) g
theorem xv(W:rQ n lt)(A:vG cmp n lt s){m:Nat}{Q:Nat×Array Nat->Q4->Prop}(h1:1<=m)(hm:m<=n)(P:Px n m p)(h:Dsc (ltS lt) p m)(g:∀m p',1<=m->m<=n->Px n m p'->Asc (ltS lt) p' m->Q (m,p') s):(kas_tail3 m n p).kasWp cmp Q s:=by
 unfold kas_tail3;rw[KasT.kasWp_bind];exact zB W A (n-m) m h1 (by omega) (P.rev (QQ _) hm) (h.rev P.pm hm) fun m2 a2 b2 P2 c2 _=>g m2 _ (by omega) (by omega) P2 c2
theorem xZ(W:rQ n lt)(A:vG cmp n lt s){m:Nat}{Q:Nat×Array Nat->Q4->Prop}(h1:1<=m)(hm:m<n)(P:Px n m p)(h:Dsc (ltS lt) p m)(hc:lt (p.getD m 0) (p.getD (m-1) 0)=true)(g:∀m p',1<=m->m<=n->Px n m p'->Asc (ltS lt) p' m->Q (m,p') s):(kas_descPart m n p).kasWp cmp Q s:=by
 unfold kas_descPart;rw[KasT.kasWp_bind];refine pN W A _ p (m+1) 0 (by omega) (by omega) (P.next hm) (tJ W P.pm h h1 hm hc) fun p' m' q' a b P' D=>?_;dsimp only;by_cases hq:q'>0
 ·rw[if_pos hq];exact xv W A (by omega) b (P'.rev (QQ _) b) (D.rev (by rw[P'.pm.sz];exact b) a) g
 ·rw[if_neg hq];have q0:q'=0:=by omega
  subst q0;exact xv W A (by omega) b P' D.dsc g
theorem BK(W:rQ n lt)(A:vG cmp n lt s){Q:Nat×Array Nat->Q4->Prop}(h1:1<=n)(P:Px n 1 p)(g:∀m p',1<=m->m<=n->Px n m p'->Asc (ltS lt) p' m->Q (m,p') s):(kas_count n p).kasWp cmp Q s:=by
 unfold kas_count;rw[KasT.kasWp_bind];refine zB W A (n-1) 1 (QQ _) (by omega) P (fun i j a b=>by omega) fun m a b P' c d=>?_;by_cases e:m=n
 ·rw[if_pos (by rw[e];exact beq_self_eq_true n)];exact g m p a (by omega) P' c
 rw[if_neg (by simpa using e)];have d':lt (p.getD m 0) (p.getD (m-1) 0)=true:=by
  rcases d with d|d
  ·omega
  ·exact d
 by_cases z:m>1
 ·rw[if_pos z];refine A _ _ _ (P'.pm.bd _ (by omega)) (P'.pm.bd _ (by omega)) ?_;cases hc:lt (p.getD 0 0) (p.getD (m-1) 0)with
  |true=>
   dsimp only;rw[if_pos rfl];exact g m p a (by omega) P' c
  |false=>
   dsimp only;rw[if_neg Q6];have al:∀i j,i<j->j<m->lt (p.getD i 0) (p.getD j 0)=false/\lt (p.getD j 0) (p.getD i 0)=false/\p.getD i 0<p.getD j 0:=fun i j hij hj=>by
    have n1:∀k,k<m->lt (p.getD k 0) (p.getD 0 0)=false:=fun k hk=>by
     by_cases e0:k=0
     ·subst e0;cases y:lt (p.getD 0 0) (p.getD 0 0)with
      |false=>rfl
      |true=>have:=W.asym (P'.pm.bd 0 (by omega)) (P'.pm.bd 0 (by omega)) y;rw[y]at this;cases this
     ·have:=c 0 k (by omega) hk;rw[eB]at this;rcases this with y|⟨y,_⟩
      ·exact W.asym (P'.pm.bd _ (by omega)) (P'.pm.bd _ (by omega)) y
      ·exact y
    have n2:∀k,k<m->lt (p.getD (m-1) 0) (p.getD k 0)=false:=fun k hk=>by
     by_cases e0:k=m-1
     ·subst e0;cases y:lt (p.getD (m-1) 0) (p.getD (m-1) 0)with
      |false=>rfl
      |true=>have:=W.asym (P'.pm.bd (m-1) (by omega)) (P'.pm.bd (m-1) (by omega)) y;rw[y]at this;cases this
     ·have:=c k (m-1) (by omega) (by omega);rw[eB]at this;rcases this with y|⟨y,_⟩
      ·exact W.asym (P'.pm.bd _ (by omega)) (P'.pm.bd _ (by omega)) y
      ·exact y
    have bi:=P'.pm.bd i (by omega);have bj:=P'.pm.bd j (by omega);have b0:=P'.pm.bd 0 (by omega);have bm:=P'.pm.bd (m-1) (by omega);have k1:∀i j,i<m->j<m->lt (p.getD i 0) (p.getD j 0)=false:=fun i j hi hj=>by
     cases y:lt (p.getD i 0) (p.getD j 0)with
     |false=>rfl
     |true=>
      rcases W.co (P'.pm.bd i (by omega)) b0 (P'.pm.bd j (by omega)) y with x|x
      ·rw[n1 i hi]at x;cases x
      ·rcases W.co b0 bm (P'.pm.bd j (by omega)) x with v|v
       ·rw[hc]at v;cases v
       ·rw[n2 j hj]at v;cases v
    have z1:=k1 i j (by omega) hj;refine⟨z1,k1 j i hj (by omega),?_⟩;have:=c i j hij hj;rw[eB]at this;rcases this with y|⟨_,y⟩
    ·rw[z1]at y;cases y
    ·exact y
   have hm:m<=p.size:=by rw[P'.pm.sz];omega
   refine xZ W A a (by omega) (P'.rev (QQ _) (by omega)) (fun i j hij hj=>?_) ?_ g
   ·rw[f9 hm,f9 hm,if_pos (by omega),if_pos (by omega)];obtain⟨z1,z2,z3⟩:=al (0+m-1-j) (0+m-1-i) (by omega) (by omega);exact eB.mpr (.inr ⟨z2,z3⟩)
   ·rw[f9 hm,f9 hm,if_neg (by omega),if_pos (by omega),show 0+m-1-(m-1)=0 by omega];rcases W.co (P'.pm.bd m (by omega)) (P'.pm.bd 0 (by omega)) (P'.pm.bd (m-1) (by omega)) d' with x|x
    ·exact x
    ·rw[hc]at x;cases x
 ·rw[if_neg z];have m1:m=1:=by omega
  subst m1;exact xZ W A (QQ _) (by omega) P' (fun i j a b=>by omega) d' g
theorem oJ(W:rQ n lt)(A:vG cmp n lt s){k:Nat}(P:Px n k p)(hk:k<n)(hs:Asc (ltS lt) p k):∀(f l r:Nat) {Q:Nat->Q4->Prop},l<=r->r<=k->r-l<=f->(∀i,i<l->ltS lt (p.getD i 0) (p.getD k 0)=true)->(∀i,r<=i->i<k->ltS lt (p.getD k 0) (p.getD i 0)=true)->
  (∀l',l'<=k->(∀i,i<l'->ltS lt (p.getD i 0) (p.getD k 0)=true)->(∀i,l'<=i->i<k->ltS lt (p.getD k 0) (p.getD i 0)=true)->Q l' s)->(kas_place p k f l r).kasWp cmp Q s
 |0,l,r,Q,h1,h2,h3,h4,h5,q=>q l (by omega) h4 fun i a b=>h5 i (by omega) b
 |f+1,l,r,Q,h1,h2,h3,h4,h5,q=>by
  unfold kas_place;by_cases e:l≥r
  ·rw[if_pos e];exact q l (by omega) h4 fun i a b=>h5 i (by omega) b
  ·rw[if_neg e];have hM:(l+r) / 2<k:=by omega
   have bk:=P.pm.bd k hk;have bM:=P.pm.bd ((l+r) / 2) (by omega);refine A _ _ _ bk bM ?_;have gt:p.getD ((l+r) / 2) 0<=p.getD k 0:=by rw[P.hi k (QQ _) hk];exact Nat.le_of_lt (P.lo _ hM)
   rw[<-H0 (lt:=lt) gt];cases hc:ltS lt (p.getD k 0) (p.getD ((l+r) / 2) 0)with
   |true=>
    refine oJ W A P hk hs f l ((l+r) / 2) (by omega) (by omega) (by omega) h4 (fun i a b=>?_) q;by_cases e2:i=(l+r) / 2
    ·subst e2;exact hc
    ·exact W.ok.tr bk bM (P.pm.bd _ (by omega)) hc (hs _ i (by omega) b)
   |false=>
    have hc':=W.ok.tot bk bM (P.pm.ne' hk (by omega) (by omega)) hc;refine oJ W A P hk hs f ((l+r) / 2+1) r (by omega) (by omega) (by omega) (fun i a=>?_) h5 q;by_cases e2:i=(l+r) / 2
    ·subst e2;exact hc'
    ·exact W.ok.tr (P.pm.bd _ (by omega)) bM bk (hs i ((l+r) / 2) (by omega) hM) hc'
theorem Px.bub{k l:Nat}(P:Px n k p)(hk:k<n)(hl:l<=k):Px n (k+1) (bubble p k (k-l)):=by
 have g:∀i,(bubble p k (k-l)).getD i 0=_:=fun i=>kR (by rw[P.pm.sz];exact hk) hl;refine⟨P.pm.bub hk hl,fun i hi=>?_,fun i a b=>?_⟩
 ·rw[g];have:=P.hi k (QQ _) hk;split
  ·omega
  ·split
   ·have:=P.lo (i-1) (by omega);omega
   ·have:=P.lo i (by omega);omega
 ·rw[g,if_neg (by omega),if_neg (by omega)];exact P.hi i (by omega) b
theorem C6(W:rQ n lt)(A:vG cmp n lt s):∀(f:Nat) (p:Array Nat) (k:Nat) {Q:Array Nat->Q4->Prop},Px n k p->k+f=n->Asc (ltS lt) p k->(∀p',Pm n p'->Asc (ltS lt) p' n->Q p' s)->(kas_bin f p k).kasWp cmp Q s
 |0,p,k,Q,P,h1,h2,q=>q p P.pm (by rw[<-h1];exact h2)
 |f+1,p,k,Q,P,h1,h2,q=>by
  unfold kas_bin;rw[KasT.kasWp_bind];refine oJ W A (k:=k) P (by omega) h2 k 0 k (ZZ _) (QQ _) (by omega) (fun i a=>by omega) (fun i a b=>by omega) fun l a b c=>?_;exact C6 W A f _ (k+1) (P.bub (by omega) a) (by omega) (h2.bub P.pm (by omega) a b c) q
theorem Eh(W:rQ n lt)(A:vG cmp n lt s){Q:Array Nat->Q4->Prop}(h1:1<=n)(q:∀p',Pm n p'->Asc (ltS lt) p' n->Q p' s):(kas_sort n).kasWp cmp Q s:=by
 unfold kas_sort;rw[KasT.kasWp_bind];have g:∀i,i<n->(List.toArray (Qa n)).getD i 0=i:=fun i hi=>by simp[Array.getD,hi]
 refine BK W A h1 ⟨oH,fun i hi=>by rw[g i (by omega)];exact hi,fun i _ b=>g i b⟩ fun m p' a b P c=>?_;dsimp only;by_cases e:m<n
 ·rw[if_pos e];rw[show max m 1=m by omega];exact C6 W A _ _ _ P (by omega) c q
 ·rw[if_neg e];exact q p' P.pm (by rw[show n=m by omega];exact c)
end
def ltK(ks:List (Int×Int))(i j:Nat):Bool:=ltP (ks.getD i (0,0)) (ks.getD j (0,0))
theorem wkK(n:Nat)(ks:List (Int×Int)):rQ n (ltK ks) where
 asym:=fun{i j} _ _ h=>by simp only[ltK,ltP,decide_eq_true_eq,decide_eq_false_iff_not]at *;omega
 co:=fun{i j k} _ _ _ h=>by simp only[ltK,ltP,decide_eq_true_eq]at *;omega
def rW(ks:List (Int×Int)):List Nat:=(Qa ks.length).mergeSort fun i j=>!ltS (ltK ks) j i
def fc(ks:List (Int×Int)):(rW ks).Perm (Qa ks.length):=List.mergeSort_perm ..
theorem uK(ks:List (Int×Int)):(rW ks).Pairwise fun i j=>ltS (ltK ks) j i=false:=by
 have ok:=fun i j k:Nat=>(wkK (i+j+k+1) ks).ok;have:=List.pairwise_mergeSort (le:=fun i j=>!ltS (ltK ks) j i) (fun a b c h1 h2=>by
   have O:=ok a b c;simp only[Za]at *;by_cases e1:a=b
   ·subst e1;exact h2
   by_cases e2:b=c
   ·subst e2;exact h1
   exact O.asym (by omega) (by omega) (O.tr (by omega) (by omega) (by omega) (O.tot (i:=b) (j:=a) (by omega) (by omega) (fun e=>e1 e.symm) h1) (O.tot (i:=c) (j:=b) (by omega) (by omega) (fun e=>e2 e.symm) h2))) (fun a b=>by
   have O:=ok a b 0;simp only[Bool.or_eq_true,Za];cases h:ltS (ltK ks) b a with
   |false=>exact .inl rfl
   |true=>exact .inr (O.asym (by omega) (by omega) h)) (Qa ks.length)
 exact this.imp fun h=>by simpa using h
theorem ET{ks:List (Int×Int)}{q:Array Nat}(P:Pm ks.length q)(A:Asc (ltS (ltK ks)) q ks.length):q.toList=rW ks:=by
 have hl:q.toList.length=ks.length:=by rw[Qk,P.sz]
 have gd:∀i (hi:i<q.toList.length),q.getD i 0=q.toList[i]:=fun i hi=>by
  have hi':i<q.size:=by simpa using hi
  rw[ZS,Z8 hi',Array.getElem_toList];rfl
 have O:=(wkK ks.length ks).ok;have p1:q.toList.Pairwise fun i j=>ltS (ltK ks) j i=false:=by
  rw[List.pairwise_iff_getElem];intro i j hi hj hij;have z:=A i j hij (by omega);rw[gd i hi,gd j hj]at z;exact O.asym (iQ P _ (Zb _)) (iQ P _ (Zb _)) z
 have nd:q.toList.Nodup:=by
  rw[List.nodup_iff_pairwise_ne,List.pairwise_iff_getElem];intro i j hi hj hij;rw[<-gd i hi,<-gd j hj];exact P.ne i j hij (by omega)
 have pr:q.toList.Perm (Qa ks.length):=by
  refine(List.perm_ext_iff_of_nodup nd List.nodup_range).mpr fun x=>⟨fun hx=>ZJ.mpr (iQ P x hx),fun hx=>?_⟩;refine Classical.byContradiction fun hn=>?_;have:=List.Nodup.length_le_of_subset (Zk.mpr ⟨hn,nd⟩) (l₂:=Qa ks.length) fun y hy=>by
   rcases Qq.mp hy with z|z
   ·rw[z];exact hx
   ·exact ZJ.mpr (iQ P y z)
  simp only[QV,List.length_range]at this;omega
 refine List.Perm.eq_of_pairwise (fun a b ha hb h1 h2=>?_) p1 (uK ks) (pr.trans (fc ks).symm);refine Classical.byContradiction fun hn=>?_;have:=O.tot (iQ P a ha) (ZJ.mp ((fc ks).mem_iff.mp hb)) hn h2;rw[h1]at this;cases this
section
variable{prog:Qx}{w:Qg}{A:Qd}{E:Q3->Q4->Prop}{s:Q4}{a kS:Addr}{vs:List Q3}{keys:Array Q3}{n1 n2:Nat}{R:PySem.Fin->Q4->Prop}{ks:List (Int×Int)}
theorem uU{st:SortSt}(gk:s.heap.get? kS=some (seqObj "list" keys n2))(ga:s.heap.get? a=some (seqObj "list" #[] n1))(hka:kS≠a)(zk:keys.size<=QB)(zs:(arrOf st).size<=QB)(hfl:failedOf st=none)
  (q:∀(h':Heap) (c:Nat),(∀b o,b≠a->b≠kS->s.heap.get? b=some o->h'.get? b=some o)->h'.objs.size=s.heap.objs.size->h'.get? a=some (seqObj "list" ((arrOf st).map (·.2)) c)->R (.done (.ret .none)) { s with heap:=h' }) :
  wpAny (Qz prog w) A (ksk_tail a false n1 (.ref kS) st) R E s:=by
 have u1:=Heap.SameBut.update s.heap kS (Obj.mapSeq fun _=>(#[]:Array Q3));have ga1:=(u1.2 a hka.symm).trans ga;unfold ksk_tail;dsimp only;refine Q2 (listUpdate_at gk rfl (Q2 (wpAny_letGo (Q2 (seqEpoch_at ga1 rfl (Q2 (listUpdate_at ga1 rfl ?_ (ZZ _) (Nat.le_succ_of_le (by simpa using zs)))))))) zk (ZZ _));rw[hfl];simp only[bne_self_eq_false,Qh,if_false];have u2:=Heap.SameBut.update (s.heap.update kS (Obj.mapSeq fun _=>(#[]:Array Q3))) a (Obj.mapSeq fun _=>(arrOf st).map (·.2));exact QJ (q _ _ (fun b o h1 h2 e=>(u2.2 b h1).trans ((u1.2 b h2).trans e)) (by rw[Heap.size_update,Heap.size_update]) (get?_update_seq ga1 fun _=>(arrOf st).map (·.2)))
theorem Fd(gk:s.heap.get? kS=some (seqObj "list" keys n2))(ga:s.heap.get? a=some (seqObj "list" #[] n1))(hka:kS≠a)(hp:jG s.heap keys.toList ks)(hl:ks.length=vs.length)(h64:vs.length<64)
  (q:∀(h':Heap) (c:Nat),(∀b o,b≠a->b≠kS->s.heap.get? b=some o->h'.get? b=some o)->h'.objs.size=s.heap.objs.size->h'.get? a=some (seqObj "list" ((rW ks).map fun i=>vs.getD i Value.none).toArray c)->R (.done (.ret .none)) { s with heap:=h' }) :
  wpAny (Qz prog w) A (ksk_end a false vs.toArray n1 (.ref kS) keys) R E s:=by
 have lk:=qw hp;rw[Qk]at lk;have zl:vs.length<=QB:=by unfold QB;omega
 unfold ksk_end;dsimp only;simp only[Qh,if_false,QD];by_cases h2:vs.length<2
 ·rw[if_pos h2,if_pos h2];refine Q2 (QJ ?_);rw[StateT.run_pure];refine Q2 (QJ (uU (st:=SortSt.mk' general' (keys.zip vs.toArray) #[] 7 none) gk ga hka (by omega) ?_ rfl fun h' c k z g=>q h' c k z ?_))
  ·show(keys.zip vs.toArray).size<=_;rw[Array.size_zip];exact Qp (Nat.min_le_left _ _) (by omega)
  ·rw[g];have e:((rW ks).map fun i=>vs.getD i Value.none)=vs:=by
    have pr:=fc ks;match ks,vs,hl,h2 with
    |[],[],_,_=>rw[List.Perm.eq_nil pr];rfl
    |[k],[v],_,_=>
     have:rW [k]=[0]:=List.perm_singleton.mp pr;rw[this];rfl
    |_::_::_,_::_::_,_,h2=>simp only[QV]at h2;omega
   have e2:Array.map (fun x=>x.snd) (arrOf (SortSt.mk' general' (keys.zip vs.toArray) #[] 7 none))=vs.toArray:=by
    show(keys.zip vs.toArray).map (·.2)=_;apply Array.toList_inj.mp;rw[Array.toList_map,ksk_zip,List.map_snd_zip (by have:=Qk (xs:=keys);omega)]
   rw[e,e2]
 ·rw[if_neg h2,if_neg h2];have ek:keys=keys.toList.toArray:=by simp
  refine Q2 ?_;rw[ek];refine vZ hp (by rw[Qk];omega) ?_;rw[<-ek];refine Q2 (Z6 (kat_run (ks:=keys.toList) (vs:=vs) (κ:=tuples' true) (Q:=fun st' s'=>∃p:Array Nat,arrOf st'=Array.map (kas_item (keys.toList.toArray.zip vs.toArray)) p/\failedOf st'=none/\s'=s/\p.size=vs.length/\p.toList=rW ks)
   (G:=fun p s'=>s'=s/\p.toList=rW ks) (by rw[Qk];omega) (by omega) h64 (fun p st' s' h1 h2 h3 h4=>⟨p,h2,h3,h4.1,h1,h4.2⟩) ?_) (fun r s' hr=>?_) fun _ _ e=>e)
  ·refine Eh (lt:=ltK ks) (wkK _ ks) (fun i j C hi hj hC=>?_) (by omega) fun p' P Asc'=>⟨rfl,ET (by rw[hl];exact P) (by rw[hl];exact Asc')⟩;exact EN (mq hp (by omega)) (mq hp (by omega)) hC
  ·obtain⟨u,st'⟩:=r;obtain⟨p,harr,hfail,rfl,hps,hpo⟩:=hr;have hout:=kat_snds (ks:=keys.toList) (vs:=vs) (by rw[Qk];omega) harr;refine uU gk ga hka (by omega) ?_ hfail fun h' c k z g=>q h' c k z ?_
   ·rw[harr,Array.size_map];omega
   ·rw[g,hout,hpo]
end
def zK(cb:CE)(su:U):List Int->Sto->Option (List (Int×Int)×Sto)
 |[],S=>some ([],S)
 |n::ns,S=>(cb [some (.int n),some su] S).bind fun r=>match r.1 with
  |.tup [.int x,.int y]=>(zK cb su ns r.2).bind fun t=>some ((x,y)::t.1,t.2)
  |_=>none
def nh(ks:List (Int×Int))(ns:List Int):List Int:=(rW ks).map fun i=>ns.getD i 0
open Classical in
def vy(z:O)(k:Nat)(co cb:CE):CE:=fun ρ S=>(co ρ S).bind fun r=>match r.1 with
 |.ref l=>match r.2[l]? with
  |some (.dic kus)=>(oW kus).bind fun ns=>if ns.length<64/\∃j:Nat,r.2[j]?=some z then(ρ[k]?).join.bind fun su=>(zK cb su ns r.2).bind fun t=>some (.ref t.2.length,t.2++[.lst ((nh t.1 ns).map U.int)])else none
  |_=>none
 |_=>none
theorem lU{cb:CE}{su:U}:∀{ns:List Int} {S:Sto} {t:List (Int×Int)×Sto},zK cb su ns S=some t->t.1.length=ns.length
 |[],S,t,h=>by cases h;rfl
 |n::ns,S,t,h=>by
  unfold zK at h;obtain⟨⟨u,S1⟩,h1,h⟩:=Q0.mp h;dsimp only at h;split at h
  ·obtain⟨t',h2,h3⟩:=Q0.mp h;cases h3;simp[lU h2]
  ·cases h
def Jc(K:Q1)(H:Hp)(v:Q3)(p:Int×Int):Prop:=∃b,v=.ref b/\SqT K H b [.int p.1,.int p.2]
theorem n4{X:Cx}{pins:List (Addr×Obj)}{σ:L2.St}{H:Hp}{s:Q4}(I:Inv X pins σ H s):∀{vs:List Q3} {ks:List (Int×Int)},Paired (Jc X.K H) vs ks->jG s.heap vs ks
 |_,_,.nil=>trivial
 |_,_,.cons r t=>by
  refine⟨?_,n4 I t⟩;obtain⟨b,rfl,sq⟩:=r;obtain⟨its,rv,⟨o,e,c,n,d⟩,_⟩:=I.tuple sq;match its,rv,d with
  |[_,_],.cons ⟨t1,rfl⟩ (.cons ⟨t2,rfl⟩ .nil),d=>exact⟨b,o,t1,t2,n,rfl,e,c,d⟩
theorem mr{α β:Type}{F:α->β->Prop}{a:α}{b:β}:∀{l1:List α} {l2:List β},Paired F l1 l2->F a b->Paired F (l1++[a]) (l2++[b])
 |_,_,.nil,h=>.cons h .nil
 |_,_,.cons r t,h=>.cons r (mr t h)
section
variable{X:Cx}{body:PySem.Expr}{cb:CE}{scope:Zr}{params:Arguments}{x pa qual:Str}{k kr:Nat}{cx:Addr}
structure FN(X:Cx)(body:PySem.Expr)(cb:CE)(scope:Zr)(params:Arguments)(x pa qual:Str)(k kr:Nat)(cx:Addr):Prop where
 cel:X.env.cells.lookup x=some cx
 kin:X.env.kindOf x=some .cell
 nm:X.N[k]?=some x
 co:scope.isCoroutine=false
 gen:scope.isGenerator=false
 knd:scope.kind=.function
 nms:scope.names=[(pa,.local),(x,.free)]
 ne:pa≠x
 bnd:∀(cl:List (Str×Addr)) (pm c ctv u:Q3),bindArgs (kla_fn "<lambda>" qual params body scope cl pm c ctv) ⟨[u],[]⟩=pure [(pa,u)]
 bdy:∀(f:Addr) (cd:Q3) (A:Qd) (s:Q4) (H:Hp),fY kr (A.deeper (IT qual scope s.heap.objs.size f cd [(x,cx)]))->QE (cxL X.prog X.w X.K X.mg X.base [pa,x] qual scope f cd [(x,cx)] A X.stack s H) body cb
theorem Bo{A:Qd}{pins:List (Addr×Obj)}{σ:L2.St}{ρ:Rho}{H:Hp}{s:Q4}{m:List Addr}{S S':Sto}{f c:Addr}{pm ctv:Q3}{n:Int}{t:Tok}{su u:U}{R:Q3->Q4->Prop}{E:Q3->Q4->Prop}(L:FN X body cb scope params x pa qual k kr cx)
  (hA:t7 X.prog X.w X.K X.mg X.base A X.stack s H) (hr:fY (kr+1) A) (I:Inv X pins σ H s) (ho:s.heap.get? f=some (kla_obj "<lambda>" qual params body scope [(x,cx)] pm c ctv)) (hcd:s.heap.CodeRec (.ref c) qual)
  (sr:Sr X.K m S H) (lr:Lr X.K m H ρ σ) (hk:ρ[k]?=some (some su)) (h:cb [some (.int n),some su] S=some (u,S'))
  (q:∀v u' m' H' s',Inv X pins σ H' s'->cE v u'->Ext X.K m H m' H'->Sr X.K m' S' H'->Is X.K m' H' v u->R u' s'):wpAny (Qz X.prog X.w) A (call (.ref f) [.int n t]) R E s:=by
 obtain⟨sv,hs,iv⟩:=lr.at_ k su hk;obtain⟨mm,hmm,hl⟩:=I.loc;obtain⟨sval,rs,look⟩:=hl k x sv L.nm hs (.inr (.inl L.kin));have cel:s.heap.IsCell cx (some sval):=by
  rcases look with⟨z,_⟩|⟨_,c',e,z⟩
  ·rw[L.kin]at z;cases z
  ·rw[L.cel]at e;cases e;exact z
 have lk:∀y d,([(x,cx)]:List (Str×Addr)).lookup y=some d->y=x/\d=cx:=fun y d e=>by
  rw[ZC]at e;by_cases z:(y == x)=true
  ·rw[z]at e;cases e;exact⟨by simpa using z,rfl⟩
  ·rw[show(y == x)=false by simpa using z]at e;cases e
 have nx:(x == pa)=false:=by simpa using fun e=>L.ne e.symm
 have fr:scope.names.lookup x=some .free:=by rw[L.nms,ZC,nx];simp
 refine wpAny_call (codeAny_mono (E8 (p:=pa) (capN:=[x]) (vc:=[sv]) (v:=.int n) (te:=tE X.K cb) (Q:=fun v H'=>∃m',Ext X.K m H m' H'/\Sr X.K m' S' H'/\Is X.K m' H' v u) hr.depth hA hr.hd ho hcd L.co L.gen L.knd (fun y hy=>?_) ?_ (L.bnd _ _ _ _ _) ⟨t,rfl⟩ (fun y z d a b=>(lk y d a).1.trans (lk z d b).1.symm) (fun y hy=>?_) (fun y d e=>?_) (.cons ⟨fr,cx,sval,?_,cel,rs⟩ .nil) (L.bdy f _ A s H (hr.deeper _)) ?_) fun r s' hr'=>?_)
 ·rw[L.nms]at hy;rcases Qq.mp hy with e|hy
  ·rw[e];exact fun z=>nomatch z
  ·rw[Qy.mp hy];exact fun z=>nomatch z
 ·rw[L.nms,ZC];simp
 ·rw[L.nms]at hy;simp only[ZC]at hy;by_cases z1:(y == pa)=true
  ·rw[z1]at hy;rcases hy with e|e<;>cases e
  ·rw[show(y == pa)=false by simpa using z1]at hy;by_cases z2:(y == x)=true
   ·exact⟨cx,by rw[ZC,z2]⟩
   ·rw[show(y == x)=false by simpa using z2]at hy;rcases hy with e|e<;>cases e
 ·obtain⟨rfl,rfl⟩:=lk y d e;exact⟨⟨_,cel⟩,I.freeC _ _ L.cel⟩
 ·rw[ZC];simp
 ·refine⟨m,[some (.int n),some su],S,u,S',sr,⟨rfl,fun i w e=>?_⟩,h,fun m' v H' e sr' i'=>⟨m',e,sr',i'⟩⟩;match i,e with
  |0,e=>simp at e;subst e;exact⟨_,rfl,.int_⟩
  |1,e=>simp at e;subst e;exact⟨_,rfl,iv⟩
  |i+2,e=>simp at e
 ·obtain⟨u',rfl,ce⟩:=hr';obtain⟨v,H',I',rv,m',e,sr',i'⟩:=I.after ce;exact q v u' m' H' s' I' rv e sr' i'
theorem Bs{A:Qd}{pins:List (Addr×Obj)}{σ:L2.St}{ρ:Rho}{H:Hp}{s:Q4}{m:List Addr}{S Sn:Sto}{f c a kS:Addr}{pm ctv:Q3}{su:U}{E:Q3->Q4->Prop}{vs:List Q3}{ns:List Int}{ks:List (Int×Int)}{e1:Nat}{oc:Obj}{R:PySem.Fin->Q4->Prop}(L:FN X body cb scope params x pa qual k kr cx)
  (hE:∀s H,t7 X.prog X.w X.K X.mg X.base X.A X.stack s H->t7 X.prog X.w X.K X.mg X.base A X.stack s H) (hr:fY (kr+1) A) (I:Inv X ((f,kla_obj "<lambda>" qual params body scope [(x,cx)] pm c ctv)::(a,seqObj "list" #[] e1)::pins) σ H s) (hc:H c=some (.frz oc (.own 0))) (hcd:s.heap.CodeRec (.ref c) qual)
  (sr:Sr X.K m S H) (lr:Lr X.K m H ρ σ) (hk:ρ[k]?=some (some su)) (h:zK cb su ns S=some (ks,Sn)) (hI:IntsAre vs ns) (h64:vs.length<64) (gk:s.heap.get? kS=some (seqObj "list" #[] 0)) (nk:H kS=none) (hka:kS≠a) (h0:X.s₀.heap.objs.size<=kS) (hL:kS≠X.env.locals) (hce:∀y d,X.env.cells.lookup y=some d->d≠kS) (hp:∀q∈X.pn++pins,q.1≠kS) (hf:f≠kS)
  (q:∀m' H' s' h' c',Inv X ((f,kla_obj "<lambda>" qual params body scope [(x,cx)] pm c ctv)::(a,seqObj "list" #[] e1)::pins) σ H' s'->Ext X.K m H m' H'->Sr X.K m' Sn H'->H' kS=none->(∀b o,b≠a->b≠kS->s'.heap.get? b=some o->h'.get? b=some o)->h'.objs.size=s'.heap.objs.size->h'.get? a=some (seqObj "list" ((rW ks).map fun i=>vs.getD i Value.none).toArray c')->R (.done (.ret .none)) { s' with heap:=h' }) :
  wpAny (Qz X.prog X.w) A (ksk_rest a (.ref f) false vs.toArray e1 (.ref kS)) R E s:=by
 have lk:=lU h;have lv:=hI.length;dsimp only at lk;unfold ksk_rest;refine Q2 (wpAny_rule ?_);rw[List.forIn_toArray];refine Q2 (ksk_fold (fun i s'=>∃m' S' H' kA e,Inv X ((f,kla_obj "<lambda>" qual params body scope [(x,cx)] pm c ctv)::(a,seqObj "list" #[] e1)::pins) σ H' s'/\Ext X.K m H m' H'/\Sr X.K m' S' H'/\zK cb su (ns.drop i) S'=some (ks.drop i,Sn)/\s'.heap.get? kS=some (seqObj "list" kA e)/\H' kS=none/\Paired (Jc X.K H') kA.toList (ks.take i)) vs 0 s
  ⟨m,S,H,#[],0,I,.refl,sr,h,gk,nk,.nil⟩ ?_ ?_)
 ·rintro j v s' hv ⟨m',S',H',kA,e,I',ex,sr',run,gk',nk',pr⟩;simp only[Nat.zero_add]at run pr ⊢;have hj:j<vs.length:=(Q9.mp hv).1;have hjn:j<ns.length:=by omega
  obtain⟨t,ht⟩:=hI.get j ns[j] (Q7 hjn);rw[hv]at ht;cases ht;rw[List.drop_eq_getElem_cons hjn]at run;unfold zK at run;obtain⟨⟨u,S1⟩,r1,run⟩:=Q0.mp run;dsimp only at run;split at run<;>try cases run
  rename_i y z;obtain⟨t2,r2,r3⟩:=Q0.mp run;have hjk:j<ks.length:=by omega
  rw[List.drop_eq_getElem_cons hjk]at r3;injection r3 with r3;obtain⟨e2,e3⟩:=Prod.mk.inj r3;obtain⟨e4,e5⟩:=List.cons.inj e2;have gc:=(I'.hok c _ (ex.keep.c _ _ hc)).1;have hcd':s'.heap.CodeRec (.ref c) qual:=by
   obtain⟨c2,o2,vs2,t3,z1,z2,z3⟩:=hcd;cases z1;rw[(I.hok c _ hc).1]at z2;cases z2;exact⟨c,oc,vs2,t3,rfl,gc,z3⟩
  have pf:=I'.pin _ (QN _ (QU));refine Q2 (wpAny_attempt (Z6 (Bo (E:=fun _ _=>False) L (hE _ _ I'.env0) hr (I'.pins_of (pins':=(kS,seqObj "list" kA e)::(f,kla_obj "<lambda>" qual params body scope [(x,cx)] pm c ctv)::(a,seqObj "list" #[] e1)::pins) fun p hp'=>?_) pf.1 hcd' sr' (lr.mono ex) hk r1 (R:=fun u' s2=>∃v m2 H2,Inv X ((kS,seqObj "list" kA e)::(f,kla_obj "<lambda>" qual params body scope [(x,cx)] pm c ctv)::(a,seqObj "list" #[] e1)::pins) σ H2 s2/\cE v u'/\Ext X.K m' H' m2 H2/\Sr X.K m2 S1 H2/\Is X.K m2 H2 v (.tup [.int y,.int z])) fun v u' m2 H2 s2 a1 a2 a3 a4 a5=>⟨v,m2,H2,a1,a2,a3,a4,a5⟩) (fun u' s2 hq=>?_) fun _ _ z=>z.elim))
  ·rcases Qq.mp hp' with z|hp'
   ·subst z;exact⟨gk',nk',hL,fun w=>by
     obtain⟨_,o,ho,_⟩:=I.ok.funs.mem w;exact absurd (QL (QK ho) h0) (ZN _),fun w z=>nomatch z⟩
   ·exact I'.pin p (QN _ hp')
  ·obtain⟨v,m2,H2,I2,rv,ex2,sr2,iv⟩:=hq;obtain⟨b,xs,rfl,sq,il⟩:=iv.of_tup;obtain rfl:u'=.ref b:=rv;have hxs:xs=[.int y,.int z]:=(il.ints (ns:=[y,z]));subst hxs;obtain⟨gk2,nk2,_⟩:=I2.pin _ (QN _ (QU));have zk:kA.size<=vs.length:=by
    have:=pr.length;rw[Qk,List.length_take]at this;omega
   have u1:=Heap.SameBut.update s2.heap kS (Obj.mapSeq (·.push (.ref b)));dsimp only;refine Q2 (listUpdate_at gk2 rfl (QJ ⟨rfl,m2,S1,H2,kA.push (.ref b),_,?_,ex.trans ex2,sr2,?_,get?_update_seq gk2 (·.push (.ref b)),nk2,?_⟩) (by unfold QB;omega) (Qp (Nat.le_of_eq (Array.size_push ..)) (by unfold QB;omega)))
   ·have I3:Inv X ((f,kla_obj "<lambda>" qual params body scope [(x,cx)] pm c ctv)::(a,seqObj "list" #[] e1)::pins) σ H2 s2:=I2.pins_of fun p hp'=>I2.pin p (QN _ (QX _ hp'));refine I3.turned (t':=s2.toks) (it:=kS) (fun b o nb e=>(u1.2 b nb).trans e) nk2 hL (.inr h0) hce fun p hp'=>?_;rcases Qe.mp hp' with w|w
    ·exact hp p (List.mem_append_left _ w)
    ·rcases Qq.mp w with w|w
     ·rw[w];exact hf
     ·rcases Qq.mp w with w|w
      ·rw[w];exact Ne.symm hka
      ·exact hp p (QN _ w)
   ·rw[<-e5,<-e3];exact r2
   ·rw[List.take_add_one,Q7 hjk,<-e4];simp only[Option.toList_some,Array.toList_push];exact mr (Paired.mapP pr fun v p ⟨b,z1,z2⟩=>⟨b,z1,ex2.keep.t _ _ z2⟩) ⟨b,rfl,sq⟩
 ·rintro s' ⟨m',S',H',kA,e,I',ex,sr',run,gk',nk',pr⟩;simp only[Nat.zero_add]at run pr;rw[show ns.drop vs.length=[]from List.drop_eq_nil_of_le (by omega),show ks.drop vs.length=[]from List.drop_eq_nil_of_le (by omega)]at run;unfold zK at run;injection run with run;obtain⟨_,e3⟩:=Prod.mk.inj run;subst e3;rw[List.take_of_length_le (by omega)]at pr;have pa':=I'.pin _ (QN _ (QX _ (QU)));refine Q2 (listItems_at gk' rfl (Fd gk' pa'.1 hka (n4 I' pr) (by omega) h64 fun h' c' k1 k2 k3=>q m' H' s' h' c' I' ex sr' nk' k1 k2 k3))
theorem B0{acc:Array Q3}{ns:List Int}{vs:List (Key×Q3)}(ks:vs.map (·.1)=ns.map Sum.inl)(h1:acc.size=vs.length)(h2:∀(i:Nat) (v:Q3),acc[i]?=some v->∃k x,vs[i]?=some (k,x)/\oX k v=true):IntsAre acc.toList ns:=by
 have key:∀(i:Nat) (v:Q3),acc.toList[i]?=some v->∃(n:Int) (t:Tok),ns[i]?=some n/\v=Value.int n t:=fun i v e=>by
  obtain⟨k,x,e1,e2⟩:=h2 i v (by rw[<-Zv];exact e);have e3:(vs.map (·.1))[i]?=some k:=by rw[Qr,e1];rfl
  rw[ks,Qr]at e3;obtain⟨n,e4,e5⟩:=Z0.mp e3;subst e5;rcases bE (k:=Sum.inl n) e2 with⟨j,t,e6,e7⟩|⟨j,t,e6,e7⟩
  ·cases e6;exact⟨n,t,e4,e7⟩
  ·cases e6
 have hla:acc.toList.length=ns.length:=by have:=congrArg List.length ks;rw[Qk,h1];simpa using this
 clear h2 h1 ks;generalize acc.toList=l at key hla;induction l generalizing ns with
 |nil=>cases ns with
  |nil=>exact .nil
  |cons a b=>simp at hla
 |cons a b ih=>cases ns with
  |nil=>simp at hla
  |cons c d=>
   obtain⟨n,t,e1,e2⟩:=key 0 a (by simp);simp at e1;subst e1;subst e2;exact .cons _ t (ih (fun i v e=>by have:=key (i+1) v (by simpa using e);simpa using this) (by simpa using hla))
theorem _root_.L2.Inv.turnedC{X:Cx}{pins:List (Addr×Obj)}{σ:L2.St}{H:Hp}{s:Q4}{h':Heap}(ch:List Addr)(I:Inv X pins σ H s)(k:∀b o,b∉ch->s.heap.get? b=some o->h'.get? b=some o)
  (hc:∀b∈ch,H b=none/\b≠X.env.locals/\X.s₀.heap.objs.size<=b/\(∀x c,X.env.cells.lookup x=some c->c≠b)/\∀p∈X.pn++pins,p.1≠b):Inv X pins σ H { s with heap:=h' }:=by
 have nit:∀b u,H b=some u->b∉ch:=fun b u e z=>by rw[(hc b z).1]at e;cases e
 refine I.step (g':=s.gens) (d':=s.drawn) (t':=s.toks) (ch:=ch) (fun b hb=>⟨.inr (hc b hb).2.2.1,(hc b hb).2.1,(hc b hb).2.2.2.1,(hc b hb).2.2.2.2⟩) (fun b o _ _ hb e _=>k b o hb e) (fun b o _ _ hb e _=>⟨o.slots,k b o hb e⟩) (fun _ _ _ _ n=>n)
  (fun b o hb e=>⟨o,k b o hb e⟩) (fun _ _ e=>e) (fun _ _ _ e=>e) (fun b ps e=>⟨#[],by rw[e];simp⟩) (fun m hm=>?_) (fun b u e=>?_) I.bare
 ·obtain⟨o,es,ep,ho,r⟩:=hm;exact⟨o,es,ep,k _ o (fun z=>(hc _ z).2.1 rfl) ho,r⟩
 ·refine(I.hok b u e).stay (fun c v hc' q=>k c v ?_ q) (fun _ q=>q) fun _ _ q=>q;rcases hc' with rfl|z
  ·exact nit _ _ e
  ·exact nit _ _ z
def nr{a b:Nat}(h:a<b):a≠b:=Qj h
def sJ{a b:Nat}(h:b<a):a≠b:=Nat.ne_of_gt h
abbrev lN(a b:Nat):Prop:=a<b
theorem Er{o:PySem.Expr}{co:CE}{c p:Addr}{p1 lpos kpos pos:Pos}(L:FN X body cb scope params x pa (X.env.qual++"<lambda>") k kr cx)(hr:fY (kr+3) X.A)(hcm:X.calm=true)(hg:Gl X "sorted")(hm:X.mg "sorted"=none)(hv:Qc "sorted"=some (.builtin "sorted"))(ho:QE X o co)
  (hcode:X.env.code=.ref c) (C:codeHdIn X.K c p=true) (B:zJ X.mg X.base) (hcl:closureFor scope X.env=pure [(x,cx)]) (hdef:defaultsOf params X.env=([],[]))
  (he:QR [o] X.env=(false,eval o X.env)::QR [] X.env:=by rfl) (hpl:(Z9 pos (QR [o] X.env)).any (·.1)=false:=by rfl) :
  QE X (.Call (.Name "sorted" p1) [o] [⟨some "key",.Lambda params body scope lpos,kpos⟩] pos) (vy (.cod p lpos (X.env.qual++"<lambda>")) k co cb):=⟨fun pins s σ H Q I hz=>lD hz fun m ρ S u S' sr lr hc post=>by
 obtain⟨⟨w,S1⟩,h1,hc⟩:=Q0.mp hc;dsimp only at hc;split at hc<;>try cases hc
 rename_i l;split at hc<;>try cases hc
 rename_i kus hS;obtain⟨ns,hn,hc⟩:=Q0.mp hc;split at hc<;>try cases hc
 rename_i cond;obtain⟨h64,j,hj⟩:=cond;obtain⟨su,hk,hc⟩:=Q0.mp hc;obtain⟨⟨ks,Sn⟩,run,hc⟩:=Q0.mp hc;injection hc with hc;obtain⟨rfl,rfl⟩:=Prod.mk.inj hc;have hk':ρ[k]?=some (some su):=Option.join_eq_some_iff.mp hk;refine wpAny_Call_Name_kw (nZ I hg hm hv (callWith_kw (thn ((ag ho aF he).h.h pos pins s σ H (fun vs H1=>∃m1,Ext X.K m H m1 H1/\Sr X.K m1 S1 H1/\IsL X.K m1 H1 vs [.ref l]) I ⟨m,ρ,S,[.ref l],S1,sr,lr,?_,fun m1 vs H1 e sr1 i1=>⟨m1,e,sr1,i1⟩⟩) fun us s1 hu=>?_) (by rw[he];rfl) hpl))
 ·simp[ah,aN,h1]
 obtain⟨vs,H1,I1,rv,m1,e1,sr1,il⟩:=hu;obtain⟨v,rfl,iv⟩:=il.one;obtain⟨ad,had,rfl⟩:=iv.of_ref;obtain⟨uv,rfl,ru⟩:=kC rv;obtain rfl:uv=.ref ad:=ru;obtain⟨aj,haj,rfl,ps,hps,htr,hit⟩:=sr1.get hj;have kI:X.K.In X.base:=I.mod.kin;refine kws_cons (kla_eval hdef (Bn I1 hcode (codeHd_of_K kI C) B hps htr hcl hit fun f c' pm ctv ps' H2 s2 I2 hsz nf gf hcd keep hp2 ht2 hit2 rest hnc=>kws_nil ?_));obtain⟨oc,vsc,tc,ha1,ha2,ha3,ha4⟩:=hit2;have st:Ext X.K m1 H1 m1 H2/\Sr X.K m1 S1 H2:=by
  rcases hnc with hnc|rfl
  ·have ncp:c'≠aj:=fun z=>by rw[z,hps]at hnc;cases hnc
   have eH:H2=upd (upd H1 c' (.frz oc (.own 0))) aj (.tbl ps'):=by
    funext b;by_cases b1:b=aj
    ·subst b1;rw[aL];exact hp2
    ·rw[aP b1];by_cases b2:b=c'
     ·subst b2;rw[aL];exact ha2
     ·rw[aP b2];exact rest b b1 b2
   have sA:=gO (o:=.frz oc (.own 0)) hnc;have srA:=sr1.same sA;have srB:=srA.put (ho:=.tbl ps') (o:=.cod aj lpos (X.env.qual++"<lambda>")) haj ⟨rfl,ps',aL,ht2,.inr ⟨c',oc,vsc,tc,ha1,by rw[aP ncp,aL],ha3,ha4⟩⟩;have eS:S1.set j (.cod aj lpos (X.env.qual++"<lambda>"))=S1:=by
    obtain⟨hlt,e⟩:=Q9.mp hj;rw[<-e];exact List.set_getElem_self hlt
   rw[eS]at srB;rw[eH];exact⟨Ext.trans (.of (dw sA)) (.of (srA.keep haj _)),srB⟩
  ·exact⟨.refl,sr1⟩
 obtain⟨e2,sr2⟩:=st;obtain⟨ad',had',kvs,hD,ip⟩:=sr2.get hS;rw[had]at had';cases had';obtain⟨z,hd,vd,rel,dd⟩:=pM I2.hok hD;obtain⟨ep,da⟩:=dd.dictAt;have hkk:kvs.map (·.1)=ns.map Sum.inl:=by rw[ip.1,oV hn]
 have lkv:kvs.length=ns.length:=by have:=congrArg List.length hkk;simpa using this
 have lv:vd.length=ns.length:=by rw[<-Paired.length rel];exact lkv
 have kd:vd.map (·.1)=ns.map Sum.inl:=by rw[<-hkk];exact sQ rel
 show wpAny (Qz X.prog X.w) X.A (call (.builtin "sorted") [.ref ad] [(Str.ofString "key",.ref f)]) _ _ s2;refine call_function_entry_kw kind_sorted plain_sorted entry_sorted (ksk_s1 _ _) ?_;unfold Builtin.«sorted»;refine Q2 (m:=checkCount "sorted" 1 1 _) (QJ (Q2 (PySem.W.kdu_collect (PySem.W.kdl_dict (kvs:=vd) (ep:=ep) hd) (show X.A.in1.handled=none from I.ok.hd hcm) da (by rw[lv,<-lkv];exact z) fun h1' tk acc up hac=>?_)));have hI:=B0 kd hac.1 hac.2;have hla:acc.toList.length=ns.length:=hI.length;have I3:Inv X pins σ H2 { s2 with heap:=h1',toks:=tk }:=I2.kept up;refine Q2 (wpAny_newList ?_ (by rw[hla,<-lkv];exact z));have gL:(h1'.push { cls:=.type "list",data:=.seq acc.toList.toArray }).get? h1'.objs.size=some (seqObj "list" acc.toList.toArray 0):=QM _ rfl;refine Q2 (wpAny_holding (wpAny_call_entry_kw slot_list_sort ⟨_,gL,rfl⟩ entry_list_sort ?_ (ksk_l1 _ _)));rw[ksk_t1];generalize ea:h1'.objs.size=a at *;have zl:acc.toList.length<=QB:=by unfold QB;omega
 unfold ksk_tree;obtain⟨n1,g1⟩:∃n1,((h1'.push { cls:=.type "list",data:=.seq acc.toList.toArray }).update a (Obj.mapSeq fun _=>#[])).get? a=some (seqObj "list" #[] n1):=⟨_,get?_update_seq gL fun _=>#[]⟩;refine Q2 (listItems_at gL rfl (Q2 (listUpdate_at gL rfl (Q2 (seqEpoch_at g1 rfl (Q2 (wpAny_newTuple (Q2 (wpAny_newList (wpAny_holding ?_) (ZZ _))) (by simpa using zl))))) (by simpa using zl) (ZZ _))));have sz:((h1'.push { cls:=.type "list",data:=.seq acc.toList.toArray }).update a (Obj.mapSeq fun _=>(#[]:Array Q3))).objs.size=a+1:=by rw[Heap.size_update,Zc,ea]
 generalize eh:(((h1'.push { cls:=.type "list",data:=.seq acc.toList.toArray }).update a (Obj.mapSeq fun _=>(#[]:Array Q3))))=h2 at *;have keep2:∀b o,h1'.get? b=some o->h2.get? b=some o:=fun b o e=>by
  have lt:=QK e;rw[<-eh,Heap.get?_update_ne _ _ _ _ (nr (by rw[<-ea];exact lt))];exact Q5 _ e
 have keep4:∀b o,h1'.get? b=some o->((h2.push (seqObj "tuple" acc.toList.toArray 0)).push (seqObj "list" #[] 0)).get? b=some o:=fun b o e=>Q5 _ (Q5 _ (keep2 b o e));have szk:(h2.push (seqObj "tuple" acc.toList.toArray 0)).objs.size=a+2:=by rw[Zc,sz]
 have I4:Inv X pins σ H2 { s2 with heap:=(h2.push (seqObj "tuple" acc.toList.toArray 0)).push (seqObj "list" #[] 0),toks:=tk }:=I3.kept keep4;have loc:lN X.env.locals a:=by have:=I3.lt;rw[<-ea];exact this
 have s0:@LE.le Nat _ X.s₀.heap.objs.size a:=by have:=I3.sz;rw[<-ea];exact this
 have cel:∀y d,X.env.cells.lookup y=some d->lN d a:=fun y d e=>by
  obtain⟨v,o,ho,_⟩:=I3.cell y d e;rw[<-ea];exact QK ho
 have pnl:∀q∈X.pn++pins,lN q.1 a:=fun q hq=>by rw[<-ea];exact QK (I3.pin q hq).1
 have frl:∀b:Nat,@LE.le Nat _ a b->b∉X.fs:=fun b hb w=>by
  obtain⟨_,o,ho,_⟩:=I.ok.funs.mem w;exact absurd (QL (QK ho) (Qp s0 hb)) (ZN _)
 have fa:lN f a:=by rw[<-ea];exact QK (up _ _ gf)
 have ff:f∉X.fs:=fun w=>by
  obtain⟨_,o,ho,_⟩:=I.ok.funs.mem w;exact absurd (QL (QK ho) (Qp I1.sz hsz)) (ZN _)
 have fl:f≠X.env.locals:=sJ (QL I1.lt hsz);have I5:=I4.pins_of (pins':=(f,kla_obj "<lambda>" (X.env.qual++"<lambda>") params body scope [(x,cx)] pm c' ctv)::(a,seqObj "list" #[] n1)::pins) fun q hq=>by
  rcases Qq.mp hq with w|hq
  ·subst w;exact⟨keep4 _ _ (up _ _ gf),nf,fl,ff,fun v z=>nomatch z⟩
  ·rcases Qq.mp hq with w|hq
   ·subst w;exact⟨Q5 _ (Q5 _ g1),I3.hok.fresh (by rw[ea];exact QQ _),sJ loc,frl a (QQ _),fun v z=>nomatch z⟩
   ·exact I4.pin q (QN _ hq)
 have hcd4:((h2.push (seqObj "tuple" acc.toList.toArray 0)).push (seqObj "list" #[] 0)).CodeRec (.ref c') (X.env.qual++"<lambda>"):=⟨c',oc,vsc,tc,rfl,keep4 _ _ (up _ _ (I2.hok c' _ ha2).1),ha3,ha4⟩;refine Bs (E:=X.xe) (s:={ s2 with heap:=(h2.push (seqObj "tuple" acc.toList.toArray 0)).push (seqObj "list" #[] 0),toks:=tk }) L (fun s H e=>e.in1.in1) hr.in1.in1 I5 ha2 hcd4 sr2 ((lr.mono e1).mono e2) hk' run hI (by omega) (kS:=(h2.push (seqObj "tuple" acc.toList.toArray 0)).objs.size) (QM _ rfl) (I3.hok.fresh (show @LE.le Nat _ h1'.objs.size _ by rw[ea,szk];omega)) (sJ (by rw[szk];omega)) (show @LE.le Nat _ _ _ by rw[szk];omega) (sJ (by rw[szk];omega)) (fun y d e=>nr (by rw[szk];have:=cel y d e;omega)) (fun q hq=>nr (by rw[szk];have:=pnl q hq;omega)) (nr (by rw[szk];omega)) fun m3 H3 s3 h3 c3 I6 e3 sr3 nk3 k1 k2 k3=>?_;refine⟨_,rfl,QJ ⟨_,rfl,?_⟩⟩;have pa':=I6.pin (a,seqObj "list" #[] n1) (QN _ (QX _ QU));have I7:Inv X pins σ H3 s3:=I6.pins_of fun q hq=>I6.pin q (QN _ (QX _ (QX _ hq)));have I8:Inv X pins σ H3 { s3 with heap:=h3 }:=Inv.turnedC [a,(h2.push (seqObj "tuple" acc.toList.toArray 0)).objs.size] I7 (fun b o hb e=>k1 b o (fun z=>hb (by simp[z])) (fun z=>hb (by simp[z])) e) fun b hb=>by
  rcases Qq.mp hb with w|hb
  ·subst w;exact⟨pa'.2.1,sJ loc,s0,fun y d e=>nr (cel y d e),fun q hq=>nr (pnl q hq)⟩
  ·rw[Qy.mp hb,szk];exact⟨by rw[<-szk];exact nk3,sJ (by omega),show @LE.le Nat _ _ _ by omega,fun y d e=>nr (by have:=cel y d e;omega),fun q hq=>nr (by have:=pnl q hq;omega)⟩
 have lo:∀i∈rW ks,i<ns.length:=fun i hi=>by
  have:=ZJ.mp ((fc ks).mem_iff.mp hi);rw[lU run]at this;exact this
 have vl:bR ((nh ks ns).map V.int) ((rW ks).map fun i=>acc.toList.getD i Value.none):=by
  unfold nh;generalize rW ks=is at lo;induction is with
  |nil=>exact .nil
  |cons i r ih=>
   refine .cons ?_ (ih fun b hb=>lo b (QX _ hb));have hi:=lo i QU;obtain⟨t,ht⟩:=hI.get i ns[i] (Q7 hi);dsimp only;rw[Qv,Qv,ht,Q7 hi];exact⟨t,rfl⟩
 have lz:((nh ks ns).map V.int).length<=QB:=by
  have:=(fc ks).length_eq;rw[List.length_range,lU run]at this;rw[Q8];unfold nh;rw[Q8,this];unfold QB;omega
 have I9:=I8.adopt (c:=a) (u:=.lst ((nh ks ns).map V.int)) ⟨lz,_,c3,vl,k3⟩ pa'.2.1 s0 (sJ loc) (fun y d e=>nr (cel y d e)) (fun q hq=>nr (pnl q hq));exact⟨.ref a,_,I9,rfl,ej sr3 (i9 _) (post.mono (((e1.trans e2).trans e3))) pa'.2.1⟩⟩
end
end OP
namespace L2
open PySem PySem.Spec PyProof.Rows OG
def B4(p:Addr)(H:Hp):Prop:=H p=some (.tbl #[])/\∀b,b≠p->H b=none\/∃o xs,H b=some (.frz o (.lst xs))
theorem yy{P:Qx}{w:Qg}{K:Q1}{mg mb:Str->Option Q3}{k:Nat}{fa a p:Addr}{fd:ZP}{x:Str}{sp:Sp}{s₁:Q4}{vs:List Q3}{ns:List Int}
  (KX:K.In s₁.heap) (hns:s₁.heap.Ns mainGlobals mg) (hb:s₁.heap.Ns builtinsNs mb) (hbb:∀x:Str,x≠"__name__"->mb x=Qc x) (hlim:s₁.heap.NoLimit) (hg:s₁.gens=#[]) (hbm:zJ mg s₁.heap)
  (hp:s₁.heap.get? p=some (PySem.W.tabObj #[])) (hpK:K.lookup p=none) (hpc:isCodeTable s₁.heap p)
  (ha:s₁.heap.get? a=some { cls:=.type "list",data:=.seq vs.toArray }) (hi:IntsAre vs ns) (hl:ns.length<=QB) (hr:fY k callerA)
  (F:∀base:Heap,K.In base->base.Ns mainGlobals mg->zJ mg base->lF P w K mg base CX0 k fa fd [x] sp) (hbind:∀(s:Q4) (u:Q3),BindsTo s fd ⟨[u],[]⟩ [(x,u)])
  (hsp:∀H:Hp,B4 p H->SqL K H a (ns.map V.int)->sp [.ref a] H (fun v _=>v=.bl true) fun _ _ _=>False) :
  codeAny (Qz P w) callerA (.call (.ref fa) ⟨[.ref a],[]⟩) (fun r s'=>r=.ok (.ret (.bool true))/\OldK s₁.heap s'.heap/\s'.os=s₁.os/\AllBare s'.gens) s₁:=by
 have rv:=ik hi;have lenV:=hi.length;have nap:a≠p:=fun z=>by rw[z,hp]at ha;cases ha
 have core:∀H:Hp,B4 p H->SqL K H a (ns.map V.int)->HOk P w H s₁.heap->(∀b,H b≠none->b=a\/b=p)->(H a≠none->K.lookup a=none)->
   codeAny (Qz P w) callerA (.call (.ref fa) ⟨[.ref a],[]⟩) (fun r s'=>r=.ok (.ret (.bool true))/\OldK s₁.heap s'.heap/\s'.os=s₁.os/\AllBare s'.gens) s₁:=by
  intro H hO hS hok hA hK;have noA:∀{b:Addr} {o:Obj},s₁.heap.get? b=some o->(∀its n,o.data≠.seq its n)->(∀vs,o.data≠.fields vs)->H b=none:=fun{b o} e d1 d2=>by
   cases q:H b with
   |none=>rfl
   |some u=>
    rcases hA b (by rw[q];simp)with z|z
    ·subst z;rw[ha]at e;cases e;exact absurd rfl (d1 _ _)
    ·subst z;rw[hp]at e;cases e;exact absurd rfl (d2 _)
  have nsK:∀{b:Addr} {m:Str->Option Q3},s₁.heap.Ns b m->(Bz s₁.heap H).Ns b m:=fun{b m} ⟨o,es,ep,e,d,r⟩=>⟨o,es,ep,o8 e (noA e (by rw[d];intro _ _ z;cases z) (by rw[d];intro _ z;cases z)),d,r⟩;have hKb:K.In (Bz s₁.heap H):=fun b o e=>o8 (KX b o e) (by
   cases q:H b with
   |none=>rfl
   |some u=>
    rcases hA b (by rw[q];simp)with z|z
    ·subst z;rw[hK (by rw[q];simp)]at e;cases e
    ·subst z;rw[hpK]at e;cases e)
  have hM:Mod K mg (Bz s₁.heap H):=⟨hKb,nsK hns,⟨mb,nsK hb,hbb⟩,let ⟨mc,h1,h2⟩:=hlim;⟨mc,nsK h1,h2⟩⟩;have hB:zJ mg (Bz s₁.heap H):=by
   obtain⟨bm,ob,b1,b2,b3,b4,b5,b6⟩:=hbm;exact⟨bm,ob,b1,b2,o8 b3 (noA b3 (by rw[b6];intro _ _ z;cases z) (by rw[b6];intro _ z;cases z)),b4,b5,b6⟩
  have e0:t7 P w K mg (Bz s₁.heap H) callerA [] s₁ H:=⟨rfl,hM,fun b o e=>EZ e,Nat.le_of_eq (yQ _ _),trivial,fun b hb=>absurd (show b∈([]:List Addr)from hb) (by simp),hok,.of_eq hg⟩;refine codeAny_mono ((F _ hKb (nsK hns) hB).run callerA [] s₁ H ⟨[.ref a],[]⟩ [.ref a] [.ref a] _ _ hr e0 (hbind s₁ (.ref a)) (.cons rfl .nil) (hsp H hO hS)) fun r s' h=>?_;cases r with
  |error e=>exact h.elim
  |ok fl=>
   cases fl with
   |next=>exact False.elim h
   |brk=>exact False.elim h
   |cont=>exact False.elim h
   |ret u=>
    obtain⟨v,H',os,bare,un,hok',r',q⟩:=h;have q':v=.bl true:=q;subst q';obtain rfl:u=Value.bool true:=r';have kp:∀b o,b≠p->s₁.heap.get? b=some o->s'.heap.get? b=some o:=fun b o nb e=>by
     cases q:H b with
     |none=>exact un.keep b o e q (by intro z;exact absurd (show b∈([]:List Addr)from z) (by simp)) (by simp)
     |some u=>
      rcases hO.2 b nb with z|⟨ob,xs,z⟩
      ·rw[q]at z;cases z
      ·have z2:=un.frzs b ob _ z;obtain⟨e1,_⟩:=hok b _ z;obtain⟨e2,_⟩:=hok' b _ z2;rw[e]at e1;cases e1;exact e2
    obtain⟨more,hm⟩:=un.tbls p _ hO.1;have gp:s'.heap.get? p=some { cls:=.none,data:=.fields (#[]++more) }:=hok' p _ hm;refine⟨rfl,⟨fun b o e=>?_,fun b o e=>?_⟩,os,bare⟩
    ·by_cases z:b=p
     ·subst z;rw[hp]at e;cases e;exact .inr (.inl ⟨hpc,rfl,#[],more,rfl,gp⟩)
     ·exact .inl (kp b o z e)
    ·by_cases z:b=p
     ·subst z;exact⟨_,gp⟩
     ·exact⟨o,kp b o z e⟩
 cases hk:K.lookup a with
 |some o=>
  have e:=KX a o hk;rw[ha]at e;cases e;refine core (upd (fun _=>none) p (.tbl #[])) ⟨aL,fun b nb=>.inl (by rw[aP nb])⟩ (.inr ⟨_,vs.toArray,_,hk,rfl,rfl,rfl,by rw[QD,lenV];exact hl,by simpa using rv⟩) (fun b u z=>?_) (fun b z=>?_) fun z=>absurd (by rw[aP nap]) z
  ·by_cases nb:b=p
   ·subst nb;rw[aL]at z;cases z;exact hp
   ·rw[aP nb]at z;cases z
  ·by_cases nb:b=p
   ·exact .inr nb
   ·exact absurd (by rw[aP nb]) z
 |none=>
  refine core (upd (upd (fun _=>none) a (.frz { cls:=.type "list",data:=.seq vs.toArray } (.lst (ns.map V.int)))) p (.tbl #[])) ⟨aL,fun b nb=>?_⟩ (.inl (.inr ⟨{ cls:=.type "list",data:=.seq vs.toArray },by rw[aP nap];exact aL⟩)) (fun b u z=>?_) (fun b z=>?_) fun _=>hk
  ·rw[aP nb];by_cases hb:b=a
   ·subst hb;exact .inr ⟨_,_,aL⟩
   ·exact .inl (by rw[aP hb])
  ·by_cases nb:b=p
   ·subst nb;rw[aL]at z;cases z;exact hp
   ·rw[aP nb]at z;by_cases hb:b=a
    ·subst hb;rw[aL]at z;cases z;exact⟨ha,by rw[Q8];exact hl,vs,_,rv,ha⟩
    ·rw[aP hb]at z;cases z
  ·by_cases nb:b=p
   ·exact .inr nb
   ·rw[aP nb]at z;by_cases hb:b=a
    ·exact .inl hb
    ·exact absurd (by rw[aP hb]) z
theorem Ai{l:PySem.W.OpenLaw}{n k:Nat}{q:Qx}{dW:List Str}{XP:(Str->Option Q3)->Heap->Prop}{YP:Qg->Heap->Prop}{d:DefRec}{K:Params->Q1}{sp:Qg->Sp}{x:Str}{p:Addr}
  (hn:l.most=some n) (hn2:n<=QB) (hdf:d.params.defaults=[]) (hr:fY k callerA)
  (hY:∀(w:Qg) (h:Heap),YP w h->(K w.params).In h/\h.get? p=some (PySem.W.tabObj #[])) (hK:∀w:Qg,(K w.params).lookup p=none) (hC:∀w:Qg,∃c,PySem.W.codeHdIn (K w.params) c p=true)
  (F:∀(w:Qg) (mg:Str->Option Q3) (fa:Addr) (h:Heap),(K w.params).In h->h.Ns mainGlobals mg->mg d.name=some (.ref fa)->
   ∃fd:ZP,(∀(s:Q4) (u:Q3),BindsTo s fd ⟨[u],[]⟩ [(x,u)])/\
    ∀base:Heap,(K w.params).In base->base.Ns mainGlobals mg->zJ mg base->lF l.prog w (K w.params) mg base CX0 k fa fd [x] (sp w))
  (hsp:∀(w:Qg) (H:Hp) (a:Addr) (ns:List Int),ns.length<=n->B4 p H->SqL (K w.params) H a (ns.map V.int)->sp w [.ref a] H (fun v _=>v=.bl true) fun _ _ _=>False) :
  PySem.W.WalkO q dW XP YP l.row.toRowW d [] (fun f vs=>PySem.call f vs):=by
 refine Att.attach_call hn hdf fun w s₀ s₁ mg mb fa o pm cd doc a vs ns G Y ho hd hcd hmg hobj hints hlen hg=>?_;obtain⟨KX,hp⟩:=hY w _ Y;obtain⟨fd,hb,hF⟩:=F w mg fa _ KX G.T.g hmg;obtain⟨c,hc⟩:=hC w;have C:=PySem.W.codeHd_of_K KX hc;obtain⟨oc,vc,file,tf,flags,tg,inF,text,tt,c1,c2,c3,c4,_⟩:=C;exact yy KX G.T.g G.T.b G.T.builtins G.T.nolimit hg G.T.bmain hp (hK w) ⟨c,oc,vc,c1,c2,c3,c4⟩ hobj hints (Qp hlen hn2) hr hF hb fun H hO hS=>hsp w H a ns hlen hO hS
end L2
namespace OP
open PySem PySem.Spec PyProof PyProof.Rows L2 OG PySem.W
def uw(p:Addr)(K:Q1):Sp:=fun vs H Q _=>∃(a:Addr) (ns:List Int),vs=[.ref a]/\KL K H a ns/\ns.length<=63/\H p=some (.tbl #[])/\∀H',Q (.bl true) H'
theorem Ig{K:Q1}{H:Hp}{a p:Addr}{ns:List Int}(hO:B4 p H)(h:SqL K H a (ns.map V.int)):KL K H a ns:=by
 have no:∀xs,H a≠some (.lst xs):=fun xs e=>by
  by_cases z:a=p
  ·subst z;rw[hO.1]at e;cases e
  ·rcases hO.2 a z with q|⟨o,ys,q⟩
   ·rw[q]at e;cases e
   ·rw[q]at e;cases e
 rcases h with(h|h)|h
 ·exact absurd h (no _)
 ·exact .inl h
 ·exact .inr h
theorem Bm{K:Q1}{H:Hp}{a p:Addr}{pos:Pos}{qual:Str}{ns:List Int}{c:CS}{r:Rho}{σ:L2.St}{Q:VK}{nx bk ct:L2.St->Hp->Prop}(h:KL K H a ns)(hp:H p=some (.tbl #[]))
  (ok:∃ρ' S',c (some (.kl ns)::r) [.cod p pos qual]=some (.rt (.bl true),ρ',S')) (q:∀H',Q (.bl true) H')
  (hr:r=QY r.length none:=by rfl) (hl:σ.length=r.length:=by rfl):tS K c { nx:=nx,rt:=Q,bk:=bk,ct:=ct } (some (.ref a)::σ) H:=by
 obtain⟨ρ',S',e⟩:=ok;refine⟨[p],_,_,_,ρ',S',⟨rfl,by simp,fun l ad o e1 e2=>?_⟩,⟨by simp[hl],fun i u e1=>?_⟩,e,fun m' v H' _ _ iv=>by rw[iv.of_bl];exact q H'⟩
 ·cases l with
  |zero=>
   simp at e1 e2;subst e1;subst e2;exact⟨rfl,#[],hp,trivial,.inl rfl⟩
  |succ l=>simp at e1
 cases i with
 |zero=>
  simp at e1;subst e1;exact⟨.ref a,rfl,.kl_ h⟩
 |succ i=>
  simp only[ZI]at e1;rw[hr,ZL]at e1;split at e1<;>cases e1
section
variable{P:Qx}{w:Qg}{K:Q1}{base:Heap}{mg:Str->Option Q3}{x q:Str}{st:Qm}{C c p:Addr}{ps N:List Str}{k:Nat}{cs:CS}{cl:Cl}
def FP(K:Q1)(C:Addr)(x:Str)(c p:Addr):Prop:=∃f o fd,PySem.W.findIn K (.ref C) x=some (some (.ref f))/\K.lookup f=some o/\o.data=.func fd/\fd.code=.ref c/\PySem.W.codeHdIn K c p=true
theorem MtD.pureC(d:MtD K cl.C x q st ps)(cd:FP K cl.C x c p)(S:aV N ps (aA st))
  (hb:∀(f:Addr) (A:Qd) (outer:List Env) (s:Q4) (H:Hp) (E:XK),fY k (A.deeper (envOfC q (aA st) s.heap.objs.size f (.ref c)))->WSs (rX CX0 P w K mg base N q (aA st) f (.ref c) A outer s H E).nox (dP st) (tS K cs)) :
  eZ P w K mg base cl x (k+1) ps (fnU N.length ps.length cs):=by
 obtain⟨fa,fd,F,b,m⟩:=d;obtain⟨oc,od,kV,doc,pm,an,cdv,ct,osl,rfl,lk,hcd⟩:=F.ex;obtain⟨f,o,fd2,z1,z2,z3,z4,z5⟩:=cd;have ef:f=fa:=by have:=m.at_;rw[z1]at this;cases this;rfl
 subst ef;rw[lk]at z2;cases z2;cases z3;have e:cdv=.ref c:=z4;subst e;refine⟨f,_,m,?_,b⟩;refine IJ lk hcd S (fun vs H Q E h=>ot h) fun A outer s H vs Q E hr h=>⟨_,(hb f A outer s H E hr).h.nox,sY (X:=(rX CX0 P w K mg base N q (aA st) f (.ref c) A outer s H E).nox) (body:=[]) (ps:=ps) rfl h⟩
end
section
variable{X:Cx}
theorem oC{i₀:Nat}{x₀:Str}{pos₀ pos':Pos}{Nc capN tn:List Str}{scope:Zr}{cl:List (Str×Addr)}{n:Nat}{caps:List Nat}{tg iter elt:QH}{pos:Pos}{ci:CE}{g:CG}{ct:CT}{ce:CE}{c:PySem.Expr}
  (hc:X.calm=true) (hi:QE X iter ci) (hg:∀s3 H3 fp,WG (cxC X Nc scope cl s3 H3 fp) tg (tG X.K g)) (ht:∀s3 H3 fp,WT (cxC X Nc scope cl s3 H3 fp) c (tT X.K ct)) (he:∀s3 H3 fp,WE (cxC X Nc scope cl s3 H3 fp) elt (tE X.K ce))
  (hclos:closureFor scope X.env=pure cl) (hkind:scope.kind=.function) (hnl:∀x∈scope.names,x.2=.local->scope.names.lookup x.1=some .local) (hcell:∀x∈scope.names,x.2≠.cell)
  (hcl:vH X.env cl) (hhas:((relabel scope X.env).names.all fun p=>!(p.2 == .cell||p.2 == .free)||(cl.lookup p.1).isSome)=true)
  (hcap:Paired (Cap X scope cl) caps capN) (hN:Nc=tn++capN) (hn:tn.length=n)
  (hN0:X.N.Nodup) (hi0:X.N[i₀]?=some x₀) (hx0:X.env.scope.names.lookup x₀=some .local)
  (hsw:ZT (.ListComp elt [⟨tg,iter,[c],0⟩] scope pos) (some (.Name x₀ pos')) pos₀.line X.env=pure true)
  (hs:∀x,foldedSetIterable iter X.env x=pure x:=by intro _;rfl) :
  QS X (.Assign [.Name x₀ pos'] (.ListComp elt [⟨tg,iter,[c],0⟩] scope pos) pos₀) (eL i₀ (ko ci g ct ce n caps)):=
 (sf (qd hc (si hi) hg he ht hclos hkind hnl hcell hcl hhas hcap hN hn hN0 hi0 hx0 hsw hs)).imp fun D σ H hz=>ve hz fun m ρ S o ρ' S' sr lr hc post=>by
 obtain⟨⟨u,S1⟩,h1,h2⟩:=Q0.mp hc;cases h2;exact qg (G:=fun J H1 σ Q=>∀l,H1 l=none->∃W:Nat->Nat->L2.St->Hp->Prop,(∃m,W 0 m (OG.stC n caps σ) (upd H1 l (.lst [])))/\
  ∀i m σ' H2,W i m σ' H2->(J.stop i H2/\Q (.ref l) H2)\/(J.go i H2/\∃N:L2.St->Hp->Prop,(∀σ'' H',N σ'' H'->∃m',m'<m/\W (i+1) m' σ'' H')/\
  ∀x H3,J.yld i H2 x H3->tG X.K g x σ' H3 fun σ2 H4=>tT X.K ct σ2 H4 fun b H5=>match b with
   |true=>tE X.K ce σ2 H5 fun v H6=>∃ys,H6 l=some (.lst ys)/\ys.length<QB/\N σ2 (upd H6 l (.lst (ys++[v])))
   |false=>N σ2 H5)) (fun sr lr ito h2 post l hl=>tL sr lr ito hl h2 (post l hl))
  σ H (fun v H'=>D.nx (σ.set i₀ (some v)) H') ⟨m,ρ,S,u,_,sr,lr,h1,fun m1 v1 H1 e1 sr1 i1=>post m1 _ H1 e1 sr1 ((lr.mono e1).set i₀ i1)⟩
end
end OP
namespace OP
open PySem PySem.Spec PyProof.Rows L2 OG
theorem Hu{X:Cx}{body:List Qm}{t:TS}{h0:ExceptHandler}{hs:List ExceptHandler}{pos:Pos}(hx:∀e s,¬X.xe e s)(hb:PSs X body t):PS X (.Try body (h0::hs) [] [] pos) t:=by
 intro pins s σ H D I h;refine wpAny_Try_except (Z6 (hb pins s σ H D I h) (fun f s1 q=>?_) fun e s1 x=>(hx e s1 x).elim);cases f with
 |next=>exact wpAny_execs_nil q
 |_=>exact q
theorem Hi{X:Cx}{body:List Qm}{c:CS}{h0:ExceptHandler}{hs:List ExceptHandler}{pos:Pos}(hx:∀e s,¬X.xe e s)(hb:QSs X body c):QS X (.Try body (h0::hs) [] [] pos) c:=⟨Hu hx hb.h⟩
section
variable{prog:Qx}{w:Qg}{A:Qd}{E:Q3->Q4->Prop}{s:Q4}
theorem Fe{κ:Type}[DecidableEq κ]{knd:KeyKind prog w κ}{it d:Addr}{i ep:Nat}{kvs:List (κ×Q3)}{k:κ}{v:Q3}{Q:Q3->Q4->Prop}(hit:s.heap.IsKeyIter it d i kvs.length ep)(hm:s.heap.DictAt knd d kvs ep)(hx:kvs[i]?=some (k,v))
  (hQ:∀key h',knd.is k key=true->h'.IsKeyIter it d (i+1) kvs.length ep->Heap.SameBut it s.heap h'->Q key { s with heap:=h' }):wpAny (Qz prog w) A (Builtin.SmallTypes.nextOf (.ref it)) Q E s:=by
 have ty:=hit.typeIs;obtain⟨o,ho,hc,hd⟩:=id hit;obtain⟨od,es,hod,hcd,hdd,hk,hp,hn⟩:=id hm;unfold Builtin.SmallTypes.nextOf;refine Q2 (wpAny_callSpecial?_slot (name:=Str.ofString "__next__") ty F.slot_dict_keyiterator_next (wpAny_call_entry F.slot_dict_keyiterator_next ty F.entry_dict_keyiterator_next ?_ (F.args_dict_keyiterator_next_1 _)))
 wp_walk using wpAny_typeNameOfWhole_keyiter ty,wpAny_fieldsOf ho hd,wpAny_dictEntries hod hdd,wpAny_dictEpoch hod hdd,wpAny_isOneOf_keyiter ty
 have hz:es.size=kvs.length:=by rw[<-hp.length];simp
 rw[if_neg (by rw[hz];simp)]
 wp_walk using wpAny_dictEpoch hod hdd
 rw[if_neg (by simp)];have hl:i<es.size:=by rw[hz];exact(Q9.mp hx).1
 have hkey:knd.is k es[i].key=true:=(hp.get? (e:=es[i]) (by simp[hl]) hx).1;simp only[ZD,Z8 hl];have up:(s.heap.update it (Obj.mapFields (·.setIfInBounds 1 (rawInt ((i:Int)+1))))).IsKeyIter it d (i+1) kvs.length ep:=
  ⟨_,Heap.get?_update_self _ ho (Obj.isFreed_of_fields (Obj.data_mapFields hd _)),(Obj.cls_mapFields ..).trans hc,by rw[Obj.data_mapFields hd];simp[rawInt]⟩
 have ty2:=Heap.IsKeyIter.typeIs (s:={ s with heap:=s.heap.update it (Obj.mapFields (·.setIfInBounds 1 (rawInt ((i:Int)+1)))) }) up
 wp_walk using wpAny_typeNameOfWhole_keyiter ty,wpAny_isOneOf_keyiter ty
 simp only[hd];show wpAny _ _ (update it (Obj.mapFields fun x=>x.setIfInBounds 1 (rawInt ((i:Int)+1)))) _ _ _;refine wpAny_update ho ?_
 wp_walk using wpAny_isOneOf_keyiter ty2
 exact⟨_,rfl,QJ (hQ _ _ hkey up (Heap.SameBut.update ..))⟩
theorem CD{κ:Type}[DecidableEq κ]{knd:KeyKind prog w κ}{it d:Addr}{i ep:Nat}{kvs:List (κ×Q3)}{Q:Q3->Q4->Prop}(hh:A.handled=none)(hit:s.heap.IsKeyIter it d i kvs.length ep)(hm:s.heap.DictAt knd d kvs ep)(hx:kvs[i]?=none)
  (hE:∀h' e,Heap.ExtBut it s.heap h'->(∃o,h'.get? e=some o/\o.cls=.type "StopIteration")->E (.ref e) { s with heap:=h' }):wpAny (Qz prog w) A (Builtin.SmallTypes.nextOf (.ref it)) Q E s:=by
 have ty:=hit.typeIs;obtain⟨o,ho,hc,hd⟩:=id hit;obtain⟨od,es,hod,hcd,hdd,hk,hp,hn⟩:=id hm;unfold Builtin.SmallTypes.nextOf;refine Q2 (wpAny_callSpecial?_slot (name:=Str.ofString "__next__") ty F.slot_dict_keyiterator_next (wpAny_call_entry F.slot_dict_keyiterator_next ty F.entry_dict_keyiterator_next ?_ (F.args_dict_keyiterator_next_1 _)))
 wp_walk using wpAny_typeNameOfWhole_keyiter ty,wpAny_fieldsOf ho hd,wpAny_dictEntries hod hdd,wpAny_dictEpoch hod hdd,wpAny_isOneOf_keyiter ty
 have hz:es.size=kvs.length:=by rw[<-hp.length];simp
 rw[if_neg (by rw[hz];simp)]
 wp_walk using wpAny_dictEpoch hod hdd
 rw[if_neg (by simp)];have hl:es.size<=i:=by rw[hz];simpa using hx
 simp only[ZD,Array.getElem?_eq_none hl]
 wp_walk using wpAny_typeNameOfWhole_keyiter ty,wpAny_isOneOf_keyiter ty
 simp only[hd];show wpAny _ _ (update it (Obj.mapFields fun x=>x.setIfInBounds 0 Value.none)) _ _ _;refine wpAny_update ho ?_
 wp_walk
 unfold raiseNew;refine Q2 (wpAny_handled ?_);rw[show A.in1.handled=none from hh];exact Q2 (QJ (wpAny_throw (hE _ _ (((Heap.SameBut.update ..).extBut.push _).push _) ⟨_,QM _ rfl,rfl⟩)))
end
theorem BG{prog:Qx}{w:Qg}{A:Qd}(hh:A.handled=none)(it a:Addr)(hne:a≠it)(vs:List (Key×Q3))(ep:Nat) :
  Draws prog w A it [it,a] vs.length (fun i v=>∃k u,vs[i]?=some (k,u)/\oX k v=true) (fun i h=>h.IsKeyIter it a i vs.length ep/\h.DictAt (bC prog w) a vs ep) where
 live:=fun _ _ st=>let ⟨o,ho,_⟩:=st.1;⟨o,ho⟩
 frame:=fun _ _ _ st hk=>⟨Heap.IsKeyIter.at st.1 fun o e=>hk it (by simp) o e,let ⟨o,es,ho,r⟩:=st.2;⟨o,es,hk a (by simp) o ho,r⟩⟩
 item:=fun i s Q E hi st hQ=>Fe (k:=vs[i].1) (v:=vs[i].2) st.1 st.2 (Q7 hi) fun key h' hk it' s'=>hQ key h' s.toks ⟨_,_,Q7 hi,hk⟩ ⟨it',st.2.extBut s'.extBut hne⟩ s'
 done:=fun s Q E st hE=>CD hh st.1 st.2 (Zj (QQ _)) hE
theorem yY{prog:Qx}{w:Qg}(l:Addr)(vs:List (Key×Q3))(ep:Nat)(hl:(l == sysModules)=false) :
  MeetsIn prog w (Builtin.«enumerate.__new__» ⟨[.type "enumerate",.ref l],[]⟩) (fun _ R s=>s.heap.DictAt (bC prog w) l vs ep/\
   R (.ok (.ret (.ref (s.heap.push { cls:=.type "dict_keyiterator",data:=.fields #[.ref l,.int 0 0,.int vs.length 0,.int ep 0] }).objs.size))) { s with heap:=(s.heap.push { cls:=.type "dict_keyiterator",data:=.fields #[.ref l,.int 0 0,.int vs.length 0,.int ep 0] }).push { cls:=.type "enumerate",data:=.fields #[.none,.bool false,.ref s.heap.objs.size,rawInt 0,.none,.none] } }):=
 .of_wp fun A R s q=>by
  obtain⟨hp,g,d,tk,os⟩:=s;obtain⟨da,q⟩:=q;obtain⟨o,es,gl,rest⟩:=id da;have sb:=sub_enumerate
  wp_walk using wpAny_loadPart' gl
  refine wpAny_stack_any (fun st=>QJ ?_);split
  ·rename_i c _ _ _ _ _;cases (c == Value.type "enumerate")<;>(wp_walk using wpAny_loadPart' gl,wpAny_pyIter_dict (s:=⟨hp,g,d,tk,os⟩) hl da;exact⟨_,rfl,q⟩)
  ·wp_walk using wpAny_loadPart' gl,wpAny_pyIter_dict (s:=⟨hp,g,d,tk,os⟩) hl da
   exact⟨_,rfl,q⟩
structure LG(h:Heap)(e it a:Addr)(n m ep:Nat):Prop where
 he:∃old,IsEnum h e it n old
 hi:h.IsKeyIter it a n m ep
theorem wA{prog:Qx}{w:Qg}{A:Qd}{E:Q3->Q4->Prop}{s:Q4}{a:Addr}{vs:List (Key×Q3)}{ep:Nat}{Q:Q3->Q4->Prop}(hl:(a == sysModules)=false)(ha:s.heap.DictAt (bC prog w) a vs ep)
  (k:∀h' e it,e≠it->s.heap.objs.size<=e->s.heap.objs.size<=it->LG h' e it a 0 vs.length ep->(∀c o,s.heap.get? c=some o->h'.get? c=some o)->Q (.ref e) { s with heap:=h' }) :
  wpAny (Qz prog w) A (call (.type "enumerate") [.ref a]) Q E s:=by
 refine callType_newIn PySem.F.called_enumerate (by decide) (PySem.F.typeCall_enumerate_1 _) (PySem.F.newCall_enumerate_1 _) (fun obj=>PySem.F.args_object_init_2 obj _) PySem.F.entry_enumerate_new (yY a vs ep hl) ⟨ha,?_⟩;generalize hK:({ cls:=.type "dict_keyiterator",data:=.fields #[.ref a,.int 0 0,.int vs.length 0,.int ep 0] }:Obj)=oK;have n1:(s.heap.push oK).objs.size=s.heap.objs.size+1:=Zc ..;have p2:=QM (s.heap.push oK) (o:={ cls:=.type "enumerate",data:=.fields #[.none,.bool false,.ref s.heap.objs.size,rawInt 0,.none,.none] }) rfl;have p1:((s.heap.push oK).push { cls:=.type "enumerate",data:=.fields #[.none,.bool false,.ref s.heap.objs.size,rawInt 0,.none,.none] }).get? s.heap.objs.size=some oK:=Q5 _ (QM _ (by subst hK;rfl));rw[n1]at p2;show _/\_;rw[n1];refine⟨⟨_,p2,rfl⟩,k _ (s.heap.objs.size+1) s.heap.objs.size (Nat.ne_of_gt (Nat.lt_succ_self _)) (Nat.le_add_right _ _) (QQ _) ⟨⟨_,p2⟩,?_⟩ fun c o x=>Q5 _ (Q5 _ x)⟩;subst hK;exact⟨_,p1,rfl,rfl⟩
def Itk(a:Addr)(ep:Nat)(ks:List Key):It:=
 ⟨fun i H=>i<ks.length/\FZ H a ep ks,fun i H v H'=>∃p k,v=.ref p/\H p=none/\H'=upd H p (.tup [.int i,kV k])/\ks[i]?=some k,fun i H=>ks.length<=i/\FZ H a ep ks⟩
theorem yZ{prog:Qx}{w:Qg}{A:Qd}{E:Q3->Q4->Prop}{s:Q4}{e it a:Addr}{i:Int}{vs:List (Key×Q3)}{ep:Nat}{old:Q3}{Q:Option Q3->Q4->Prop}(hh:A.in1.handled=none)(he:IsEnum s.heap e it i old){j:Nat}(hi:s.heap.IsKeyIter it a j vs.length ep)(ha:s.heap.DictAt (bC prog w) a vs ep)(hx:vs[j]?=none)
  (k:∀h',Heap.ExtBut it s.heap h'->Q none { s with heap:=h' }):wpAny (Qz prog w) A (pyNext (.ref e)) Q E s:=by
 have ty:s.TypeIs (.ref e) "enumerate":=⟨_,he,rfl⟩;unfold pyNext;refine Q2 (wpAny_attempt (wpAny_callSpecial?_slot (name:=Str.ofString "__next__") ty PySem.F.slot_enumerate_next (wpAny_call_entry PySem.F.slot_enumerate_next ty PySem.F.entry_enumerate_next ?_ (PySem.F.args_enumerate_next_1 _))));show wpAny _ _ (field (.ref e) 2 >>= fun _=>_) _ _ _;refine Q2 (wpAny_field he rfl (x:=.ref it) rfl (Q2 (CD hh hi ha hx fun h' x he' hx'=>?_)));obtain⟨o,ho,co⟩:=hx';exact Q2 (wpAny_isInstance (T:="StopIteration") (b:=true) ⟨o,ho,co⟩ isSubtype_stop (QJ (k _ he')))
theorem vQ{P:Qx}{w:Qg}{K:Q1}{es:List QH}{k:Nat}{pos:Pos}{e it a:Addr}{ks:List Key}{ep:Nat}(ne:e≠it)(nae:a≠e)(nai:a≠it) :
  FY P w K (.Tuple es k pos) (Itk a ep ks) [e,it] e (fun n h=>LG h e it a n ks.length ep) where
 mem:=by simp
 obj:=fun n h st c hc=>by
  obtain⟨⟨old,he⟩,hi⟩:=st;simp only[Qq,Zu,or_false]at hc;rcases hc with rfl|rfl
  ·exact⟨_,he,fun v q=>by cases q⟩
  ·obtain⟨o,e,_,q⟩:=hi;exact⟨o,e,fun v z=>by rw[q]at z;cases z⟩
 keep:=fun n h h' st kp=>let ⟨old,he⟩:=st.he;⟨⟨old,kp e (by simp) _ he⟩,Heap.IsKeyIter.at st.hi fun o q=>kp it (by simp) o q⟩
 item:=by
  intro X hP hw hK hc n pins s σ H E Iv hf st hg;subst hP hw hK;obtain⟨hi0,ob,es0,kvs,hq,d,ek⟩:=hg;obtain⟨vs,rv,da⟩:=u9 Iv.hok hq d;have hl:ks.length=vs.length:=by rw[<-ek,Q8];exact Paired.length rv
  have hi':n<kvs.length:=by rw[<-ek,Q8]at hi0;exact hi0
  have hx:kvs[n]?=some ((kvs[n]).1,(kvs[n]).2):=Q7 hi';obtain⟨u,hu⟩:=yz rv hx;obtain⟨⟨old,he⟩,hi⟩:=st;rw[hl]at hi;have hlt:n<vs.length:=by rw[<-hl];exact hi0
  refine wpAny_pyNext_enum_itemD (BG (show X.A.in1.handled=none from Iv.ok.hd hc) it a nai vs ep) he ⟨hi,da⟩ hlt ne (by simp[ne,Ne.symm nae]) fun y h1 tk py out1 st1 T1 sz1 up1=>⟨_,rfl,wpAny_letOwnedTupleGo_enum out1 fun h2 e2 s2=>?_⟩;obtain⟨k',u',hk',hky⟩:=py;rw[hu]at hk';cases hk';have ru:cE (kV (kvs[n]).1) y:=yB hky;have hfr:H s.heap.objs.size=none:=Iv.hok.fresh (QQ _);have elt:e<s.heap.objs.size:=QK he;have ilt:it<s.heap.objs.size:=by obtain⟨o,q,_⟩:=hi;exact QK q
  have sz:∀c∈[e,it],c<s.heap.objs.size:=fun c hc=>by
   simp only[Qq,Zu,or_false]at hc;rcases hc with rfl|rfl
   ·exact elt
   ·exact ilt
  have T2:h2.get? s.heap.objs.size=some { cls:=.type "tuple",data:=.seq #[.int n tk,y] }:=s2.extBut _ _ (Nat.ne_of_gt elt) T1;have I1:Inv X pins σ (upd H s.heap.objs.size (.tup [.int n,kV (kvs[n]).1])) { s with heap:=s.heap.push { cls:=.type "tuple",data:=.seq #[.int n tk,y] },toks:=s.toks }:=
   Iv.laid (fun b o e=>Q5 _ e) (QQ _) (AY (QM _ rfl) ⟨tk,rfl⟩ ru)
  have fr2:∀c∈[e,it],(upd H s.heap.objs.size (.tup [.int n,kV (kvs[n]).1])) c=none:=fun c hc=>by rw[aP (Qj (sz c hc))];exact(hf c hc).1
  have I2:Inv X pins σ (upd H s.heap.objs.size (.tup [.int n,kV (kvs[n]).1])) { s with heap:=h2,toks:=tk+1 }:=
   Inv.turnedL (s:={ s with heap:=s.heap.push { cls:=.type "tuple",data:=.seq #[.int n tk,y] },toks:=s.toks }) (h':=h2) (t':=tk+1) (ch:=[e,it]) I1 (fun c o hn q=>by
    by_cases ce:c=s.heap.objs.size
    ·subst ce;have q':(s.heap.push { cls:=.type "tuple",data:=.seq #[.int n tk,y] }).get? s.heap.objs.size=some o:=q;rw[QM _ rfl]at q';cases q';exact T2
    ·have q':s.heap.get? c=some o:=AI q ce;simp only[Qq,Zu,or_false,not_or]at hn;exact s2.extBut _ _ hn.1 (up1 c o hn.1 hn.2 q')) fun c hc=>⟨fr2 c hc,(hf c hc).2⟩
  have st2:=st1.1;rw[<-hl]at st2;refine⟨.ref s.heap.objs.size,_,I2,rfl,⟨_,_,rfl,hfr,rfl,by rw[<-ek,Qr,hx];rfl⟩,⟨⟨_,by simpa using e2⟩,st2.at fun o q=>s2.extBut _ _ (Ne.symm ne) q⟩,fr2⟩
 done:=by
  intro X hP hw hK hc n pins s σ H E Iv hf st hg;subst hP hw hK;obtain⟨hi0,ob,es0,kvs,hq,d,ek⟩:=hg;obtain⟨vs,rv,da⟩:=u9 Iv.hok hq d;have hl:ks.length=vs.length:=by rw[<-ek,Q8];exact Paired.length rv
  obtain⟨⟨old,he⟩,hi⟩:=st;rw[hl]at hi;refine yZ (show X.A.in1.handled=none from Iv.ok.hd hc) he hi da (Zj (by omega)) fun h1 up1=>⟨rfl,?_⟩;exact Iv.turnedL (t':=s.toks) (ch:=[e,it]) (fun c o hn q=>by
   simp only[Qq,Zu,or_false,not_or]at hn;exact up1 c o hn.2 q) hf
 self:=fun _ _ _ _ _ st h=>let ⟨old,he⟩:=st.he;wpAny_pyIter_enum he h
def CO(X:Cx)(tl:TE):TI:=fun σ H R=>Ec tl GZ σ H fun vs H1=>∃a kvs,vs=[.ref a]/\H1 a=some (.dK kvs)/\∀ob es ep,wN X a->ob.data=.dict es ep->R (Itk a ep (kvs.map (·.1))) (upd H1 a (.frz ob (.dK kvs)))
theorem Ah{X:Cx}{pos:Pos}{es:List QH}{k:Nat}{tp p:Pos}{a:QH}{ta:TE}(hg:Gl X "enumerate")(hm:X.mg "enumerate"=none)(ha:WE X a ta)
  (hs:QR [a] X.env=(false,eval a X.env)::QR [] X.env:=by rfl) (hpl:(Z9 pos (QR [] X.env)).any (·.1)=false:=by rfl):WI X (.Tuple es k tp) (.Call (.Name "enumerate" p) [a] [] pos) (CO X ta):=by
 constructor;intro pins s σ H R I h;refine wpAny_Call_Name_kw (nZ I hg hm OP.zu ?_);refine PyProof.Rows.callWith_type1 (thn ((lP ha sh hs).h pos pins s σ H _ I h) fun us s1 hz=>?_) hs hpl;obtain⟨vs,H1,I1,r1,q1⟩:=hz;obtain⟨aa,kvs,rfl,hq,q⟩:=q1;obtain⟨u,rfl,ru⟩:=kC r1;cases ru;obtain⟨hz,hy,vs,rv,ob,es,ep,e1,e2,e3,rest⟩:=pM I1.hok hq;have da:s1.heap.DictAt (bC X.prog X.w) aa vs ep:=⟨ob,es,e1,e2,e3,rest⟩;have hl:kvs.length=vs.length:=Paired.length rv;have nf:wN X aa:=fun ob' u' z=>by have:=I1.base.frzs aa ob' u' z;rw[hq]at this;cases this
 have I2:Inv X pins σ (upd H1 aa (.frz ob (.dK kvs))) s1:=oY I1 hq (by simp) (by simp) (by simp) nf ⟨e1,hz,hy,vs,rv,ob,es,ep,e1,e2,e3,rest⟩;refine wA hy da fun h1 e it ne he hi st up=>?_;obtain⟨old,hE⟩:=st.he;have la:=da.lt_size;have st':LG h1 e it aa 0 (kvs.map (·.1)).length ep:=by rw[Q8,hl];exact st
 refine wpAny_pyIter_enum hE ⟨e,[e,it],_,_,_,rfl,I2.kept (t':=s1.toks) up,vQ ne (Qj (QL la he)) (Qj (QL la hi)),st',fun c hc=>?_,q ob es ep nf e3⟩;simp only[Qq,Zu,or_false]at hc;rcases hc with rfl|rfl
 ·exact I2.fpOk he (I2.hok.fresh he)
 ·exact I2.fpOk hi (I2.hok.fresh hi)
def zq(ce:CE)(g:CG)(cb:CS):CS:=fun ρ S=>(ce ρ S).bind fun p=>match p.1 with
 |.ref l=>match p.2[l]? with
  |some (.dic kus)=>uni fun ep=>(dX (fun S'=>S'[l]?=some (.fdc ep kus)) g cb (tm (kus.map fun q=>kU q.1)) ρ (p.2.set l (.fdc ep kus))).bind fun r=>match r.2.2[l]? with
   |some (.fdc _ kus')=>some (r.1,r.2.1,r.2.2.set l (.dic kus'))
   |_=>none
  |_=>none
 |_=>none
theorem Bw{K:Q1}{m:List Addr}{H:Hp}{a:Addr}{l ep:Nat}{kus:List (Key×U)}(ha:m[l]?=some a):zP K (Itk a ep (kus.map (·.1))) m H (tm (kus.map fun q=>kU q.1)) (fun S'=>S'[l]?=some (.fdc ep kus)):=by
 intro m2 S2 H2 i e sr hok;obtain⟨a',ha',ob,es,kvs,hx,hd,ip⟩:=sr.get hok;have ha2:=e.get ha;rw[ha2]at ha';cases ha';have hz:FZ H2 a ep (kus.map (·.1)):=⟨ob,es,kvs,hx,hd,ip.1⟩;refine⟨fun u hu=>?_,fun hu=>⟨by simpa [tm] using hu,hz⟩⟩;have hi:i<kus.length:=by have:=(Q9.mp hu).1;simpa [tm] using this
 refine⟨⟨by simpa using hi,hz⟩,?_⟩;rintro x H3 ⟨r,k,rfl,hr,rfl,hk⟩;have ee:Ext K m2 H2 m2 (upd H2 r (.tup [.int i,kV k])):=.of (cN hr _);simp only[tm,Qr,Z0,List.getElem?_zipIdx]at hu hk;obtain⟨⟨p,q⟩,⟨y,⟨z,hz',rfl⟩,e⟩,rfl⟩:=hu;cases e;obtain⟨z2,hz2,rfl⟩:=hk;rw[hz']at hz2;cases hz2;exact⟨ee,sr.same (gO hr _),.tup_ (SqT.of aL) (.cons_ (by simp only[Nat.zero_add];exact .int_) (.cons_ (CH _) .nil_))⟩
theorem BC{X:Cx}{ce:CE}{g:CG}{cb:CS}:∀D σ H,tS X.K (zq ce g cb) D σ H->G3 (CO X (tE X.K ce)) (tG X.K g) (tS X.K cb) (FO X D) σ H:=by
 rintro D σ H ⟨m,ρ,S,o,ρ',S',sr,lr,hc,post⟩;obtain⟨⟨x,S1⟩,h1,h⟩:=Q0.mp hc;refine⟨m,ρ,S,x,S1,sr,lr,h1,fun m1 v1 H1 e1 sr1 i1=>?_⟩;cases x with
 |ref l=>
  simp only at h;split at h<;>try cases h
  rename_i kus hS;obtain⟨a,ha,rfl⟩:=i1.of_ref;obtain⟨a',ha',kvs,hx,ip⟩:=sr1.get hS;rw[ha]at ha';cases ha';refine⟨a,kvs,rfl,hx,fun ob es ep nf hd=>?_⟩;obtain⟨⟨o1,ρ1,S2⟩,h2,h3⟩:=Q0.mp (oo h ep);simp only at h3;split at h3<;>try cases h3
  rename_i ep' kus' hS2;have kp:wR X.K H1 (upd H1 a (.frz ob (.dK kvs))):=sr1.keep ha _;have ee:Ext X.K m1 H1 m1 (upd H1 a (.frz ob (.dK kvs))):=.of kp;have sr2:Sr X.K m1 (S1.set l (.fdc ep kus)) (upd H1 a (.frz ob (.dK kvs))):=sr1.put ha ⟨ob,es,kvs,aL,hd,ip.mono ee⟩;rw[ip.1];refine oT sr2 (lr.mono (e1.trans ee)) (Bw ha) h2 ?_;have back:∀m3 H3,Ext X.K m1 (upd H1 a (.frz ob (.dK kvs))) m3 H3->Sr X.K m3 S2 H3->∃ob' kvs',H3 a=some (.frz ob' (.dK kvs'))/\Ext X.K m3 H3 m3 (upd H3 a (.dK kvs'))/\Sr X.K m3 (S2.set l (.dic kus')) (upd H3 a (.dK kvs')):=fun m3 H3 e3 sr3=>by
   obtain⟨a3,ha3,ob3,es3,kvs3,hx3,hd3,ip3⟩:=sr3.get hS2;rw[e3.get ha]at ha3;cases ha3;have e4:Ext X.K m3 H3 m3 (upd H3 a (.dK kvs3)):=.of (sr3.keep (e3.get ha) _);exact⟨ob3,kvs3,hx3,e4,sr3.put (e3.get ha) ⟨kvs3,aL,ip3.mono e4⟩⟩
  have nxt:∀(R:L2.St->Hp->Prop),ie X.K m H R ρ' (S2.set l (.dic kus'))->ie X.K m1 (upd H1 a (.frz ob (.dK kvs))) (fun σ H=>∃a ob kvs,wN X a/\H a=some (.frz ob (.dK kvs))/\R σ (upd H a (.dK kvs))) ρ' S2:=fun R p m3 σ3 H3 e3 sr3 lr3=>by
   obtain⟨ob3,kvs3,hx3,e4,sr4⟩:=back m3 H3 e3 sr3;exact⟨a,ob3,kvs3,nf,hx3,p m3 σ3 _ (((e1.trans ee).trans e3).trans e4) sr4 (lr3.mono e4)⟩
  cases o with
  |nx=>exact nxt _ post
  |bk=>exact nxt _ post
  |ct=>exact nxt _ post
  | rt v=>
    intro m3 v3 H3 e3 sr3 i3;obtain⟨ob3,kvs3,hx3,e4,sr4⟩:=back m3 H3 e3 sr3;exact⟨a,ob3,kvs3,nf,hx3,post m3 v3 _ (((e1.trans ee).trans e3).trans e4) sr4 (i3.mono e4)⟩
 |_=>cases h
theorem Ep{X:Cx}{es:List QH}{k:Nat}{tp p pos':Pos}{a:QH}{body:List Qm}{ce:CE}{g:CG}{cb:CS}{pos:Pos}(hp:PassesOwn (Qz X.prog X.w) X.A X.env X.xe)(hc:X.calm=true)(hg0:Gl X "enumerate")(hm:X.mg "enumerate"=none)(hi:QE X a ce)(hg:QG X (.Tuple es k tp) g)(hb:QSs X body cb)
  (hs:QR [a] X.env=(false,eval a X.env)::QR [] X.env:=by rfl) (hpl:(Z9 pos' (QR [] X.env)).any (·.1)=false:=by rfl) (hf:∀x,foldedSetIterable (.Call (.Name "enumerate" p) [a] [] pos') X.env x=pure x:=by intro _;rfl):QS X (.For (.Tuple es k tp) (.Call (.Name "enumerate" p) [a] [] pos') body [] pos) (zq ce g cb):=
 (sf (sg hp hc (Ah hg0 hm hi hs hpl) hg hb hf)).imp BC
end OP
namespace OQ
open PySem PySem.Spec PyProof.Rows L2 OG OP
def fM:CS:=
 (a9 (eL 3 (cOp tj (cOp p9 (cOp p9 (cOp p9 (cOp nF (ak 3) (ak 3)) (cOp nF (cC (.int 50021)) (ak 3))) (cOp nF (cC (.int 19)) (ak 5))) (cC (.int 7))) (cC (.int 2147483563))))
  (eL 4 (cOp p9 (cOp nF (ak 4) (cC (.int 2147483563))) (ak 3))))
def eU:CS:=
 (a9 (eL 2 (cOp p9 (cOp nF (cC (.int 5)) (ak 1)) (cC (.int 3))))
  (a9 (eW (aU (cOp fLt (ak 1) (cCB n9 (ah (ak 0) aN)))) (eL 2 (cOp fIx (ak 0) (ak 1))) cq)
  (a9 (eW (aU (cOp fEq (cOp tj (ak 2) (cC (.int 2))) (cC (.int 0)))) (c8 (km (ah (cOp CQ (ak 2) (cC (.int 2))) aN))) cq)
  (a9 (eL 3 (cOp tj (cOp p9 (cOp p9 (cOp nF (ak 2) (cC (.int 30011))) (cOp nF (cC (.int 977)) (ak 1))) (cC (.int 41))) (cC (.int 2147483563))))
  (a9 (eL 4 (cC (.int 0)))
  (a9 (og (cZ (ah (cC (.int 60)) aN)) (gNm 5) (fM ))
  (c8 (km (ah (ak 4) aN)))))))))
def tq{a0 a1:U}{S:Sto}:fnU 6 2 (eU ) [a0,a1] S=((eU ) [some a0,some a1,none,none,none,none] S).bind kFn:=h8 rfl
def gJ:CS:=
 (a9 (eL 2 (cOp tj (cOp fIx (ak 0) (cC (.int 0))) (ak 1)))
  (a9 (eN (ak 0) (cC (.int 0)) (cOp CQ (cOp fIx (ak 0) (cC (.int 0))) (ak 1)))
  (c8 (ak 2))))
def wB{a0 a1:U}{S:Sto}:fnU 3 2 (gJ ) [a0,a1] S=((gJ ) [some a0,some a1,none] S).bind kFn:=h8 rfl
def fj:CS:=
 (c8 (BP (zM .int (ak 0)) (BO (zM .bool (ak 0)))))
def rb{a0:U}{S:Sto}:fnU 1 1 (fj ) [a0] S=((fj ) [some a0] S).bind kFn:=h8 rfl
def dE(cAttempt:Cl):CS:=
 (a9 (gZ cAttempt 0 (ak 0) (ak 1))
  (a9 (gZ cAttempt 1 (ak 0) nN)
  (a9 (gZ cAttempt 2 (ak 0) nN)
  (a9 (gZ cAttempt 3 (ak 0) (cC .non))
  (a9 (gZ cAttempt 4 (ak 0) (km aN))
  (gZ cAttempt 5 (ak 0) (cC (.bl true))))))))
theorem nL{cAttempt:Cl}{a0 a1:U}{S:Sto}:fnU 2 2 (dE cAttempt) [a0,a1] S=((dE cAttempt) [some a0,some a1] S).bind kFn:=h8 rfl
def eG(cKeeper:Cl):CS:=
 (a9 (gZ cKeeper 0 (ak 0) (cCB q4 (ah (ak 2) aN)))
  (a9 (gZ cKeeper 1 (ak 0) (cOp qZ (km (ah (cC (.int 0)) aN)) (cCB n9 (ah (ak 2) aN))))
  (a9 (gZ cKeeper 2 (ak 0) nN)
  (a9 (gZ cKeeper 3 (ak 0) (cC (.int 0)))
  (a9 (gZ cKeeper 4 (ak 0) (km aN))
  (gZ cKeeper 5 (ak 0) nN))))))
theorem pI{cKeeper:Cl}{a0 a1 a2:U}{S:Sto}:fnU 3 3 (eG cKeeper) [a0,a1,a2] S=((eG cKeeper) [some a0,some a1,some a2] S).bind kFn:=h8 rfl
def fC(cKeeper cAttempt:Cl):CS:=
 (a9 (eL 3 (cOp fIx (cD cKeeper 5 (ak 0)) (ak 1)))
  (a9 (gZ cAttempt 5 (ak 3) (cC (.bl false)))
  (fZ (cBM dq (cD cKeeper 4 (ak 0)) (ah (lO (ah (ak 2) (ah (ak 1) aN))) aN)))))
theorem rq{cKeeper cAttempt:Cl}{a0 a1 a2:U}{S:Sto}:fnU 4 3 (fC cKeeper cAttempt) [a0,a1,a2] S=((fC cKeeper cAttempt) [some a0,some a1,some a2,none] S).bind kFn:=h8 rfl
def dB(cKeeper cAttempt:Cl):CS:=
 (a9 (eW (cOr (aU (cOp (fIn true) (ak 1) (cD cKeeper 5 (ak 0)))) (wI (aU (cD cAttempt 5 (cOp fIx (cD cKeeper 5 (ak 0)) (ak 1)))))) lE cq)
  (c8 (cOp fIx (cD cKeeper 5 (ak 0)) (ak 1))))
theorem nI{cKeeper cAttempt:Cl}{a0 a1:U}{S:Sto}:fnU 2 2 (dB cKeeper cAttempt) [a0,a1] S=((dB cKeeper cAttempt) [some a0,some a1] S).bind kFn:=h8 rfl
def cW(aS:Fn)(cKeeper cAttempt:Cl):CS:=
 (a9 (eL 2 (bJ cKeeper aS (ak 0) (ah (ak 1) aN)))
  (a9 (eW (aU (cOp BE (cD cAttempt 3 (ak 2)) (cC .non))) lE cq)
  (c8 (ak 2))))
theorem lL{aS:Fn}{cKeeper cAttempt:Cl}{a0 a1:U}{S:Sto}:fnU 3 2 (cW aS cKeeper cAttempt) [a0,a1] S=((cW aS cKeeper cAttempt) [some a0,some a1,none] S).bind kFn:=h8 rfl
def c7(cKeeper:Cl):CS:=
 (c8 (cCB wQ (ah (pS (gK (iTp (ak 2)) (gNm 0) (cOp fNe (wK (cD cKeeper 2 (ak 2)) (ak 0) (ak 1)) (ak 1)) 1 [1,0]) (fW (ak 2) (gNm 0) (cOp fNe (wK (cD cKeeper 2 (ak 2)) (ak 0) (ak 1)) (ak 1)) 1 [1,0])) aN)))
theorem gq{cKeeper:Cl}{a0 a1 a2:U}{S:Sto}:fnU 3 3 (c7 cKeeper) [a0,a1,a2] S=((c7 cKeeper) [some a0,some a1,some a2] S).bind kFn:=h8 rfl
def bF(cKeeper cAttempt:Cl):CS:=
 (a9 (eL 2 (cOp fIx (cD cKeeper 5 (ak 0)) (ak 1)))
  (c8 (cCB wQ (ah (fW (cD cAttempt 1 (ak 2)) (gNm 0) (cOp fGt (cOp fIx (cD cKeeper 1 (ak 2)) (ak 0)) (cD cAttempt 0 (ak 1))) 1 [2,0]) aN))))
theorem jg{cKeeper cAttempt:Cl}{a0 a1:U}{S:Sto}:fnU 3 2 (bF cKeeper cAttempt) [a0,a1] S=((bF cKeeper cAttempt) [some a0,some a1,none] S).bind kFn:=h8 rfl
def a8(aG aE:Fn)(cKeeper cAttempt:Cl):CS:=
 (a9 (eW (aU (bJ cKeeper aG (ak 0) (ah (ak 1) (ah (km (ah (ak 2) aN)) aN)))) (c8 (cC (.bl true))) cq)
  (a9 (eW (aU (cOp fLe (cOp fIx (cD cKeeper 1 (ak 0)) (ak 2)) (cD cAttempt 0 (cOp fIx (cD cKeeper 5 (ak 0)) (ak 1))))) (c8 (cC (.bl false))) cq)
  (c8 (Jy (bJ cKeeper aG (ak 0) (ah (ak 1) (ah (cD cAttempt 1 (cOp fIx (cD cKeeper 5 (ak 0)) (ak 1))) aN))) (bJ cKeeper aE (ak 0) (ah (ak 1) aN))))))
theorem jE{aG aE:Fn}{cKeeper cAttempt:Cl}{a0 a1 a2:U}{S:Sto}:fnU 3 3 (a8 aG aE cKeeper cAttempt) [a0,a1,a2] S=((a8 aG aE cKeeper cAttempt) [some a0,some a1,some a2] S).bind kFn:=h8 rfl
def bD(cKeeper cAttempt:Cl):CS:=
 (a9 (eW (aU (cOp fGt (cOp fIx (cD cKeeper 1 (ak 0)) (ak 2)) (cD cAttempt 0 (ak 1)))) (gZ cAttempt 0 (ak 1) (cD cKeeper 3 (ak 0))) cq)
  (a9 (eN (cD cAttempt 1 (ak 1)) (ak 2) (cC (.bl true)))
  (c8 (cOp fIx (cD cKeeper 0 (ak 0)) (ak 2)))))
theorem ki{cKeeper cAttempt:Cl}{a0 a1 a2:U}{S:Sto}:fnU 3 3 (bD cKeeper cAttempt) [a0,a1,a2] S=((bD cKeeper cAttempt) [some a0,some a1,some a2] S).bind kFn:=h8 rfl
def dD(cg:Fn)(cKeeper cAttempt:Cl):CS:=
 (a9 (eW (aU (cOp (fIn false) (ak 1) (cD cKeeper 5 (ak 0)))) lE cq)
  (a9 (eN (cD cKeeper 5 (ak 0)) (ak 1) (cCB (pD cAttempt cg) (ah (cD cKeeper 3 (ak 0)) aN)))
  (fZ (cBM dq (cD cKeeper 4 (ak 0)) (ah (lO (ah (cC (.str "begin")) (ah (ak 1) aN))) aN)))))
theorem nK{cg:Fn}{cKeeper cAttempt:Cl}{a0 a1:U}{S:Sto}:fnU 2 2 (dD cg cKeeper cAttempt) [a0,a1] S=((dD cg cKeeper cAttempt) [some a0,some a1] S).bind kFn:=h8 rfl
def cS(ay bc aB bu:Fn)(cKeeper cAttempt:Cl):CS:=
 (a9 (eL 3 (bJ cKeeper ay (ak 0) (ah (ak 1) aN)))
  (a9 (eW (aU (cOp (fIn false) (ak 2) (cD cAttempt 2 (ak 3)))) (eL 4 (cOp fIx (cD cAttempt 2 (ak 3)) (ak 2))) (eW (aU (bJ cKeeper bc (ak 0) (ah (ak 1) (ah (ak 2) aN)))) (a9 (fZ (bJ cKeeper aB (ak 0) (ah (ak 1) (ah (cC (.str "fall")) aN))))
  (c8 (lO (ah (cC (.str "falls")) aN)))) (eL 4 (bJ cKeeper bu (ak 0) (ah (ak 3) (ah (ak 2) aN))))))
  (a9 (fZ (cBM dq (cD cKeeper 4 (ak 0)) (ah (lO (ah (cC (.str "look")) (ah (ak 1) (ah (ak 2) (ah (ak 4) aN))))) aN)))
  (c8 (lO (ah (cC (.str "number")) (ah (ak 4) aN)))))))
theorem pH{ay bc aB bu:Fn}{cKeeper cAttempt:Cl}{a0 a1 a2:U}{S:Sto}:fnU 5 3 (cS ay bc aB bu cKeeper cAttempt) [a0,a1,a2] S=((cS ay bc aB bu cKeeper cAttempt) [some a0,some a1,some a2,none,none] S).bind kFn:=h8 rfl
def fz(ay:Fn)(cKeeper cAttempt:Cl):CS:=
 (a9 (eL 4 (bJ cKeeper ay (ak 0) (ah (ak 1) aN)))
  (a9 (eN (cD cAttempt 2 (ak 4)) (ak 2) (ak 3))
  (fZ (cBM dq (cD cKeeper 4 (ak 0)) (ah (lO (ah (cC (.str "put")) (ah (ak 1) (ah (ak 2) (ah (ak 3) aN))))) aN)))))
theorem rm{ay:Fn}{cKeeper cAttempt:Cl}{a0 a1 a2 a3:U}{S:Sto}:fnU 5 4 (fz ay cKeeper cAttempt) [a0,a1,a2,a3] S=((fz ay cKeeper cAttempt) [some a0,some a1,some a2,some a3,none] S).bind kFn:=h8 rfl
def eJ(ay aB aG aE:Fn)(cKeeper cAttempt:Cl):CS:=
 (eN (cD cKeeper 2 (ak 0)) (ak 3) (ak 1))
def eD(ay aB aG aE:Fn)(cKeeper cAttempt:Cl):CS:=
 (a9 (eL 2 (bJ cKeeper ay (ak 0) (ah (ak 1) aN)))
  (a9 (eW (aU (cOp fEq (cCB n9 (ah (cD cAttempt 2 (ak 2)) aN)) (cC (.int 0)))) (a9 (fZ (bJ cKeeper aB (ak 0) (ah (ak 1) (ah (cC (.str "done")) aN))))
  (c8 (cC (.str "done")))) cq)
  (a9 (eW (cOr (aU (bJ cKeeper aG (ak 0) (ah (ak 1) (ah (cD cAttempt 1 (ak 2)) aN)))) (cOr (aU (bJ cKeeper aG (ak 0) (ah (ak 1) (ah (cD cAttempt 2 (ak 2)) aN)))) (aU (bJ cKeeper aE (ak 0) (ah (ak 1) aN))))) (a9 (fZ (bJ cKeeper aB (ak 0) (ah (ak 1) (ah (cC (.str "fall")) aN))))
  (c8 (cC (.str "falls")))) cq)
  (a9 (gZ cKeeper 3 (ak 0) (cOp p9 (cD cKeeper 3 (ak 0)) (cC (.int 1))))
  (a9 (gZ cAttempt 3 (ak 2) (cD cKeeper 3 (ak 0)))
  (a9 (gZ cAttempt 4 (ak 2) (cCB iT (ah (cD cAttempt 2 (ak 2)) aN)))
  (a9 (og (iTp (cD cAttempt 4 (ak 2))) (gNm 3) (eJ ay aB aG aE cKeeper cAttempt))
  (c8 (cC (.str "taken"))))))))))
theorem pF{ay aB aG aE:Fn}{cKeeper cAttempt:Cl}{a0 a1:U}{S:Sto}:fnU 4 2 (eD ay aB aG aE cKeeper cAttempt) [a0,a1] S=((eD ay aB aG aE cKeeper cAttempt) [some a0,some a1,none,none] S).bind kFn:=h8 rfl
def fG(aS aB:Fn)(cKeeper cAttempt:Cl):CS:=
 (fZ (zr (cD cKeeper 2 (ak 0)) (ak 4)))
def dz(aS aB:Fn)(cKeeper cAttempt:Cl):CS:=
 (a9 (eL 2 (bJ cKeeper aS (ak 0) (ah (ak 1) aN)))
  (a9 (eW (aU (cOp Ft (cD cAttempt 3 (ak 2)) (cC .non))) lE cq)
  (a9 (eL 3 (cBM mQ (cD cAttempt 4 (ak 2)) (ah (cC (.int 0)) aN)))
  (a9 (eN (cD cKeeper 0 (ak 0)) (ak 3) (cOp fIx (cD cAttempt 2 (ak 2)) (ak 3)))
  (a9 (eN (cD cKeeper 1 (ak 0)) (ak 3) (cD cAttempt 3 (ak 2)))
  (a9 (eW (aU (cOp fGt (cCB n9 (ah (cD cAttempt 4 (ak 2)) aN)) (cC (.int 0)))) (c8 (cC (.str "written"))) cq)
  (a9 (rJ (cD cAttempt 2 (ak 2)) (gNm 4) (fG aS aB cKeeper cAttempt))
  (a9 (fZ (bJ cKeeper aB (ak 0) (ah (ak 1) (ah (cC (.str "done")) aN))))
  (c8 (cC (.str "done")))))))))))
theorem nG{aS aB:Fn}{cKeeper cAttempt:Cl}{a0 a1:U}{S:Sto}:fnU 5 2 (dz aS aB cKeeper cAttempt) [a0,a1] S=((dz aS aB cKeeper cAttempt) [some a0,some a1,none,none,none] S).bind kFn:=h8 rfl
def fA(cKeeper:Cl):CS:=
 (c8 (cCB lC (ah (cD cKeeper 0 (ak 0)) aN)))
def rn{cKeeper:Cl}{a0:U}{S:Sto}:fnU 1 1 (fA cKeeper) [a0] S=((fA cKeeper) [some a0] S).bind kFn:=h8 rfl
def bN(cAttempt:Cl):CS:=
 (a9 (eW (aU (cOp Ft (cD cAttempt 3 (ak 0)) (cC .non))) (c8 (lO (ah (cD cAttempt 0 (ak 0)) (ah (cC (.int 1)) aN)))) cq)
  (c8 (lO (ah (cD cAttempt 3 (ak 0)) (ah (cC (.int 0)) aN)))))
def kQ{cAttempt:Cl}{a0:U}{S:Sto}:fnU 1 1 (bN cAttempt) [a0] S=((bN cAttempt) [some a0] S).bind kFn:=h8 rfl
def fB(cKeeper:Cl):CS:=
 (c8 (cCB q4 (ah (cD cKeeper 4 (ak 0)) aN)))
def rp{cKeeper:Cl}{a0:U}{S:Sto}:fnU 1 1 (fB cKeeper) [a0] S=((fB cKeeper) [some a0] S).bind kFn:=h8 rfl
def dA(bA:Fn)(cKeeper cAttempt:Cl)(zO:O):CS:=
 c8 (vy zO 0 (cD cKeeper 5 (ak 0)) (bJ cAttempt bA (cOp fIx (cD cKeeper 5 (ak 1)) (ak 0)) aN))
theorem nH{bA:Fn}{cKeeper cAttempt:Cl}{zO:O}{a0:U}{S:Sto}:fnU 1 1 (dA bA cKeeper cAttempt zO) [a0] S=((dA bA cKeeper cAttempt zO) [some a0] S).bind kFn:=h8 rfl
def dC(cKeeper:Cl):CS:=
 (c8 (cD cKeeper 3 (ak 0)))
def nJ{cKeeper:Cl}{a0:U}{S:Sto}:fnU 1 1 (dC cKeeper) [a0] S=((dC cKeeper) [some a0] S).bind kFn:=h8 rfl
def eF(cKeeper:Cl):CS:=
 (c8 (cOp fIx (cD cKeeper 1 (ak 0)) (ak 1)))
theorem pG{cKeeper:Cl}{a0 a1:U}{S:Sto}:fnU 2 2 (eF cKeeper) [a0,a1] S=((eF cKeeper) [some a0,some a1] S).bind kFn:=h8 rfl
end OQ
namespace OL
open PySem PySem.Spec PyProof.Rows L2 OG OP OQ
def top(i:Nat):Qm:=PySem.Challenge.pw_oneglance_k32_a_keeper_call_by_call.main.body.getD i (.Pass ⟨0,0,0,0⟩)
abbrev gB:Qm:=b7 (top 9) 0
abbrev eP:Qm:=b7 (top 9) 1
abbrev gT:Qm:=b7 (top 10) 0
abbrev gz:Qm:=b7 (top 10) 1
abbrev gS:Qm:=b7 (top 10) 2
abbrev dJ:Qm:=b7 (top 10) 3
abbrev d9:Qm:=b7 (top 10) 4
abbrev iM:Qm:=b7 (top 10) 5
abbrev gQ:Qm:=b7 (top 10) 6
abbrev gv:Qm:=b7 (top 10) 7
abbrev gU:Qm:=b7 (top 10) 8
abbrev gx:Qm:=b7 (top 10) 9
abbrev fF:Qm:=b7 (top 10) 10
abbrev iP:Qm:=b7 (top 10) 11
abbrev ed:Qm:=b7 (top 10) 12
abbrev du:Qm:=b7 (top 10) 13
abbrev iO:Qm:=b7 (top 10) 15
abbrev gw:Qm:=b7 (top 10) 16
abbrev iN:Qm:=b7 (top 10) 17
abbrev gy:Qm:=b7 (top 10) 18
abbrev gR:Qm:=b7 (top 10) 19
abbrev jt:Qm:=top 12
abbrev kG:Qm:=top 13
abbrev iG:Qm:=top 14
abbrev iF:Qm:=top 15
abbrev jw:Qm:=top 16
abbrev iH:Qm:=top 17
abbrev iJ:Qm:=top 18
abbrev iK:Qm:=top 19
abbrev jv:Qm:=top 20
abbrev ju:Qm:=top 21
abbrev iE:Qm:=top 22
abbrev jx:Qm:=top 23
abbrev iI:Qm:=top 24
abbrev iL:Qm:=top 25
abbrev eO:Qm:=top 26
abbrev gP:Qm:=top 27
abbrev El:Qm:=top 28
section
variable{P:Qx}{w:Qg}{K:Q1}{mg:Str->Option Q3}{base:Heap}
theorem iD:aV ["self","glance"] ["self","glance"] (aA gB):=⟨rfl,rfl,rfl,by decide +kernel,rfl,by decide +kernel,by decide +kernel⟩
theorem nD{k:Nat}{cAttempt:Cl}(d:MkD K mg cAttempt.C "Attempt" "Attempt.__init__" gB ["self","glance"])(B:Blt mg)(TAttempt:TC K cAttempt ["glance","looked","puts","stamp","unwritten","is_open"]):CMk P w K mg base cAttempt "Attempt" (k+1) ["self","glance"] (fnU 2 2 (dE cAttempt)):=
 d.pure TAttempt iD fun f cdv A outer s H E hr=>(by
  have hu:=cV hr;have nd:=iD.nd;exact(aw (dc TAttempt.cl (TAttempt.na 0 rfl) (TAttempt.ix rfl) (ae (wpv 0)) (ae (wpv 1)))
   (aw (dc TAttempt.cl (TAttempt.na 1 rfl) (TAttempt.ix rfl) (ae (wpv 0)) mj)
   (aw (dc TAttempt.cl (TAttempt.na 2 rfl) (TAttempt.ix rfl) (ae (wpv 0)) mj)
   (aw (dc TAttempt.cl (TAttempt.na 3 rfl) (TAttempt.ix rfl) (ae (wpv 0)) (lG fE))
   (aw (dc TAttempt.cl (TAttempt.na 4 rfl) (TAttempt.ix rfl) (ae (wpv 0)) (gF aF))
   (aC (dc TAttempt.cl (TAttempt.na 5 rfl) (TAttempt.ix rfl) (ae (wpv 0)) (oF dY)))))))))
def f7:aV ["self"] ["self"] (aA eP):=⟨rfl,rfl,rfl,by decide +kernel,rfl,by decide +kernel,by decide +kernel⟩
theorem kM{k:Nat}{cAttempt:Cl}(d:MtD K cAttempt.C "instant" "Attempt.instant" eP ["self"])(B:Blt mg)(TAttempt:TC K cAttempt ["glance","looked","puts","stamp","unwritten","is_open"]):eZ P w K mg base cAttempt "instant" (k+1) ["self"] (fnU 1 1 (bN cAttempt)):=
 d.pure f7 fun f cdv A outer s H E hr=>(by
  have hu:=cV hr;have nd:=f7.nd;exact(aw (bH (ba uL A3 (bw TAttempt.cl (TAttempt.na 3 rfl) (TAttempt.ix rfl) (ae (wpv 0))) (lG fE) (aX _)) (aC (aR (fR (ag (bw TAttempt.cl (TAttempt.na 0 rfl) (TAttempt.ix rfl) (ae (wpv 0))) (ag (aZ aI) aF))))) br)
   (aC (aR (fR (ag (bw TAttempt.cl (TAttempt.na 3 rfl) (TAttempt.ix rfl) (ae (wpv 0))) (ag (aZ aI) aF)))))))
theorem jl:aV ["self","world","state"] ["self","world","state"] (aA gT):=⟨rfl,rfl,rfl,by decide +kernel,rfl,by decide +kernel,by decide +kernel⟩
theorem px{k:Nat}{cKeeper:Cl}(d:MkD K mg cKeeper.C "Keeper" "Keeper.__init__" gT ["self","world","state"])(B:Blt mg)(TKeeper:TC K cKeeper ["boxes","marks","holders","ticks","events","known"]):CMk P w K mg base cKeeper "Keeper" (k+1) ["self","world","state"] (fnU 3 3 (eG cKeeper)):=
 d.pure TKeeper jl fun f cdv A outer s H E hr=>(by
  have hu:=cV hr;have nd:=jl.nd;exact(aw (dc TKeeper.cl (TKeeper.na 0 rfl) (TKeeper.ix rfl) (ae (wpv 0)) (gh iV x8 rfl B.list OG.iW (ag (ae (wpv 2)) aF)))
   (aw (dc TKeeper.cl (TKeeper.na 1 rfl) (TKeeper.ix rfl) (ae (wpv 0)) (ky Cz Cw (gF (ag (aZ aI) aF)) (cY oO oM rfl B.len PySem.boot_len (ag (ae (wpv 2)) aF))))
   (aw (dc TKeeper.cl (TKeeper.na 2 rfl) (TKeeper.ix rfl) (ae (wpv 0)) mj)
   (aw (dc TKeeper.cl (TKeeper.na 3 rfl) (TKeeper.ix rfl) (ae (wpv 0)) (aZ aI))
   (aw (dc TKeeper.cl (TKeeper.na 4 rfl) (TKeeper.ix rfl) (ae (wpv 0)) (gF aF))
   (aC (dc TKeeper.cl (TKeeper.na 5 rfl) (TKeeper.ix rfl) (ae (wpv 0)) mj))))))))
theorem j0:aV ["self","a","word","attempt"] ["self","a","word"] (aA iP):=⟨rfl,rfl,rfl,by decide +kernel,rfl,by decide +kernel,by decide +kernel⟩
theorem qY{k:Nat}{cKeeper cAttempt:Cl}(d:MtD K cKeeper.C "end" "Keeper.end" iP ["self","a","word"])(B:Blt mg)(TKeeper:TC K cKeeper ["boxes","marks","holders","ticks","events","known"])(TAttempt:TC K cAttempt ["glance","looked","puts","stamp","unwritten","is_open"]):eZ P w K mg base cKeeper "end" (k+1) ["self","a","word"] (fnU 4 3 (fC cKeeper cAttempt)):=
 d.pure j0 fun f cdv A outer s H E hr=>(by
  have hu:=cV hr;have nd:=j0.nd;exact(aw (aY (i:=3) nd rfl (by trivial) (bz hu (bw TKeeper.cl (TKeeper.na 5 rfl) (TKeeper.ix rfl) (ae (wpv 0))) (ae (wpv 1)) (fun _ _=>rfl) (fun _ _=>rfl)))
   (aw (dc TAttempt.cl (TAttempt.na 5 rfl) (TAttempt.ix rfl) (ae (wpv 3)) (oF dY))
   (aC (cM (dG (bw TKeeper.cl (TKeeper.na 4 rfl) (TKeeper.ix rfl) (ae (wpv 0))) (ag (fR (ag (ae (wpv 2)) (ag (ae (wpv 1)) aF))) aF)))))))
theorem iA:aV ["self","a"] ["self","a"] (aA gx):=⟨rfl,rfl,rfl,by decide +kernel,rfl,by decide +kernel,by decide +kernel⟩
theorem nA{k:Nat}{cKeeper cAttempt:Cl}(d:MtD K cKeeper.C "found" "Keeper.found" gx ["self","a"])(B:Blt mg)(TKeeper:TC K cKeeper ["boxes","marks","holders","ticks","events","known"])(TAttempt:TC K cAttempt ["glance","looked","puts","stamp","unwritten","is_open"]):eZ P w K mg base cKeeper "found" (k+1) ["self","a"] (fnU 2 2 (dB cKeeper cAttempt)):=
 d.pure iA fun f cdv A outer s H E hr=>(by
  have hu:=cV hr;have nd:=iA.nd;exact(aw (bH (vU (vV (uC hu (ae (wpv 1)) (bw TKeeper.cl (TKeeper.na 5 rfl) (TKeeper.ix rfl) (ae (wpv 0))) (by with_unfolding_all rfl)) (nj (ll (fb (bw TAttempt.cl (TAttempt.na 5 rfl) (TAttempt.ix rfl) (bz hu (bw TKeeper.cl (TKeeper.na 5 rfl) (TKeeper.ix rfl) (ae (wpv 0))) (ae (wpv 1)) (fun _ _=>rfl) (fun _ _=>rfl)))))))) (aC gW) br)
   (aC (aR (bz hu (bw TKeeper.cl (TKeeper.na 5 rfl) (TKeeper.ix rfl) (ae (wpv 0))) (ae (wpv 1)) (fun _ _=>rfl) (fun _ _=>rfl))))))
theorem gD:aV ["self","a","attempt"] ["self","a"] (aA fF):=⟨rfl,rfl,rfl,by decide +kernel,rfl,by decide +kernel,by decide +kernel⟩
theorem lJ{k:Nat}{aS:Fn}{cKeeper cAttempt:Cl}(d:MtD K cKeeper.C "untaken" "Keeper.untaken" fF ["self","a"])(B:Blt mg)(TKeeper:TC K cKeeper ["boxes","marks","holders","ticks","events","known"])(TAttempt:TC K cAttempt ["glance","looked","puts","stamp","unwritten","is_open"])(M_Keeper_found:eZ P w K mg base cKeeper "found" (k) ["self","a"] aS):eZ P w K mg base cKeeper "untaken" (k+1) ["self","a"] (fnU 3 2 (cW aS cKeeper cAttempt)):=
 d.pure gD fun f cdv A outer s H E hr=>(by
  have hu:=cV hr;have nd:=gD.nd;exact(aw (aY (i:=2) nd rfl (by trivial) (cG TKeeper.cl M_Keeper_found hr (TKeeper.nm (by decide +kernel)) (ae (wpv 0)) (ag (ae (wpv 1)) aF)))
   (aw (bH (ba EV HQ (bw TAttempt.cl (TAttempt.na 3 rfl) (TAttempt.ix rfl) (ae (wpv 2))) (lG fE) (aX _)) (aC gW) br)
   (aC (aR (ae (wpv 2)))))))
theorem fP:aV ["self","a","boxes"] ["self","a","boxes"] (aA ed):=⟨rfl,rfl,rfl,by decide +kernel,rfl,by decide +kernel,by decide +kernel⟩
theorem kg{k:Nat}{cKeeper:Cl}(d:MtD K cKeeper.C "is_barred" "Keeper.is_barred" ed ["self","a","boxes"])(B:Blt mg)(TKeeper:TC K cKeeper ["boxes","marks","holders","ticks","events","known"]):eZ P w K mg base cKeeper "is_barred" (k+1) ["self","a","boxes"] (fnU 3 3 (c7 cKeeper)):=
 d.pure fP fun f cdv A outer s H E hr=>(by
  have hu:=cV hr;have nd:=fP.nd;exact(aC (aR (cY (pR rfl) ES rfl B.any OG.pV (ag (AB (uD (Nc:=["b","a","self"]) (tn:=["b"]) (capN:=["a","self"]) (caps:=[1,0]) rfl (qv (ae (wpv 2))) (fun _ _ _=>(de (bb (i:=0) (show(["b","a","self"]:List Str).Nodup by decide +kernel) rfl (by trivial)))) (fun _ _ _=>(sG v7 FR (Cu hu (bw TKeeper.cl (TKeeper.na 2 rfl) (TKeeper.ix rfl) (ae (wpv 2))) (ae (wpv 0)) (ae (wpv 1)) ⟨rfl,rfl,rfl,rfl⟩) (ae (wpv 1)) (aX _))) rfl rfl (by decide +kernel) (by decide +kernel) ⟨rfl,rfl,trivial⟩ rfl (.cons ⟨rfl,rfl,rfl,_,rfl⟩ (.cons ⟨rfl,rfl,rfl,_,rfl⟩ .nil)) rfl rfl) (sF (Nc:=["b","a","self"]) (tn:=["b"]) (capN:=["a","self"]) (caps:=[1,0]) rfl (ae (wpv 2)) (fun _ _ _=>(de (bb (i:=0) (show(["b","a","self"]:List Str).Nodup by decide +kernel) rfl (by trivial)))) (fun _ _ _=>(sG v7 FR (Cu hu (bw TKeeper.cl (TKeeper.na 2 rfl) (TKeeper.ix rfl) (ae (wpv 2))) (ae (wpv 0)) (ae (wpv 1)) ⟨rfl,rfl,rfl,rfl⟩) (ae (wpv 1)) (aX _))) rfl rfl (by decide +kernel) (by decide +kernel) ⟨rfl,rfl,trivial⟩ rfl (.cons ⟨rfl,rfl,rfl,_,rfl⟩ (.cons ⟨rfl,rfl,rfl,_,rfl⟩ .nil)) rfl rfl)) aF)))))
theorem e9:aV ["self","a","attempt"] ["self","a"] (aA du):=⟨rfl,rfl,rfl,by decide +kernel,rfl,by decide +kernel,by decide +kernel⟩
theorem jf{k:Nat}{cKeeper cAttempt:Cl}(d:MtD K cKeeper.C "has_changed" "Keeper.has_changed" du ["self","a"])(B:Blt mg)(TKeeper:TC K cKeeper ["boxes","marks","holders","ticks","events","known"])(TAttempt:TC K cAttempt ["glance","looked","puts","stamp","unwritten","is_open"]):eZ P w K mg base cKeeper "has_changed" (k+1) ["self","a"] (fnU 3 2 (bF cKeeper cAttempt)):=
 d.pure e9 fun f cdv A outer s H E hr=>(by
  have hu:=cV hr;have nd:=e9.nd;exact(aw (aY (i:=2) nd rfl (by trivial) (bz hu (bw TKeeper.cl (TKeeper.na 5 rfl) (TKeeper.ix rfl) (ae (wpv 0))) (ae (wpv 1)) (fun _ _=>rfl) (fun _ _=>rfl)))
   (aC (aR (cY (pR rfl) ES rfl B.any OG.pV (ag (sF (Nc:=["b","attempt","self"]) (tn:=["b"]) (capN:=["attempt","self"]) (caps:=[2,0]) rfl (bw TAttempt.cl (TAttempt.na 1 rfl) (TAttempt.ix rfl) (ae (wpv 2))) (fun _ _ _=>(de (bb (i:=0) (show(["b","attempt","self"]:List Str).Nodup by decide +kernel) rfl (by trivial)))) (fun _ _ _=>(sG v8 FT (bz hu (bw TKeeper.cl (TKeeper.na 1 rfl) (TKeeper.ix rfl) (ae (wpv 2))) (ae (wpv 0)) (fun _ _=>rfl) (fun _ _=>rfl)) (bw TAttempt.cl (TAttempt.na 0 rfl) (TAttempt.ix rfl) (ae (wpv 1))) (aX _))) rfl rfl (by decide +kernel) (by decide +kernel) ⟨rfl,rfl,trivial⟩ rfl (.cons ⟨rfl,rfl,rfl,_,rfl⟩ (.cons ⟨rfl,rfl,rfl,_,rfl⟩ .nil)) rfl rfl) aF))))))
theorem fH:aV ["self","a","b"] ["self","a","b"] (aA dJ):=⟨rfl,rfl,rfl,by decide +kernel,rfl,by decide +kernel,by decide +kernel⟩
theorem jC{k:Nat}{aG aE:Fn}{cKeeper cAttempt:Cl}(d:MtD K cKeeper.C "would_fall" "Keeper.would_fall" dJ ["self","a","b"])(B:Blt mg)(TKeeper:TC K cKeeper ["boxes","marks","holders","ticks","events","known"])(TAttempt:TC K cAttempt ["glance","looked","puts","stamp","unwritten","is_open"])(M_Keeper_is_barred:eZ P w K mg base cKeeper "is_barred" (k) ["self","a","boxes"] aG)(M_Keeper_has_changed:eZ P w K mg base cKeeper "has_changed" (k) ["self","a"] aE):eZ P w K mg base cKeeper "would_fall" (k+1) ["self","a","b"] (fnU 3 3 (a8 aG aE cKeeper cAttempt)):=
 d.pure fH fun f cdv A outer s H E hr=>(by
  have hu:=cV hr;have nd:=fH.nd;exact(aw (bH (fb (cG TKeeper.cl M_Keeper_is_barred hr (TKeeper.nm (by decide +kernel)) (ae (wpv 0)) (ag (ae (wpv 1)) (ag (gF (ag (ae (wpv 2)) aF)) aF)))) (aC (aR (oF dY))) br)
   (aw (bH (ba K9 MY (bz hu (bw TKeeper.cl (TKeeper.na 1 rfl) (TKeeper.ix rfl) (ae (wpv 0))) (ae (wpv 2)) (fun _ _=>rfl) (fun _ _=>rfl)) (bw TAttempt.cl (TAttempt.na 0 rfl) (TAttempt.ix rfl) (bz hu (bw TKeeper.cl (TKeeper.na 5 rfl) (TKeeper.ix rfl) (ae (wpv 0))) (ae (wpv 1)) (fun _ _=>rfl) (fun _ _=>rfl))) (aX _)) (aC (aR (oF dY))) br)
   (aC (aR (KQ (cG TKeeper.cl M_Keeper_is_barred hr (TKeeper.nm (by decide +kernel)) (ae (wpv 0)) (ag (ae (wpv 1)) (ag (bw TAttempt.cl (TAttempt.na 1 rfl) (TAttempt.ix rfl) (bz hu (bw TKeeper.cl (TKeeper.na 5 rfl) (TKeeper.ix rfl) (ae (wpv 0))) (ae (wpv 1)) (fun _ _=>rfl) (fun _ _=>rfl))) aF))) (Hk (cG TKeeper.cl M_Keeper_has_changed hr (TKeeper.nm (by decide +kernel)) (ae (wpv 0)) (ag (ae (wpv 1)) aF)))))))))
theorem fO:aV ["self","attempt","b"] ["self","attempt","b"] (aA d9):=⟨rfl,rfl,rfl,by decide +kernel,rfl,by decide +kernel,by decide +kernel⟩
theorem ke{k:Nat}{cKeeper cAttempt:Cl}(d:MtD K cKeeper.C "look_anew" "Keeper.look_anew" d9 ["self","attempt","b"])(B:Blt mg)(TKeeper:TC K cKeeper ["boxes","marks","holders","ticks","events","known"])(TAttempt:TC K cAttempt ["glance","looked","puts","stamp","unwritten","is_open"]):eZ P w K mg base cKeeper "look_anew" (k+1) ["self","attempt","b"] (fnU 3 3 (bD cKeeper cAttempt)):=
 d.pure fO fun f cdv A outer s H E hr=>(by
  have hu:=cV hr;have nd:=fO.nd;exact(aw (bH (ba v8 FT (bz hu (bw TKeeper.cl (TKeeper.na 1 rfl) (TKeeper.ix rfl) (ae (wpv 0))) (ae (wpv 2)) (fun _ _=>rfl) (fun _ _=>rfl)) (bw TAttempt.cl (TAttempt.na 0 rfl) (TAttempt.ix rfl) (ae (wpv 1))) (aX _)) (aC (dc TAttempt.cl (TAttempt.na 0 rfl) (TAttempt.ix rfl) (ae (wpv 1)) (bw TKeeper.cl (TKeeper.na 3 rfl) (TKeeper.ix rfl) (ae (wpv 0))))) br)
   (aw (cu hu (bw TAttempt.cl (TAttempt.na 1 rfl) (TAttempt.ix rfl) (ae (wpv 1))) (ae (wpv 2)) (oF dY))
   (aC (aR (bz hu (bw TKeeper.cl (TKeeper.na 0 rfl) (TKeeper.ix rfl) (ae (wpv 0))) (ae (wpv 2)) (fun _ _=>rfl) (fun _ _=>rfl)))))))
theorem iC:aV ["self","a"] ["self","a"] (aA gz):=⟨rfl,rfl,rfl,by decide +kernel,rfl,by decide +kernel,by decide +kernel⟩
theorem nC{k:Nat}{cg:Fn}{cKeeper cAttempt:Cl}(d:MtD K cKeeper.C "begin" "Keeper.begin" gz ["self","a"])(B:Blt mg)(TKeeper:TC K cKeeper ["boxes","marks","holders","ticks","events","known"])(TAttempt:TC K cAttempt ["glance","looked","puts","stamp","unwritten","is_open"])(M_Attempt:CMk P w K mg base cAttempt "Attempt" k ["self","glance"] cg):eZ P w K mg base cKeeper "begin" (k+1+1) ["self","a"] (fnU 2 2 (dD cg cKeeper cAttempt)):=
 d.pure iC fun f cdv A outer s H E hr=>(by
  have hu:=cV hr;have nd:=iC.nd;exact(aw (bH (xR hu (ae (wpv 1)) (bw TKeeper.cl (TKeeper.na 5 rfl) (TKeeper.ix rfl) (ae (wpv 0))) (by with_unfolding_all rfl)) (aC gW) br)
   (aw (cu hu (bw TKeeper.cl (TKeeper.na 5 rfl) (TKeeper.ix rfl) (ae (wpv 0))) (ae (wpv 1)) (Cs M_Attempt hr rfl (ag (bw TKeeper.cl (TKeeper.na 3 rfl) (TKeeper.ix rfl) (ae (wpv 0))) aF)))
   (aC (cM (dG (bw TKeeper.cl (TKeeper.na 4 rfl) (TKeeper.ix rfl) (ae (wpv 0))) (ag (fR (ag (aK ax) (ag (ae (wpv 1)) aF))) aF)))))))
theorem jk:aV ["self","a","b","attempt","number"] ["self","a","b"] (aA gS):=⟨rfl,rfl,rfl,by decide +kernel,rfl,by decide +kernel,by decide +kernel⟩
theorem pq{k:Nat}{ay bc aB bu:Fn}{cKeeper cAttempt:Cl}(d:MtD K cKeeper.C "look" "Keeper.look" gS ["self","a","b"])(B:Blt mg)(TKeeper:TC K cKeeper ["boxes","marks","holders","ticks","events","known"])(TAttempt:TC K cAttempt ["glance","looked","puts","stamp","unwritten","is_open"])(M_Keeper_untaken:eZ P w K mg base cKeeper "untaken" (k) ["self","a"] ay)(M_Keeper_would_fall:eZ P w K mg base cKeeper "would_fall" (k) ["self","a","b"] bc)(M_Keeper_end:eZ P w K mg base cKeeper "end" (k) ["self","a","word"] aB)(M_Keeper_look_anew:eZ P w K mg base cKeeper "look_anew" (k) ["self","attempt","b"] bu):eZ P w K mg base cKeeper "look" (k+1) ["self","a","b"] (fnU 5 3 (cS ay bc aB bu cKeeper cAttempt)):=
 d.pure jk fun f cdv A outer s H E hr=>(by
  have hu:=cV hr;have nd:=jk.nd;exact(aw (aY (i:=3) nd rfl (by trivial) (cG TKeeper.cl M_Keeper_untaken hr (TKeeper.nm (by decide +kernel)) (ae (wpv 0)) (ag (ae (wpv 1)) aF)))
   (aw (bH (xR hu (ae (wpv 2)) (bw TAttempt.cl (TAttempt.na 2 rfl) (TAttempt.ix rfl) (ae (wpv 3))) (by with_unfolding_all rfl)) (aC (aY (i:=4) nd rfl (by trivial) (bz hu (bw TAttempt.cl (TAttempt.na 2 rfl) (TAttempt.ix rfl) (ae (wpv 3))) (ae (wpv 2)) (fun _ _=>rfl) (fun _ _=>rfl)))) (aC (bH (fb (cG TKeeper.cl M_Keeper_would_fall hr (TKeeper.nm (by decide +kernel)) (ae (wpv 0)) (ag (ae (wpv 1)) (ag (ae (wpv 2)) aF)))) (aw (cM (cG TKeeper.cl M_Keeper_end hr (TKeeper.nm (by decide +kernel)) (ae (wpv 0)) (ag (ae (wpv 1)) (ag (aK ax) aF))))
   (aC (aR (fR (ag (aK ax) aF))))) (aC (aY (i:=4) nd rfl (by trivial) (cG TKeeper.cl M_Keeper_look_anew hr (TKeeper.nm (by decide +kernel)) (ae (wpv 0)) (ag (ae (wpv 3)) (ag (ae (wpv 2)) aF))))))))
   (aw (cM (dG (bw TKeeper.cl (TKeeper.na 4 rfl) (TKeeper.ix rfl) (ae (wpv 0))) (ag (fR (ag (aK ax) (ag (ae (wpv 1)) (ag (ae (wpv 2)) (ag (ae (wpv 4)) aF))))) aF)))
   (aC (aR (fR (ag (aK ax) (ag (ae (wpv 4)) aF)))))))))
theorem jX:aV ["self","a","b","v","attempt"] ["self","a","b","v"] (aA iM):=⟨rfl,rfl,rfl,by decide +kernel,rfl,by decide +kernel,by decide +kernel⟩
theorem qV{k:Nat}{ay:Fn}{cKeeper cAttempt:Cl}(d:MtD K cKeeper.C "put" "Keeper.put" iM ["self","a","b","v"])(B:Blt mg)(TKeeper:TC K cKeeper ["boxes","marks","holders","ticks","events","known"])(TAttempt:TC K cAttempt ["glance","looked","puts","stamp","unwritten","is_open"])(M_Keeper_untaken:eZ P w K mg base cKeeper "untaken" (k) ["self","a"] ay):eZ P w K mg base cKeeper "put" (k+1) ["self","a","b","v"] (fnU 5 4 (fz ay cKeeper cAttempt)):=
 d.pure jX fun f cdv A outer s H E hr=>(by
  have hu:=cV hr;have nd:=jX.nd;exact(aw (aY (i:=4) nd rfl (by trivial) (cG TKeeper.cl M_Keeper_untaken hr (TKeeper.nm (by decide +kernel)) (ae (wpv 0)) (ag (ae (wpv 1)) aF)))
   (aw (cu hu (bw TAttempt.cl (TAttempt.na 2 rfl) (TAttempt.ix rfl) (ae (wpv 4))) (ae (wpv 2)) (ae (wpv 3)))
   (aC (cM (dG (bw TKeeper.cl (TKeeper.na 4 rfl) (TKeeper.ix rfl) (ae (wpv 0))) (ag (fR (ag (aK ax) (ag (ae (wpv 1)) (ag (ae (wpv 2)) (ag (ae (wpv 3)) aF))))) aF)))))))
theorem ji:aV ["self","a","attempt","b"] ["self","a"] (aA gQ):=⟨rfl,rfl,rfl,by decide +kernel,rfl,by decide +kernel,by decide +kernel⟩
theorem ph{k:Nat}{ay aB aG aE:Fn}{cKeeper cAttempt:Cl}(d:MtD K cKeeper.C "take" "Keeper.take" gQ ["self","a"])(B:Blt mg)(TKeeper:TC K cKeeper ["boxes","marks","holders","ticks","events","known"])(TAttempt:TC K cAttempt ["glance","looked","puts","stamp","unwritten","is_open"])(M_Keeper_untaken:eZ P w K mg base cKeeper "untaken" (k) ["self","a"] ay)(M_Keeper_end:eZ P w K mg base cKeeper "end" (k) ["self","a","word"] aB)(M_Keeper_is_barred:eZ P w K mg base cKeeper "is_barred" (k) ["self","a","boxes"] aG)(M_Keeper_has_changed:eZ P w K mg base cKeeper "has_changed" (k) ["self","a"] aE):eZ P w K mg base cKeeper "take" (k+1) ["self","a"] (fnU 4 2 (eD ay aB aG aE cKeeper cAttempt)):=
 d.pure ji fun f cdv A outer s H E hr=>(by
  have hu:=cV hr;have nd:=ji.nd;exact(aw (aY (i:=2) nd rfl (by trivial) (cG TKeeper.cl M_Keeper_untaken hr (TKeeper.nm (by decide +kernel)) (ae (wpv 0)) (ag (ae (wpv 1)) aF)))
   (aw (bH (ba jy sI (cY oO oM rfl B.len PySem.boot_len (ag (bw TAttempt.cl (TAttempt.na 2 rfl) (TAttempt.ix rfl) (ae (wpv 2))) aF)) (aZ aI) (aX _)) (aw (cM (cG TKeeper.cl M_Keeper_end hr (TKeeper.nm (by decide +kernel)) (ae (wpv 0)) (ag (ae (wpv 1)) (ag (aK ax) aF))))
   (aC (aR (aK ax)))) br)
   (aw (bH (vU (vV (fb (cG TKeeper.cl M_Keeper_is_barred hr (TKeeper.nm (by decide +kernel)) (ae (wpv 0)) (ag (ae (wpv 1)) (ag (bw TAttempt.cl (TAttempt.na 1 rfl) (TAttempt.ix rfl) (ae (wpv 2))) aF)))) (vV (fb (cG TKeeper.cl M_Keeper_is_barred hr (TKeeper.nm (by decide +kernel)) (ae (wpv 0)) (ag (ae (wpv 1)) (ag (bw TAttempt.cl (TAttempt.na 2 rfl) (TAttempt.ix rfl) (ae (wpv 2))) aF)))) (nj (fb (cG TKeeper.cl M_Keeper_has_changed hr (TKeeper.nm (by decide +kernel)) (ae (wpv 0)) (ag (ae (wpv 1)) aF))))))) (aw (cM (cG TKeeper.cl M_Keeper_end hr (TKeeper.nm (by decide +kernel)) (ae (wpv 0)) (ag (ae (wpv 1)) (ag (aK ax) aF))))
   (aC (aR (aK ax)))) br)
   (aw (dc TKeeper.cl (TKeeper.na 3 rfl) (TKeeper.ix rfl) (ae (wpv 0)) (ky mz mx (bw TKeeper.cl (TKeeper.na 3 rfl) (TKeeper.ix rfl) (ae (wpv 0))) (aZ aI)))
   (aw (dc TAttempt.cl (TAttempt.na 3 rfl) (TAttempt.ix rfl) (ae (wpv 2)) (bw TKeeper.cl (TKeeper.na 3 rfl) (TKeeper.ix rfl) (ae (wpv 0))))
   (aw (dc TAttempt.cl (TAttempt.na 4 rfl) (TAttempt.ix rfl) (ae (wpv 2)) (cY (uN rfl) uH rfl B.sorted OG.g6 (ag (bw TAttempt.cl (TAttempt.na 2 rfl) (TAttempt.ix rfl) (ae (wpv 2))) aF)))
   (aw (nV PassesOwn.never rfl (qv (bw TAttempt.cl (TAttempt.na 4 rfl) (TAttempt.ix rfl) (ae (wpv 2)))) (de (bb (i:=3) nd rfl (by trivial))) (aC (cu hu (bw TKeeper.cl (TKeeper.na 2 rfl) (TKeeper.ix rfl) (ae (wpv 0))) (ae (wpv 3)) (ae (wpv 1)))))
   (aC (aR (aK ax)))))))))))
theorem iq:aV ["self","a","attempt","b","held"] ["self","a"] (aA gv):=⟨rfl,rfl,rfl,by decide +kernel,rfl,by decide +kernel,by decide +kernel⟩
theorem ny{k:Nat}{aS aB:Fn}{cKeeper cAttempt:Cl}(d:MtD K cKeeper.C "write" "Keeper.write" gv ["self","a"])(B:Blt mg)(TKeeper:TC K cKeeper ["boxes","marks","holders","ticks","events","known"])(TAttempt:TC K cAttempt ["glance","looked","puts","stamp","unwritten","is_open"])(M_Keeper_found:eZ P w K mg base cKeeper "found" (k) ["self","a"] aS)(M_Keeper_end:eZ P w K mg base cKeeper "end" (k) ["self","a","word"] aB):eZ P w K mg base cKeeper "write" (k+1) ["self","a"] (fnU 5 2 (dz aS aB cKeeper cAttempt)):=
 d.pure iq fun f cdv A outer s H E hr=>(by
  have hu:=cV hr;have nd:=iq.nd;exact(aw (aY (i:=2) nd rfl (by trivial) (cG TKeeper.cl M_Keeper_found hr (TKeeper.nm (by decide +kernel)) (ae (wpv 0)) (ag (ae (wpv 1)) aF)))
   (aw (bH (ba uL A3 (bw TAttempt.cl (TAttempt.na 3 rfl) (TAttempt.ix rfl) (ae (wpv 2))) (lG fE) (aX _)) (aC gW) br)
   (aw (aY (i:=3) nd rfl (by trivial) (xS (bw TAttempt.cl (TAttempt.na 4 rfl) (TAttempt.ix rfl) (ae (wpv 2))) (ag (aZ aI) aF)))
   (aw (cu hu (bw TKeeper.cl (TKeeper.na 0 rfl) (TKeeper.ix rfl) (ae (wpv 0))) (ae (wpv 3)) (bz hu (bw TAttempt.cl (TAttempt.na 2 rfl) (TAttempt.ix rfl) (ae (wpv 2))) (ae (wpv 3)) (fun _ _=>rfl) (fun _ _=>rfl)))
   (aw (cu hu (bw TKeeper.cl (TKeeper.na 1 rfl) (TKeeper.ix rfl) (ae (wpv 0))) (ae (wpv 3)) (bw TAttempt.cl (TAttempt.na 3 rfl) (TAttempt.ix rfl) (ae (wpv 2))))
   (aw (bH (ba v8 FT (cY oO oM rfl B.len PySem.boot_len (ag (bw TAttempt.cl (TAttempt.na 4 rfl) (TAttempt.ix rfl) (ae (wpv 2))) aF)) (aZ aI) (aX _)) (aC (aR (aK ax))) br)
   (aw (xN PassesOwn.never rfl (bw TAttempt.cl (TAttempt.na 2 rfl) (TAttempt.ix rfl) (ae (wpv 2))) (de (bb (i:=4) nd rfl (by trivial))) (aC (cM (Hm (bw TKeeper.cl (TKeeper.na 2 rfl) (TKeeper.ix rfl) (ae (wpv 0))) (ae (wpv 4)) ⟨rfl,rfl,rfl,rfl⟩))))
   (aw (cM (cG TKeeper.cl M_Keeper_end hr (TKeeper.nm (by decide +kernel)) (ae (wpv 0)) (ag (ae (wpv 1)) (ag (aK ax) aF))))
   (aC (aR (aK ax))))))))))))
theorem jm:aV ["self","a"] ["self","a"] (aA gU):=⟨rfl,rfl,rfl,by decide +kernel,rfl,by decide +kernel,by decide +kernel⟩
def eI(ay aB:Fn)(cKeeper:Cl):CS:=
 (a9 (fZ (bJ cKeeper ay (ak 0) (ah (ak 1) aN)))
  (fZ (bJ cKeeper aB (ak 0) (ah (ak 1) (ah (cC (.str "fall")) aN)))))
theorem pJ{ay aB:Fn}{cKeeper:Cl}{a0 a1:U}{S:Sto}:fnU 2 2 (eI ay aB cKeeper) [a0,a1] S=((eI ay aB cKeeper) [some a0,some a1] S).bind kFn:=h8 rfl
theorem pA{k:Nat}{ay aB:Fn}{cKeeper:Cl}(d:MtD K cKeeper.C "fall" "Keeper.fall" gU ["self","a"])(B:Blt mg)(TKeeper:TC K cKeeper ["boxes","marks","holders","ticks","events","known"])(M_Keeper_untaken:eZ P w K mg base cKeeper "untaken" (k) ["self","a"] ay)(M_Keeper_end:eZ P w K mg base cKeeper "end" (k) ["self","a","word"] aB):eZ P w K mg base cKeeper "fall" (k+1) ["self","a"] (fnU 2 2 (eI ay aB cKeeper)):=
 d.pure jm fun f cdv A outer s H E hr=>(by
  have hu:=cV hr;have nd:=jm.nd;exact(aw (cM (cG TKeeper.cl M_Keeper_untaken hr (TKeeper.nm (by decide +kernel)) (ae (wpv 0)) (ag (ae (wpv 1)) aF)))
   (aC (cM (cG TKeeper.cl M_Keeper_end hr (TKeeper.nm (by decide +kernel)) (ae (wpv 0)) (ag (ae (wpv 1)) (ag (aK ax) aF)))))))
def jZ:aV ["self"] ["self"] (aA iO):=⟨rfl,rfl,rfl,by decide +kernel,rfl,by decide +kernel,by decide +kernel⟩
theorem qX{k:Nat}{cKeeper:Cl}(d:MtD K cKeeper.C "log" "Keeper.log" iO ["self"])(B:Blt mg)(TKeeper:TC K cKeeper ["boxes","marks","holders","ticks","events","known"]):eZ P w K mg base cKeeper "log" (k+1) ["self"] (fnU 1 1 (fB cKeeper)):=
 d.pure jZ fun f cdv A outer s H E hr=>(by
  have hu:=cV hr;have nd:=jZ.nd;exact(aC (aR (gh iV x8 rfl B.list OG.iW (ag (bw TKeeper.cl (TKeeper.na 4 rfl) (TKeeper.ix rfl) (ae (wpv 0))) aF)))))
def mf:aV ["self"] ["self"] (aA gw):=⟨rfl,rfl,rfl,by decide +kernel,rfl,by decide +kernel,by decide +kernel⟩
abbrev zOf(p:Addr):O:=.cod p ⟨144,38,144,71⟩ ("Keeper.order"++".<locals>."++"<lambda>")
theorem nz{k:Nat}{bA:Fn}{cKeeper cAttempt:Cl}{cO pO:Addr}(d:MtD K cKeeper.C "order" "Keeper.order" gw ["self"])(cd:FP K cKeeper.C "order" cO pO)(bm:zJ mg base)(B:Blt mg)(TKeeper:TC K cKeeper ["boxes","marks","holders","ticks","events","known"])(TAttempt:TC K cAttempt ["glance","looked","puts","stamp","unwritten","is_open"])(M_Attempt_instant:eZ P w K mg base cAttempt "instant" k ["self"] bA):eZ P w K mg base cKeeper "order" (k+3+1) ["self"] (fnU 1 1 (dA bA cKeeper cAttempt (zOf pO))):=by
 have hC:=cd;obtain⟨_,_,_,_,_,_,_,hC⟩:=hC;exact d.pureC cd mf fun f A outer s H E hr=>aC (aR (Er (x:="self") (pa:="a") (k:=0) (kr:=k) (cx:=s.heap.objs.size+1) ⟨rfl,rfl,rfl,rfl,rfl,rfl,rfl,by decide,fun _ _ _ _ _=>rfl,fun f' cd' A' s' H' hr'=>kH TAttempt.cl M_Attempt_instant hr' (TAttempt.nm (by decide +kernel)) (bz (cV hr') (bw TKeeper.cl (TKeeper.na 5 rfl) (TKeeper.ix rfl) (ae (wpv 1))) (ae (wpv 0)) (fun _ _=>rfl) (fun _ _=>rfl))⟩ hr rfl rfl B.sorted OG.g6 (bw TKeeper.cl (TKeeper.na 5 rfl) (TKeeper.ix rfl) (ae (wpv 0))) rfl hC bm rfl rfl))
def jY:aV ["self"] ["self"] (aA iN):=⟨rfl,rfl,rfl,by decide +kernel,rfl,by decide +kernel,by decide +kernel⟩
theorem qW{k:Nat}{cKeeper:Cl}(d:MtD K cKeeper.C "now" "Keeper.now" iN ["self"])(B:Blt mg)(TKeeper:TC K cKeeper ["boxes","marks","holders","ticks","events","known"]):eZ P w K mg base cKeeper "now" (k+1) ["self"] (fnU 1 1 (fA cKeeper)):=
 d.pure jY fun f cdv A outer s H E hr=>(by
  have hu:=cV hr;have nd:=jY.nd;exact(aC (aR (gh gY sH rfl B.tuple OG.gM (ag (bw TKeeper.cl (TKeeper.na 0 rfl) (TKeeper.ix rfl) (ae (wpv 0))) aF)))))
def iB:aV ["self"] ["self"] (aA gy):=⟨rfl,rfl,rfl,by decide +kernel,rfl,by decide +kernel,by decide +kernel⟩
theorem nB{k:Nat}{cKeeper:Cl}(d:MtD K cKeeper.C "clock" "Keeper.clock" gy ["self"])(B:Blt mg)(TKeeper:TC K cKeeper ["boxes","marks","holders","ticks","events","known"]):eZ P w K mg base cKeeper "clock" (k+1) ["self"] (fnU 1 1 (dC cKeeper)):=
 d.pure iB fun f cdv A outer s H E hr=>(by
  have hu:=cV hr;have nd:=iB.nd;exact(aC (aR (bw TKeeper.cl (TKeeper.na 3 rfl) (TKeeper.ix rfl) (ae (wpv 0))))))
theorem jj:aV ["self","b"] ["self","b"] (aA gR):=⟨rfl,rfl,rfl,by decide +kernel,rfl,by decide +kernel,by decide +kernel⟩
theorem pj{k:Nat}{cKeeper:Cl}(d:MtD K cKeeper.C "mark" "Keeper.mark" gR ["self","b"])(B:Blt mg)(TKeeper:TC K cKeeper ["boxes","marks","holders","ticks","events","known"]):eZ P w K mg base cKeeper "mark" (k+1) ["self","b"] (fnU 2 2 (eF cKeeper)):=
 d.pure jj fun f cdv A outer s H E hr=>(by
  have hu:=cV hr;have nd:=jj.nd;exact(aC (aR (bz hu (bw TKeeper.cl (TKeeper.na 1 rfl) (TKeeper.ix rfl) (ae (wpv 0))) (ae (wpv 1)) (fun _ _=>rfl) (fun _ _=>rfl)))))
theorem k7:aV ["script","k","number","stir","found","turn"] ["script","k"] (aA jt):=⟨rfl,rfl,rfl,by decide +kernel,rfl,by decide +kernel,by decide +kernel⟩
theorem sT{k:Nat}(d:Def K mg "_law_well" jt ["script","k"])(B:Blt mg):gN P w K mg base "_law_well" (k+1) ["script","k"] (fnU 6 2 (eU )):=
 d.pure k7 fun f cdv A outer s H E hr=>(by
  have hu:=cV hr;have nd:=k7.nd;exact(aw (aY (i:=2) nd rfl (by trivial) (ky mz mx (ky j5 qy (aZ aI) (ae (wpv 1))) (aZ aI)))
   (aw (bH (ba A6 Jk (ae (wpv 1)) (cY oO oM rfl B.len PySem.boot_len (ag (ae (wpv 0)) aF)) (aX _)) (aC (aY (i:=2) nd rfl (by trivial) (bz hu (ae (wpv 0)) (ae (wpv 1)) (fun _ _=>rfl) (fun _ _=>rfl)))) br)
   (aw (bH (ba jy sI (ky qA x6 (ae (wpv 2)) (aZ aI)) (aZ aI) (aX _)) (aC (aR (gF (ag (ky uM HS (ae (wpv 2)) (aZ aI)) aF)))) br)
   (aw (aY (i:=3) nd rfl (by trivial) (ky qA x6 (ky mz mx (ky mz mx (ky j5 qy (ae (wpv 2)) (aZ aI)) (ky j5 qy (aZ aI) (ae (wpv 1)))) (aZ aI)) (aZ aI)))
   (aw (aY (i:=4) nd rfl (by trivial) (aZ aI))
   (aw (nV PassesOwn.never rfl (gE rfl B.range (ag (aZ aI) aF)) (de (bb (i:=5) nd rfl (by trivial))) (aw (aY (i:=3) nd rfl (by trivial) (ky qA x6 (ky mz mx (ky mz mx (ky mz mx (ky j5 qy (ae (wpv 3)) (ae (wpv 3))) (ky j5 qy (aZ aI) (ae (wpv 3)))) (ky j5 qy (aZ aI) (ae (wpv 5)))) (aZ aI)) (aZ aI)))
   (aC (aY (i:=4) nd rfl (by trivial) (ky mz mx (ky j5 qy (ae (wpv 4)) (aZ aI)) (ae (wpv 3)))))))
   (aC (aR (gF (ag (ae (wpv 4)) aF)))))))))))
theorem me:aV ["well","many","digit"] ["well","many"] (aA kG):=⟨rfl,rfl,rfl,by decide +kernel,rfl,by decide +kernel,by decide +kernel⟩
theorem wx{k:Nat}(d:Def K mg "_law_sip" kG ["well","many"])(B:Blt mg):gN P w K mg base "_law_sip" (k+1) ["well","many"] (fnU 3 2 (gJ )):=
 d.pure me fun f cdv A outer s H E hr=>(by
  have hu:=cV hr;have nd:=me.nd;exact(aw (aY (i:=2) nd rfl (by trivial) (ky qA x6 (bz hu (ae (wpv 0)) (aZ aI) (fun _ _=>rfl) (fun _ _=>rfl)) (ae (wpv 1))))
   (aw (cu hu (ae (wpv 0)) (aZ aI) (ky uM HS (bz hu (ae (wpv 0)) (aZ aI) (fun _ _=>rfl) (fun _ _=>rfl)) (ae (wpv 1))))
   (aC (aR (ae (wpv 2)))))))
theorem jQ:aV ["well","n","w"] ["well"] (aA iF):=⟨rfl,rfl,rfl,by decide +kernel,rfl,by decide +kernel,by decide +kernel⟩
def fi(aW:Fn):CS:=
 (a9 (eL 1 (cOp p9 (cC (.int 1)) (cCB aW (ah (ak 0) (ah (cOp fIx (km (ah (cC (.int 2)) (ah (cC (.int 3)) (ah (cC (.int 6)) aN)))) (cCB aW (ah (ak 0) (ah (cC (.int 3)) aN)))) aN)))))
  (a9 (eL 2 (cOp fIx (km (ah (cC (.int 2)) (ah (cC (.int 3)) (ah (cC (.int 7)) (ah (cC (.int 1000)) aN))))) (cCB aW (ah (ak 0) (ah (cC (.int 4)) aN)))))
  (c8 (lO (ah (lO (ah (ak 1) (ah (ak 2) aN))) (ah (cCB lC (ah (gK (cZ (ah (ak 1) aN)) (gNm 0) (cCB aW (ah (ak 1) (ah (ak 2) aN))) 1 [0,2]) aN)) aN))))))
def ra{aW:Fn}{a0:U}{S:Sto}:fnU 3 1 (fi aW) [a0] S=((fi aW) [some a0,none,none] S).bind kFn:=h8 rfl
theorem qO{k:Nat}{aW:Fn}(d:Def K mg "_law_world" iF ["well"])(B:Blt mg)(bO:gN P w K mg base "_law_sip" (k) ["well","many"] aW):gN P w K mg base "_law_world" (k+1) ["well"] (fnU 3 1 (fi aW)):=
 d.pure jQ fun f cdv A outer s H E hr=>(by
  have hu:=cV hr;have nd:=jQ.nd;exact(aw (aY (i:=1) nd rfl (by trivial) (ky mz mx (aZ aI) (bP bO hr rfl (ag (ae (wpv 0)) (ag (bz hu (gF (ag (aZ aI) (ag (aZ aI) (ag (aZ aI) aF)))) (bP bO hr rfl (ag (ae (wpv 0)) (ag (aZ aI) aF))) (fun _ _=>rfl) (fun _ _=>rfl)) aF)))))
   (aw (aY (i:=2) nd rfl (by trivial) (bz hu (gF (ag (aZ aI) (ag (aZ aI) (ag (aZ aI) (ag (aZ aI) aF))))) (bP bO hr rfl (ag (ae (wpv 0)) (ag (aZ aI) aF))) (fun _ _=>rfl) (fun _ _=>rfl)))
   (aC (aR (fR (ag (fR (ag (ae (wpv 1)) (ag (ae (wpv 2)) aF))) (ag (gh gY sH rfl B.tuple OG.gM (ag (uD (Nc:=["box","well","w"]) (tn:=["box"]) (capN:=["well","w"]) (caps:=[0,2]) rfl (gE rfl B.range (ag (ae (wpv 1)) aF)) (fun _ _ _=>(de (bb (i:=0) (show(["box","well","w"]:List Str).Nodup by decide +kernel) rfl (by trivial)))) (fun _ _ _=>(bP bO hr rfl (ag (ae (wpv 1)) (ag (ae (wpv 2)) aF)))) rfl rfl (by decide +kernel) (by decide +kernel) ⟨rfl,rfl,trivial⟩ rfl (.cons ⟨rfl,rfl,rfl,_,rfl⟩ (.cons ⟨rfl,rfl,rfl,_,rfl⟩ .nil)) rfl rfl) aF)) aF))))))))
def jR:aV ["thing"] ["thing"] (aA iG):=⟨rfl,rfl,rfl,by decide +kernel,rfl,by decide +kernel,by decide +kernel⟩
theorem qP{k:Nat}(d:Def K mg "_law_whole" iG ["thing"])(B:Blt mg):gN P w K mg base "_law_whole" (k+1) ["thing"] (fnU 1 1 (fj )):=
 d.pure jR fun f cdv A outer s H E hr=>(by
  have hu:=cV hr;have nd:=jR.nd;exact(aC (aR (Hn (vW (T:=.int) (by intro z;cases z) (ae (wpv 0)) (nQ rfl B.int OG.pT) rfl B.isinstance) (Hk (Hl (vW (T:=.bool) (by intro z;cases z) (ae (wpv 0)) (nQ rfl B.bool OG.zv) rfl B.isinstance)))))))
theorem lh:aV ["model","a","box","other","one"] ["model","a","box"] (aA jw):=⟨rfl,rfl,rfl,by decide +kernel,rfl,by decide +kernel,by decide +kernel⟩
def cT:CS:=
 (a9 (eL 4 (cOp fIx (cOp fIx (ak 0) (cC (.str "tries"))) (ak 3)))
  (eW (C3 (aU (cOp fNe (ak 3) (ak 1))) (C3 (aU (cOp (m9 true) (cOp fIx (ak 4) (cC (.str "left"))) (km aN))) (aU (cOp (fIn false) (ak 2) (cOp fIx (ak 4) (cC (.str "puts"))))))) (c8 (cC (.bl true))) cq))
def fV:CS:=
 (a9 (rJ (cOp fIx (ak 0) (cC (.str "tries"))) (gNm 3) (cT ))
  (c8 (cC (.bl false))))
def tH{a0 a1 a2:U}{S:Sto}:fnU 5 3 (fV ) [a0,a1,a2] S=((fV ) [some a0,some a1,some a2,none,none] S).bind kFn:=h8 rfl
theorem sW{k:Nat}(d:Def K mg "_law_held" jw ["model","a","box"])(B:Blt mg):gN P w K mg base "_law_held" (k+1) ["model","a","box"] (fnU 5 3 (fV )):=
 d.pure lh fun f cdv A outer s H E hr=>(by
  have hu:=cV hr;have nd:=lh.nd;exact(aw (xN PassesOwn.never rfl (bz hu (ae (wpv 0)) (aK ax) (fun _ _=>rfl) (fun _ _=>rfl)) (de (bb (i:=3) nd rfl (by trivial))) (aw (aY (i:=4) nd rfl (by trivial) (bz hu (bz hu (ae (wpv 0)) (aK ax) (fun _ _=>rfl) (fun _ _=>rfl)) (ae (wpv 3)) (fun _ _=>rfl) (fun _ _=>rfl)))
   (aC (bH (vU (AD (ba v7 FR (ae (wpv 3)) (ae (wpv 1)) (aX _)) (AD (ba (my hr.units) oN (bz hu (ae (wpv 4)) (aK ax) (fun _ _=>rfl) (fun _ _=>rfl)) (gF aF) (aX _)) (xT (xR hu (ae (wpv 2)) (bz hu (ae (wpv 4)) (aK ax) (fun _ _=>rfl) (fun _ _=>rfl)) (by with_unfolding_all rfl)))))) (aC (aR (oF dY))) br))))
   (aC (aR (oF dY)))))
theorem jS:aV ["model","a","one","box"] ["model","a"] (aA iH):=⟨rfl,rfl,rfl,by decide +kernel,rfl,by decide +kernel,by decide +kernel⟩
def cX(aQ:Fn):CS:=
 (eW (cOr (aU (cCB aQ (ah (ak 0) (ah (ak 1) (ah (ak 3) aN))))) (aU (cOp fGt (cOp fIx (cOp fIx (ak 0) (cC (.str "marks"))) (ak 3)) (cOp fIx (ak 2) (cC (.str "glance")))))) (c8 (cC (.bl false))) cq)
def fk(aQ:Fn):CS:=
 (a9 (eL 2 (cOp fIx (cOp fIx (ak 0) (cC (.str "tries"))) (ak 1)))
  (a9 (og (iTp (cOp fIx (ak 2) (cC (.str "looked")))) (gNm 3) (cX aQ))
  (c8 (cC (.bl true)))))
def rg{aQ:Fn}{a0 a1:U}{S:Sto}:fnU 4 2 (fk aQ) [a0,a1] S=((fk aQ) [some a0,some a1,none,none] S).bind kFn:=h8 rfl
theorem qQ{k:Nat}{aQ:Fn}(d:Def K mg "_law_still" iH ["model","a"])(B:Blt mg)(cU:gN P w K mg base "_law_held" (k) ["model","a","box"] aQ):gN P w K mg base "_law_still" (k+1) ["model","a"] (fnU 4 2 (fk aQ)):=
 d.pure jS fun f cdv A outer s H E hr=>(by
  have hu:=cV hr;have nd:=jS.nd;exact(aw (aY (i:=2) nd rfl (by trivial) (bz hu (bz hu (ae (wpv 0)) (aK ax) (fun _ _=>rfl) (fun _ _=>rfl)) (ae (wpv 1)) (fun _ _=>rfl) (fun _ _=>rfl)))
   (aw (nV PassesOwn.never rfl (qv (bz hu (ae (wpv 2)) (aK ax) (fun _ _=>rfl) (fun _ _=>rfl))) (de (bb (i:=3) nd rfl (by trivial))) (aC (bH (vU (vV (fb (bP cU hr rfl (ag (ae (wpv 0)) (ag (ae (wpv 1)) (ag (ae (wpv 3)) aF))))) (nj (ba v8 FT (bz hu (bz hu (ae (wpv 0)) (aK ax) (fun _ _=>rfl) (fun _ _=>rfl)) (ae (wpv 3)) (fun _ _=>rfl) (fun _ _=>rfl)) (bz hu (ae (wpv 2)) (aK ax) (fun _ _=>rfl) (fun _ _=>rfl)) (aX _))))) (aC (aR (oF dY))) br)))
   (aC (aR (oF dY))))))
def jU:aV ["state"] ["state"] (aA iJ):=⟨rfl,rfl,rfl,by decide +kernel,rfl,by decide +kernel,by decide +kernel⟩
def ft:CS:=
 (c8 (wJ [((cC (.str "boxes")),(cCB q4 (ah (ak 0) aN))),((cC (.str "marks")),(cOp qZ (km (ah (cC (.int 0)) aN)) (cCB n9 (ah (ak 0) aN)))),((cC (.str "clock")),(cC (.int 0))),((cC (.str "tries")),nN),((cC (.str "log")),(km aN))]))
def rj{a0:U}{S:Sto}:fnU 1 1 (ft ) [a0] S=((ft ) [some a0] S).bind kFn:=h8 rfl
theorem qS{k:Nat}(d:Def K mg "_law_model" iJ ["state"])(B:Blt mg):gN P w K mg base "_law_model" (k+1) ["state"] (fnU 1 1 (ft )):=
 d.pure jU fun f cdv A outer s H E hr=>(by
  have hu:=cV hr;have nd:=jU.nd;exact(aC (aR (Ct (fQ (aK ax) (gh iV x8 rfl B.list OG.iW (ag (ae (wpv 0)) aF)) (fQ (aK ax) (ky Cz Cw (gF (ag (aZ aI) aF)) (cY oO oM rfl B.len PySem.boot_len (ag (ae (wpv 0)) aF))) (fQ (aK ax) (aZ aI) (fQ (aK ax) mj (fQ (aK ax) (gF aF) Cr))))) rfl rfl (by simp) (by exact ZR rfl) (by exact ZR rfl)))))
theorem jV:aV ["model","a","word","told"] ["model","a","word","told"] (aA iK):=⟨rfl,rfl,rfl,by decide +kernel,rfl,by decide +kernel,by decide +kernel⟩
def fu:CS:=
 (a9 (eN (cOp fIx (cOp fIx (ak 0) (cC (.str "tries"))) (ak 1)) (cC (.str "open")) (cC (.bl false)))
  (a9 (fZ (cBM dq (cOp fIx (ak 0) (cC (.str "log"))) (ah (lO (ah (ak 2) (ah (ak 1) aN))) aN)))
  (c8 (ak 3))))
theorem rl{a0 a1 a2 a3:U}{S:Sto}:fnU 4 4 (fu ) [a0,a1,a2,a3] S=((fu ) [some a0,some a1,some a2,some a3] S).bind kFn:=h8 rfl
theorem qT{k:Nat}(d:Def K mg "_law_ended" iK ["model","a","word","told"])(B:Blt mg):gN P w K mg base "_law_ended" (k+1) ["model","a","word","told"] (fnU 4 4 (fu )):=
 d.pure jV fun f cdv A outer s H E hr=>(by
  have hu:=cV hr;have nd:=jV.nd;exact(aw (cu hu (bz hu (bz hu (ae (wpv 0)) (aK ax) (fun _ _=>rfl) (fun _ _=>rfl)) (ae (wpv 1)) (fun _ _=>rfl) (fun _ _=>rfl)) (aK ax) (oF dY))
   (aw (cM (dG (bz hu (ae (wpv 0)) (aK ax) (fun _ _=>rfl) (fun _ _=>rfl)) (ag (fR (ag (ae (wpv 2)) (ag (ae (wpv 1)) aF))) aF)))
   (aC (aR (ae (wpv 3)))))))
theorem k9:aV ["model","a","box","one","number"] ["model","a","box"] (aA jv):=⟨rfl,rfl,rfl,by decide +kernel,rfl,by decide +kernel,by decide +kernel⟩
def eV(aQ a6 aH:Fn):CS:=
 (a9 (eL 3 (cOp fIx (cOp fIx (ak 0) (cC (.str "tries"))) (ak 1)))
  (a9 (eL 4 (cOp fIx (cOp fIx (ak 0) (cC (.str "boxes"))) (ak 2)))
  (a9 (eW (aU (cOp (fIn false) (ak 2) (cOp fIx (ak 3) (cC (.str "puts"))))) (eL 4 (cOp fIx (cOp fIx (ak 3) (cC (.str "puts"))) (ak 2))) (eW (cOr (aU (cCB aQ (ah (ak 0) (ah (ak 1) (ah (ak 2) aN))))) (C3 (aU (cOp fGt (cOp fIx (cOp fIx (ak 0) (cC (.str "marks"))) (ak 2)) (cOp fIx (ak 3) (cC (.str "glance"))))) (wI (aU (cCB a6 (ah (ak 0) (ah (ak 1) aN))))))) (c8 (cCB aH (ah (ak 0) (ah (ak 1) (ah (cC (.str "fall")) (ah (lO (ah (cC (.str "falls")) aN)) aN)))))) (a9 (eW (aU (cOp fGt (cOp fIx (cOp fIx (ak 0) (cC (.str "marks"))) (ak 2)) (cOp fIx (ak 3) (cC (.str "glance"))))) (eN (ak 3) (cC (.str "glance")) (cOp fIx (ak 0) (cC (.str "clock")))) cq)
  (fZ (cBM dq (cOp fIx (ak 3) (cC (.str "looked"))) (ah (ak 2) aN))))))
  (a9 (fZ (cBM dq (cOp fIx (ak 0) (cC (.str "log"))) (ah (lO (ah (cC (.str "look")) (ah (ak 1) (ah (ak 2) (ah (ak 4) aN))))) aN)))
  (c8 (lO (ah (cC (.str "number")) (ah (ak 4) aN))))))))
theorem tF{aQ a6 aH:Fn}{a0 a1 a2:U}{S:Sto}:fnU 5 3 (eV aQ a6 aH) [a0,a1,a2] S=((eV aQ a6 aH) [some a0,some a1,some a2,none,none] S).bind kFn:=h8 rfl
theorem sV{k:Nat}{aQ a6 aH:Fn}(d:Def K mg "_law_look" jv ["model","a","box"])(B:Blt mg)(cU:gN P w K mg base "_law_held" (k) ["model","a","box"] aQ)(dU:gN P w K mg base "_law_still" (k) ["model","a"] a6)(bp:gN P w K mg base "_law_ended" (k) ["model","a","word","told"] aH):gN P w K mg base "_law_look" (k+1) ["model","a","box"] (fnU 5 3 (eV aQ a6 aH)):=
 d.pure k9 fun f cdv A outer s H E hr=>(by
  have hu:=cV hr;have nd:=k9.nd;exact(aw (aY (i:=3) nd rfl (by trivial) (bz hu (bz hu (ae (wpv 0)) (aK ax) (fun _ _=>rfl) (fun _ _=>rfl)) (ae (wpv 1)) (fun _ _=>rfl) (fun _ _=>rfl)))
   (aw (aY (i:=4) nd rfl (by trivial) (bz hu (bz hu (ae (wpv 0)) (aK ax) (fun _ _=>rfl) (fun _ _=>rfl)) (ae (wpv 2)) (fun _ _=>rfl) (fun _ _=>rfl)))
   (aw (bH (xR hu (ae (wpv 2)) (bz hu (ae (wpv 3)) (aK ax) (fun _ _=>rfl) (fun _ _=>rfl)) (by with_unfolding_all rfl)) (aC (aY (i:=4) nd rfl (by trivial) (bz hu (bz hu (ae (wpv 3)) (aK ax) (fun _ _=>rfl) (fun _ _=>rfl)) (ae (wpv 2)) (fun _ _=>rfl) (fun _ _=>rfl)))) (aC (bH (vU (vV (fb (bP cU hr rfl (ag (ae (wpv 0)) (ag (ae (wpv 1)) (ag (ae (wpv 2)) aF))))) (nj (vU (AD (ba v8 FT (bz hu (bz hu (ae (wpv 0)) (aK ax) (fun _ _=>rfl) (fun _ _=>rfl)) (ae (wpv 2)) (fun _ _=>rfl) (fun _ _=>rfl)) (bz hu (ae (wpv 3)) (aK ax) (fun _ _=>rfl) (fun _ _=>rfl)) (aX _)) (xT (ll (fb (bP dU hr rfl (ag (ae (wpv 0)) (ag (ae (wpv 1)) aF))))))))))) (aC (aR (bP bp hr rfl (ag (ae (wpv 0)) (ag (ae (wpv 1)) (ag (aK ax) (ag (fR (ag (aK ax) aF)) aF))))))) (aw (bH (ba v8 FT (bz hu (bz hu (ae (wpv 0)) (aK ax) (fun _ _=>rfl) (fun _ _=>rfl)) (ae (wpv 2)) (fun _ _=>rfl) (fun _ _=>rfl)) (bz hu (ae (wpv 3)) (aK ax) (fun _ _=>rfl) (fun _ _=>rfl)) (aX _)) (aC (cu hu (ae (wpv 3)) (aK ax) (bz hu (ae (wpv 0)) (aK ax) (fun _ _=>rfl) (fun _ _=>rfl)))) br)
   (aC (cM (dG (bz hu (ae (wpv 3)) (aK ax) (fun _ _=>rfl) (fun _ _=>rfl)) (ag (ae (wpv 2)) aF))))))))
   (aw (cM (dG (bz hu (ae (wpv 0)) (aK ax) (fun _ _=>rfl) (fun _ _=>rfl)) (ag (fR (ag (aK ax) (ag (ae (wpv 1)) (ag (ae (wpv 2)) (ag (ae (wpv 4)) aF))))) aF)))
   (aC (aR (fR (ag (aK ax) (ag (ae (wpv 4)) aF))))))))))
theorem k8:aV ["model","a","one"] ["model","a"] (aA ju):=⟨rfl,rfl,rfl,by decide +kernel,rfl,by decide +kernel,by decide +kernel⟩
def fU(aH a6 aQ:Fn):CS:=
 (a9 (eL 2 (cOp fIx (cOp fIx (ak 0) (cC (.str "tries"))) (ak 1)))
  (a9 (eW (aU (cOp IP (cOp fIx (ak 2) (cC (.str "puts"))) nN)) (c8 (cCB aH (ah (ak 0) (ah (ak 1) (ah (cC (.str "done")) (ah (cC (.str "done")) aN)))))) cq)
  (a9 (eW (cOr (wI (aU (cCB a6 (ah (ak 0) (ah (ak 1) aN))))) (aU (cCB wQ (ah (fW (cOp fIx (ak 2) (cC (.str "puts"))) (gNm 0) (cCB aQ (ah (ak 1) (ah (ak 2) (ah (ak 0) aN)))) 1 [0,1]) aN)))) (c8 (cCB aH (ah (ak 0) (ah (ak 1) (ah (cC (.str "fall")) (ah (cC (.str "falls")) aN)))))) cq)
  (a9 (eN (ak 0) (cC (.str "clock")) (cOp p9 (cOp fIx (ak 0) (cC (.str "clock"))) (cC (.int 1))))
  (a9 (eN (ak 2) (cC (.str "stamp")) (cOp fIx (ak 0) (cC (.str "clock"))))
  (a9 (eN (ak 2) (cC (.str "left")) (cCB iT (ah (cOp fIx (ak 2) (cC (.str "puts"))) aN)))
  (c8 (cC (.str "taken")))))))))
theorem tD{aH a6 aQ:Fn}{a0 a1:U}{S:Sto}:fnU 3 2 (fU aH a6 aQ) [a0,a1] S=((fU aH a6 aQ) [some a0,some a1,none] S).bind kFn:=h8 rfl
theorem sU{k:Nat}{aH a6 aQ:Fn}(d:Def K mg "_law_take" ju ["model","a"])(B:Blt mg)(bp:gN P w K mg base "_law_ended" (k) ["model","a","word","told"] aH)(dU:gN P w K mg base "_law_still" (k) ["model","a"] a6)(cU:gN P w K mg base "_law_held" (k) ["model","a","box"] aQ):gN P w K mg base "_law_take" (k+1) ["model","a"] (fnU 3 2 (fU aH a6 aQ)):=
 d.pure k8 fun f cdv A outer s H E hr=>(by
  have hu:=cV hr;have nd:=k8.nd;exact(aw (aY (i:=2) nd rfl (by trivial) (bz hu (bz hu (ae (wpv 0)) (aK ax) (fun _ _=>rfl) (fun _ _=>rfl)) (ae (wpv 1)) (fun _ _=>rfl) (fun _ _=>rfl)))
   (aw (bH (ba (HW hr.units) K7 (bz hu (ae (wpv 2)) (aK ax) (fun _ _=>rfl) (fun _ _=>rfl)) mj (aX _)) (aC (aR (bP bp hr rfl (ag (ae (wpv 0)) (ag (ae (wpv 1)) (ag (aK ax) (ag (aK ax) aF))))))) br)
   (aw (bH (vU (vV (ll (fb (bP dU hr rfl (ag (ae (wpv 0)) (ag (ae (wpv 1)) aF))))) (nj (fb (cY (pR rfl) ES rfl B.any OG.pV (ag (sF (Nc:=["box","model","a"]) (tn:=["box"]) (capN:=["model","a"]) (caps:=[0,1]) rfl (bz hu (ae (wpv 2)) (aK ax) (fun _ _=>rfl) (fun _ _=>rfl)) (fun _ _ _=>(de (bb (i:=0) (show(["box","model","a"]:List Str).Nodup by decide +kernel) rfl (by trivial)))) (fun _ _ _=>(bP cU hr rfl (ag (ae (wpv 1)) (ag (ae (wpv 2)) (ag (ae (wpv 0)) aF))))) rfl rfl (by decide +kernel) (by decide +kernel) ⟨rfl,rfl,trivial⟩ rfl (.cons ⟨rfl,rfl,rfl,_,rfl⟩ (.cons ⟨rfl,rfl,rfl,_,rfl⟩ .nil)) rfl rfl) aF)))))) (aC (aR (bP bp hr rfl (ag (ae (wpv 0)) (ag (ae (wpv 1)) (ag (aK ax) (ag (aK ax) aF))))))) br)
   (aw (cu hu (ae (wpv 0)) (aK ax) (ky mz mx (bz hu (ae (wpv 0)) (aK ax) (fun _ _=>rfl) (fun _ _=>rfl)) (aZ aI)))
   (aw (cu hu (ae (wpv 2)) (aK ax) (bz hu (ae (wpv 0)) (aK ax) (fun _ _=>rfl) (fun _ _=>rfl)))
   (aw (cu hu (ae (wpv 2)) (aK ax) (cY (uN rfl) uH rfl B.sorted OG.g6 (ag (bz hu (ae (wpv 2)) (aK ax) (fun _ _=>rfl) (fun _ _=>rfl)) aF)))
   (aC (aR (aK ax))))))))))
theorem jP:aV ["model","a","one","box"] ["model","a"] (aA iE):=⟨rfl,rfl,rfl,by decide +kernel,rfl,by decide +kernel,by decide +kernel⟩
def fh(aH:Fn):CS:=
 (a9 (eL 2 (cOp fIx (cOp fIx (ak 0) (cC (.str "tries"))) (ak 1)))
  (a9 (eL 3 (cBM mQ (cOp fIx (ak 2) (cC (.str "left"))) (ah (cC (.int 0)) aN)))
  (a9 (eN (cOp fIx (ak 0) (cC (.str "boxes"))) (ak 3) (cOp fIx (cOp fIx (ak 2) (cC (.str "puts"))) (ak 3)))
  (a9 (eN (cOp fIx (ak 0) (cC (.str "marks"))) (ak 3) (cOp fIx (ak 2) (cC (.str "stamp"))))
  (a9 (eW (aU (cOp (m9 true) (cOp fIx (ak 2) (cC (.str "left"))) (km aN))) (c8 (cC (.str "written"))) cq)
  (c8 (cCB aH (ah (ak 0) (ah (ak 1) (ah (cC (.str "done")) (ah (cC (.str "done")) aN)))))))))))
def q5{aH:Fn}{a0 a1:U}{S:Sto}:fnU 4 2 (fh aH) [a0,a1] S=((fh aH) [some a0,some a1,none,none] S).bind kFn:=h8 rfl
theorem qN{k:Nat}{aH:Fn}(d:Def K mg "_law_write" iE ["model","a"])(B:Blt mg)(bp:gN P w K mg base "_law_ended" (k) ["model","a","word","told"] aH):gN P w K mg base "_law_write" (k+1) ["model","a"] (fnU 4 2 (fh aH)):=
 d.pure jP fun f cdv A outer s H E hr=>(by
  have hu:=cV hr;have nd:=jP.nd;exact(aw (aY (i:=2) nd rfl (by trivial) (bz hu (bz hu (ae (wpv 0)) (aK ax) (fun _ _=>rfl) (fun _ _=>rfl)) (ae (wpv 1)) (fun _ _=>rfl) (fun _ _=>rfl)))
   (aw (aY (i:=3) nd rfl (by trivial) (xS (bz hu (ae (wpv 2)) (aK ax) (fun _ _=>rfl) (fun _ _=>rfl)) (ag (aZ aI) aF)))
   (aw (cu hu (bz hu (ae (wpv 0)) (aK ax) (fun _ _=>rfl) (fun _ _=>rfl)) (ae (wpv 3)) (bz hu (bz hu (ae (wpv 2)) (aK ax) (fun _ _=>rfl) (fun _ _=>rfl)) (ae (wpv 3)) (fun _ _=>rfl) (fun _ _=>rfl)))
   (aw (cu hu (bz hu (ae (wpv 0)) (aK ax) (fun _ _=>rfl) (fun _ _=>rfl)) (ae (wpv 3)) (bz hu (ae (wpv 2)) (aK ax) (fun _ _=>rfl) (fun _ _=>rfl)))
   (aw (bH (ba (my hr.units) oN (bz hu (ae (wpv 2)) (aK ax) (fun _ _=>rfl) (fun _ _=>rfl)) (gF aF) (aX _)) (aC (aR (aK ax))) br)
   (aC (aR (bP bp hr rfl (ag (ae (wpv 0)) (ag (ae (wpv 1)) (ag (aK ax) (ag (aK ax) aF)))))))))))))
theorem lj:aV ["model","call","word","a"] ["model","call"] (aA jx):=⟨rfl,rfl,rfl,by decide +kernel,rfl,by decide +kernel,by decide +kernel⟩
def cm(dN dM dg aH:Fn):CS:=
 (a9 (FE (IW (ak 1) none (some (cC (.int 2)))) (gTp [2,3]))
  (a9 (eW (aU (cOp fEq (ak 2) (cC (.str "begin")))) (a9 (eW (aU (cOp (fIn false) (ak 3) (cOp fIx (ak 0) (cC (.str "tries"))))) (c8 (cC (.str "noattempt"))) cq)
  (a9 (eN (cOp fIx (ak 0) (cC (.str "tries"))) (ak 3) (wJ [((cC (.str "glance")),(cOp fIx (ak 0) (cC (.str "clock")))),((cC (.str "looked")),(km aN)),((cC (.str "puts")),nN),((cC (.str "left")),(km aN)),((cC (.str "stamp")),(Jz (cC (.int 1)))),((cC (.str "open")),(cC (.bl true)))]))
  (a9 (fZ (cBM dq (cOp fIx (ak 0) (cC (.str "log"))) (ah (ak 1) aN)))
  (c8 (cC .non))))) cq)
  (a9 (eW (cOr (aU (cOp (fIn true) (ak 3) (cOp fIx (ak 0) (cC (.str "tries"))))) (wI (aU (cOp fIx (cOp fIx (cOp fIx (ak 0) (cC (.str "tries"))) (ak 3)) (cC (.str "open")))))) (c8 (cC (.str "noattempt"))) cq)
  (a9 (eW (aU (cOp fNe (cOp fGe (cOp fIx (cOp fIx (cOp fIx (ak 0) (cC (.str "tries"))) (ak 3)) (cC (.str "stamp"))) (cC (.int 0))) (cOp fEq (ak 2) (cC (.str "write"))))) (c8 (cC (.str "nostep"))) cq)
  (a9 (eW (aU (cOp fEq (ak 2) (cC (.str "look")))) (c8 (cCB dN (ah (ak 0) (ah (ak 3) (ah (cOp fIx (ak 1) (cC (.int 2))) aN))))) cq)
  (a9 (eW (aU (cOp fEq (ak 2) (cC (.str "take")))) (c8 (cCB dM (ah (ak 0) (ah (ak 3) aN)))) cq)
  (a9 (eW (aU (cOp fEq (ak 2) (cC (.str "write")))) (c8 (cCB dg (ah (ak 0) (ah (ak 3) aN)))) cq)
  (a9 (eW (aU (cOp fEq (ak 2) (cC (.str "fall")))) (c8 (cCB aH (ah (ak 0) (ah (ak 3) (ah (cC (.str "fall")) (ah (cC .non) aN)))))) cq)
  (a9 (eN (cOp fIx (cOp fIx (cOp fIx (ak 0) (cC (.str "tries"))) (ak 3)) (cC (.str "puts"))) (cOp fIx (ak 1) (cC (.int 2))) (cOp fIx (ak 1) (cC (.int 3))))
  (a9 (fZ (cBM dq (cOp fIx (ak 0) (cC (.str "log"))) (ah (ak 1) aN)))
  (c8 (cC .non))))))))))))
theorem eQ{dN dM dg aH:Fn}{a0 a1:U}{S:Sto}:fnU 4 2 (cm dN dM dg aH) [a0,a1] S=((cm dN dM dg aH) [some a0,some a1,none,none] S).bind kFn:=h8 rfl
theorem sX{k:Nat}{dN dM dg aH:Fn}(d:Def K mg "_law_call" jx ["model","call"])(B:Blt mg)(jK:gN P w K mg base "_law_look" (k) ["model","a","box"] dN)(jJ:gN P w K mg base "_law_take" (k) ["model","a"] dM)(iX:gN P w K mg base "_law_write" (k) ["model","a"] dg)(bp:gN P w K mg base "_law_ended" (k) ["model","a","word","told"] aH):gN P w K mg base "_law_call" (k+1) ["model","call"] (fnU 4 2 (cm dN dM dg aH)):=
 d.pure lj fun f cdv A outer s H E hr=>(by
  have hu:=cV hr;have nd:=lj.nd;exact(aw (xO (Hj (ae (wpv 1)) xQ (xP (aZ aI))) (uB rfl (gb (bb (i:=2) nd rfl (by trivial)) (gb (bb (i:=3) nd rfl (by trivial)) oE))))
   (aw (bH (ba jy sI (ae (wpv 2)) (aK ax) (aX _)) (aw (bH (xR hu (ae (wpv 3)) (bz hu (ae (wpv 0)) (aK ax) (fun _ _=>rfl) (fun _ _=>rfl)) (by with_unfolding_all rfl)) (aC (aR (aK ax))) br)
   (aw (cu hu (bz hu (ae (wpv 0)) (aK ax) (fun _ _=>rfl) (fun _ _=>rfl)) (ae (wpv 3)) (Ct (fQ (aK ax) (bz hu (ae (wpv 0)) (aK ax) (fun _ _=>rfl) (fun _ _=>rfl)) (fQ (aK ax) (gF aF) (fQ (aK ax) mj (fQ (aK ax) (gF aF) (fQ (aK ax) (KR (aZ aI)) (fQ (aK ax) (oF dY) Cr)))))) rfl rfl (by simp) (by exact ZR rfl) (by exact ZR rfl)))
   (aw (cM (dG (bz hu (ae (wpv 0)) (aK ax) (fun _ _=>rfl) (fun _ _=>rfl)) (ag (ae (wpv 1)) aF)))
   (aC (aR (lG fE)))))) br)
   (aw (bH (vU (vV (uC hu (ae (wpv 3)) (bz hu (ae (wpv 0)) (aK ax) (fun _ _=>rfl) (fun _ _=>rfl)) (by with_unfolding_all rfl)) (nj (ll (fb (bz hu (bz hu (bz hu (ae (wpv 0)) (aK ax) (fun _ _=>rfl) (fun _ _=>rfl)) (ae (wpv 3)) (fun _ _=>rfl) (fun _ _=>rfl)) (aK ax) (fun _ _=>rfl) (fun _ _=>rfl))))))) (aC (aR (aK ax))) br)
   (aw (bH (ba v7 FR (sG EW K6 (bz hu (bz hu (bz hu (ae (wpv 0)) (aK ax) (fun _ _=>rfl) (fun _ _=>rfl)) (ae (wpv 3)) (fun _ _=>rfl) (fun _ _=>rfl)) (aK ax) (fun _ _=>rfl) (fun _ _=>rfl)) (aZ aI) (aX _)) (sG jy sI (ae (wpv 2)) (aK ax) (aX _)) (aX _)) (aC (aR (aK ax))) br)
   (aw (bH (ba jy sI (ae (wpv 2)) (aK ax) (aX _)) (aC (aR (bP jK hr rfl (ag (ae (wpv 0)) (ag (ae (wpv 3)) (ag (bz hu (ae (wpv 1)) (aZ aI) (fun _ _=>rfl) (fun _ _=>rfl)) aF)))))) br)
   (aw (bH (ba jy sI (ae (wpv 2)) (aK ax) (aX _)) (aC (aR (bP jJ hr rfl (ag (ae (wpv 0)) (ag (ae (wpv 3)) aF))))) br)
   (aw (bH (ba jy sI (ae (wpv 2)) (aK ax) (aX _)) (aC (aR (bP iX hr rfl (ag (ae (wpv 0)) (ag (ae (wpv 3)) aF))))) br)
   (aw (bH (ba jy sI (ae (wpv 2)) (aK ax) (aX _)) (aC (aR (bP bp hr rfl (ag (ae (wpv 0)) (ag (ae (wpv 3)) (ag (aK ax) (ag (lG fE) aF))))))) br)
   (aw (cu hu (bz hu (bz hu (bz hu (ae (wpv 0)) (aK ax) (fun _ _=>rfl) (fun _ _=>rfl)) (ae (wpv 3)) (fun _ _=>rfl) (fun _ _=>rfl)) (aK ax) (fun _ _=>rfl) (fun _ _=>rfl)) (bz hu (ae (wpv 1)) (aZ aI) (fun _ _=>rfl) (fun _ _=>rfl)) (bz hu (ae (wpv 1)) (aZ aI) (fun _ _=>rfl) (fun _ _=>rfl)))
   (aw (cM (dG (bz hu (ae (wpv 0)) (aK ax) (fun _ _=>rfl) (fun _ _=>rfl)) (ag (ae (wpv 1)) aF)))
   (aC (aR (lG fE))))))))))))))
theorem jT:aV ["model","rows","turn","a","one"] ["model"] (aA iI):=⟨rfl,rfl,rfl,by decide +kernel,rfl,by decide +kernel,by decide +kernel⟩
def dF:CS:=
 (a9 (eL 4 (cOp fIx (cOp fIx (ak 0) (cC (.str "tries"))) (ak 3)))
  (fZ (cBM dq (ak 1) (ah (cOp fIx (km (ah (lO (ah (cOp fIx (ak 4) (cC (.str "glance"))) (ah (cC (.int 1)) (ah (ak 2) (ah (ak 3) aN))))) (ah (lO (ah (cOp fIx (ak 4) (cC (.str "stamp"))) (ah (cC (.int 0)) (ah (ak 2) (ah (ak 3) aN))))) aN))) (cCB Jw (ah (cOp fGe (cOp fIx (ak 4) (cC (.str "stamp"))) (cC (.int 0))) aN))) aN))))
def fq:CS:=
 (a9 (eL 1 (km aN))
  (a9 (zq (cOp fIx (ak 0) (cC (.str "tries"))) (gTp [2,3]) (dF ))
  (c8 (gK (iTp (cCB ja (ah (ak 1) aN))) (gNm 0) (cOp fIx (ak 0) (cC (.int 3))) 1 []))))
def rh{a0:U}{S:Sto}:fnU 5 1 (fq ) [a0] S=((fq ) [some a0,none,none,none,none] S).bind kFn:=h8 rfl
theorem qR{k:Nat}(d:Def K mg "_law_order" iI ["model"])(B:Blt mg):gN P w K mg base "_law_order" (k+1) ["model"] (fnU 5 1 (fq )):=
 d.pure jT fun f cdv A outer s H E hr=>(by
  have hu:=cV hr;have nd:=jT.nd;exact(aw (aY (i:=1) nd rfl (by trivial) (gF aF))
   (aw (Ep PassesOwn.never rfl rfl B.enumerate (bz hu (ae (wpv 0)) (aK ax) (fun _ _=>rfl) (fun _ _=>rfl)) (uB rfl (gb (bb (i:=2) nd rfl (by trivial)) (gb (bb (i:=3) nd rfl (by trivial)) oE))) (aw (aY (i:=4) nd rfl (by trivial) (bz hu (bz hu (ae (wpv 0)) (aK ax) (fun _ _=>rfl) (fun _ _=>rfl)) (ae (wpv 3)) (fun _ _=>rfl) (fun _ _=>rfl)))
   (aC (cM (dG (ae (wpv 1)) (ag (bz hu (gF (ag (fR (ag (bz hu (ae (wpv 4)) (aK ax) (fun _ _=>rfl) (fun _ _=>rfl)) (ag (aZ aI) (ag (ae (wpv 2)) (ag (ae (wpv 3)) aF))))) (ag (fR (ag (bz hu (ae (wpv 4)) (aK ax) (fun _ _=>rfl) (fun _ _=>rfl)) (ag (aZ aI) (ag (ae (wpv 2)) (ag (ae (wpv 3)) aF))))) aF))) (gh rH HR rfl B.int OG.pT (ag (sG EW K6 (bz hu (ae (wpv 4)) (aK ax) (fun _ _=>rfl) (fun _ _=>rfl)) (aZ aI) (aX _)) aF)) (fun _ _=>rfl) (fun _ _=>rfl)) aF))))))
   (aC (aR (uD (Nc:=["row"]) (tn:=["row"]) (capN:=[]) (caps:=[]) rfl (qv (cY (wb rfl) x5 rfl B.sorted OG.g6 (ag (ae (wpv 1)) aF))) (fun _ _ _=>(de (bb (i:=0) (show(["row"]:List Str).Nodup by decide +kernel) rfl (by trivial)))) (fun _ _ _=>(bz hu (ae (wpv 0)) (aZ aI) (fun _ _=>rfl) (fun _ _=>rfl))) rfl rfl (by decide +kernel) (by decide +kernel) trivial rfl .nil rfl rfl))))))
theorem jW:aV ["keeper","call","word","a","found","caught","kinds"] ["keeper","call"] (aA iL):=⟨rfl,rfl,rfl,by decide +kernel,rfl,by decide +kernel,by decide +kernel⟩
def bL(cf cQ dj cP b8 cR:Fn)(cKeeper:Cl):CS:=
 (a9 (FE (IW (ak 1) none (some (cC (.int 2)))) (gTp [2,3]))
  (a9 (eL 4 (cC .non))
  (a9 (eL 5 (cC .non))
  (a9 (eW (aU (cOp fEq (ak 2) (cC (.str "begin")))) (eL 4 (bJ cKeeper cf (ak 0) (ah (ak 3) aN))) (eW (aU (cOp fEq (ak 2) (cC (.str "look")))) (eL 4 (bJ cKeeper cQ (ak 0) (ah (ak 3) (ah (cOp fIx (ak 1) (cC (.int 2))) aN)))) (eW (aU (cOp fEq (ak 2) (cC (.str "put")))) (eL 4 (bJ cKeeper dj (ak 0) (ah (ak 3) (ah (cOp fIx (ak 1) (cC (.int 2))) (ah (cOp fIx (ak 1) (cC (.int 3))) aN))))) (eW (aU (cOp fEq (ak 2) (cC (.str "take")))) (eL 4 (bJ cKeeper cP (ak 0) (ah (ak 3) aN))) (eW (aU (cOp fEq (ak 2) (cC (.str "write")))) (eL 4 (bJ cKeeper b8 (ak 0) (ah (ak 3) aN))) (eL 4 (bJ cKeeper cR (ak 0) (ah (ak 3) aN))))))))
  (a9 (eW (aU (cOp Ft (ak 5) (cC .non))) (c8 (ak 4)) cq)
  (a9 lE
  (a9 lE
  lE)))))))
theorem dS{cf cQ dj cP b8 cR:Fn}{cKeeper:Cl}{a0 a1:U}{S:Sto}:fnU 7 2 (bL cf cQ dj cP b8 cR cKeeper) [a0,a1] S=((bL cf cQ dj cP b8 cR cKeeper) [some a0,some a1,none,none,none,none,none] S).bind kFn:=h8 rfl
theorem qU{k:Nat}{cf cQ dj cP b8 cR:Fn}{cKeeper:Cl}(d:Def K mg "_law_asked" iL ["keeper","call"])(B:Blt mg)(TKeeper:TC K cKeeper ["boxes","marks","holders","ticks","events","known"])(M_Keeper_begin:eZ P w K mg base cKeeper "begin" (k) ["self","a"] cf)(M_Keeper_look:eZ P w K mg base cKeeper "look" (k) ["self","a","b"] cQ)(M_Keeper_put:eZ P w K mg base cKeeper "put" (k) ["self","a","b","v"] dj)(M_Keeper_take:eZ P w K mg base cKeeper "take" (k) ["self","a"] cP)(M_Keeper_write:eZ P w K mg base cKeeper "write" (k) ["self","a"] b8)(M_Keeper_fall:eZ P w K mg base cKeeper "fall" (k) ["self","a"] cR):gN P w K mg base "_law_asked" (k+1) ["keeper","call"] (fnU 7 2 (bL cf cQ dj cP b8 cR cKeeper)):=
 d.pure jW fun f cdv A outer s H E hr=>(by
  have hu:=cV hr;have nd:=jW.nd;exact(aw (xO (Hj (ae (wpv 1)) xQ (xP (aZ aI))) (uB rfl (gb (bb (i:=2) nd rfl (by trivial)) (gb (bb (i:=3) nd rfl (by trivial)) oE))))
   (aw (aY (i:=4) nd rfl (by trivial) (lG fE))
   (aw (aY (i:=5) nd rfl (by trivial) (lG fE))
   (aw (Hi (fun _ _ h=>h) (aC (bH (ba jy sI (ae (wpv 2)) (aK ax) (aX _)) (aC (aY (i:=4) nd rfl (by trivial) (cG TKeeper.cl M_Keeper_begin hr (TKeeper.nm (by decide +kernel)) (ae (wpv 0)) (ag (ae (wpv 3)) aF)))) (aC (bH (ba jy sI (ae (wpv 2)) (aK ax) (aX _)) (aC (aY (i:=4) nd rfl (by trivial) (cG TKeeper.cl M_Keeper_look hr (TKeeper.nm (by decide +kernel)) (ae (wpv 0)) (ag (ae (wpv 3)) (ag (bz hu (ae (wpv 1)) (aZ aI) (fun _ _=>rfl) (fun _ _=>rfl)) aF))))) (aC (bH (ba jy sI (ae (wpv 2)) (aK ax) (aX _)) (aC (aY (i:=4) nd rfl (by trivial) (cG TKeeper.cl M_Keeper_put hr (TKeeper.nm (by decide +kernel)) (ae (wpv 0)) (ag (ae (wpv 3)) (ag (bz hu (ae (wpv 1)) (aZ aI) (fun _ _=>rfl) (fun _ _=>rfl)) (ag (bz hu (ae (wpv 1)) (aZ aI) (fun _ _=>rfl) (fun _ _=>rfl)) aF)))))) (aC (bH (ba jy sI (ae (wpv 2)) (aK ax) (aX _)) (aC (aY (i:=4) nd rfl (by trivial) (cG TKeeper.cl M_Keeper_take hr (TKeeper.nm (by decide +kernel)) (ae (wpv 0)) (ag (ae (wpv 3)) aF)))) (aC (bH (ba jy sI (ae (wpv 2)) (aK ax) (aX _)) (aC (aY (i:=4) nd rfl (by trivial) (cG TKeeper.cl M_Keeper_write hr (TKeeper.nm (by decide +kernel)) (ae (wpv 0)) (ag (ae (wpv 3)) aF)))) (aC (aY (i:=4) nd rfl (by trivial) (cG TKeeper.cl M_Keeper_fall hr (TKeeper.nm (by decide +kernel)) (ae (wpv 0)) (ag (ae (wpv 3)) aF)))))))))))))))
   (aw (bH (ba uL A3 (ae (wpv 5)) (lG fE) (aX _)) (aC (aR (ae (wpv 4)))) br)
   (aw gW
   (aw gW
   (aC gW)))))))))
theorem f6:aV ["well","world","model","most","going","many","a","box","way"] ["well","world","model","most"] (aA eO):=⟨rfl,rfl,rfl,by decide +kernel,rfl,by decide +kernel,by decide +kernel⟩
def cy(aW:Fn):CS:=
 (a9 (eL 4 (ko (cOp fIx (ak 2) (cC (.str "tries"))) (gNm 0) (aU (cOp fIx (cOp fIx (cOp fIx (ak 1) (cC (.str "tries"))) (ak 0)) (cC (.str "open")))) (ak 0) 1 [2]))
  (a9 (eL 5 (cCB n9 (ah (cOp fIx (ak 2) (cC (.str "tries"))) aN)))
  (a9 (eW (C3 (aU (cOp fLt (ak 5) (ak 3))) (cOr (aU (cOp (m9 false) (ak 4) (km aN))) (aU (cOp fEq (cCB aW (ah (ak 0) (ah (cC (.int 5)) aN))) (cC (.int 0)))))) (c8 (lO (ah (cC (.str "begin")) (ah (cOp tj (cOp nF (ak 5) (cC (.int 3))) (ak 3)) aN)))) cq)
  (a9 (eW (aU (cOp (m9 false) (ak 4) (km aN))) (c8 (cC .non)) cq)
  (a9 (eL 6 (cOp fIx (ak 4) (cCB aW (ah (ak 0) (ah (cCB n9 (ah (ak 4) aN)) aN)))))
  (a9 (eL 7 (cCB aW (ah (ak 0) (ah (cOp fIx (ak 1) (cC (.int 0))) aN))))
  (a9 (eW (aU (cOp fGe (cOp fIx (cOp fIx (cOp fIx (ak 2) (cC (.str "tries"))) (ak 6)) (cC (.str "stamp"))) (cC (.int 0)))) (c8 (lO (ah (cC (.str "write")) (ah (ak 6) aN)))) cq)
  (a9 (eL 8 (cCB aW (ah (ak 0) (ah (cC (.int 16)) aN))))
  (a9 (eW (aU (cOp fLt (ak 8) (cC (.int 7)))) (c8 (lO (ah (cC (.str "look")) (ah (ak 6) (ah (ak 7) aN))))) cq)
  (a9 (eW (aU (cOp fLt (ak 8) (cC (.int 11)))) (c8 (lO (ah (cC (.str "put")) (ah (ak 6) (ah (ak 7) (ah (cCB aW (ah (ak 0) (ah (cOp fIx (ak 1) (cC (.int 1))) aN))) aN)))))) cq)
  (c8 (cOp fIx (km (ah (lO (ah (cC (.str "take")) (ah (ak 6) aN))) (ah (lO (ah (cC (.str "fall")) (ah (ak 6) aN))) aN))) (cCB Jw (ah (cOp fEq (ak 8) (cC (.int 15))) aN))))))))))))))
theorem kN{aW:Fn}{a0 a1 a2 a3:U}{S:Sto}:fnU 9 4 (cy aW) [a0,a1,a2,a3] S=((cy aW) [some a0,some a1,some a2,some a3,none,none,none,none,none] S).bind kFn:=h8 rfl
theorem kL{k:Nat}{aW:Fn}(d:Def K mg "_law_drawn_call" eO ["well","world","model","most"])(B:Blt mg)(bO:gN P w K mg base "_law_sip" (k) ["well","many"] aW):gN P w K mg base "_law_drawn_call" (k+1) ["well","world","model","most"] (fnU 9 4 (cy aW)):=
 d.pure f6 fun f cdv A outer s H E hr=>(by
  have hu:=cV hr;have nd:=f6.nd;exact(aw (oC (Nc:=["a","model"]) (tn:=["a"]) (capN:=["model"]) (caps:=[2]) rfl (bz hu (ae (wpv 2)) (aK ax) (fun _ _=>rfl) (fun _ _=>rfl)) (fun _ _ _=>(de (bb (i:=0) (show(["a","model"]:List Str).Nodup by decide +kernel) rfl (by trivial)))) (fun _ _ _=>(fb (bz hu (bz hu (bz hu (ae (wpv 1)) (aK ax) (fun _ _=>rfl) (fun _ _=>rfl)) (ae (wpv 0)) (fun _ _=>rfl) (fun _ _=>rfl)) (aK ax) (fun _ _=>rfl) (fun _ _=>rfl)))) (fun _ _ _=>(ae (wpv 0))) rfl rfl (by decide +kernel) (by decide +kernel) ⟨rfl,trivial⟩ rfl (.cons ⟨rfl,rfl,rfl,_,rfl⟩ .nil) rfl rfl nd rfl rfl rfl)
   (aw (aY (i:=5) nd rfl (by trivial) (cY oO oM rfl B.len PySem.boot_len (ag (bz hu (ae (wpv 2)) (aK ax) (fun _ _=>rfl) (fun _ _=>rfl)) aF)))
   (aw (bH (vU (AD (ba A6 Jk (ae (wpv 5)) (ae (wpv 3)) (aX _)) (xT (vU (vV (ba (Cy hr.units) oN (ae (wpv 4)) (gF aF) (aX _)) (nj (ba jy sI (bP bO hr rfl (ag (ae (wpv 0)) (ag (aZ aI) aF))) (aZ aI) (aX _)))))))) (aC (aR (fR (ag (aK ax) (ag (ky qA x6 (ky j5 qy (ae (wpv 5)) (aZ aI)) (ae (wpv 3))) aF))))) br)
   (aw (bH (ba (Cy hr.units) oN (ae (wpv 4)) (gF aF) (aX _)) (aC (aR (lG fE))) br)
   (aw (aY (i:=6) nd rfl (by trivial) (bz hu (ae (wpv 4)) (bP bO hr rfl (ag (ae (wpv 0)) (ag (cY oO oM rfl B.len PySem.boot_len (ag (ae (wpv 4)) aF)) aF))) (fun _ _=>rfl) (fun _ _=>rfl)))
   (aw (aY (i:=7) nd rfl (by trivial) (bP bO hr rfl (ag (ae (wpv 0)) (ag (bz hu (ae (wpv 1)) (aZ aI) (fun _ _=>rfl) (fun _ _=>rfl)) aF))))
   (aw (bH (ba EW K6 (bz hu (bz hu (bz hu (ae (wpv 2)) (aK ax) (fun _ _=>rfl) (fun _ _=>rfl)) (ae (wpv 6)) (fun _ _=>rfl) (fun _ _=>rfl)) (aK ax) (fun _ _=>rfl) (fun _ _=>rfl)) (aZ aI) (aX _)) (aC (aR (fR (ag (aK ax) (ag (ae (wpv 6)) aF))))) br)
   (aw (aY (i:=8) nd rfl (by trivial) (bP bO hr rfl (ag (ae (wpv 0)) (ag (aZ aI) aF))))
   (aw (bH (ba A6 Jk (ae (wpv 8)) (aZ aI) (aX _)) (aC (aR (fR (ag (aK ax) (ag (ae (wpv 6)) (ag (ae (wpv 7)) aF)))))) br)
   (aw (bH (ba A6 Jk (ae (wpv 8)) (aZ aI) (aX _)) (aC (aR (fR (ag (aK ax) (ag (ae (wpv 6)) (ag (ae (wpv 7)) (ag (bP bO hr rfl (ag (ae (wpv 0)) (ag (bz hu (ae (wpv 1)) (aZ aI) (fun _ _=>rfl) (fun _ _=>rfl)) aF))) aF))))))) br)
   (aC (aR (bz hu (gF (ag (fR (ag (aK ax) (ag (ae (wpv 6)) aF))) (ag (fR (ag (aK ax) (ag (ae (wpv 6)) aF))) aF))) (gh rH HR rfl B.int OG.pT (ag (sG jy sI (ae (wpv 8)) (aZ aI) (aX _)) aF)) (fun _ _=>rfl) (fun _ _=>rfl)))))))))))))))
theorem jh:aV ["keeper","model","marks","turn","log","order"] ["keeper","model"] (aA gP):=⟨rfl,rfl,rfl,by decide +kernel,rfl,by decide +kernel,by decide +kernel⟩
def fX(bT bV bI bW bt bX bB:Fn)(cKeeper:Cl):CS:=
 (a9 (eL 4 (bJ cKeeper bX (ak 0) aN))
  (a9 (eL 5 (bJ cKeeper bB (ak 0) aN))
  (a9 (eW (cOr (wI (aU (zM .list (ak 4)))) (cOr (aU (cOp (m9 true) (ak 4) (cOp fIx (ak 1) (cC (.str "log"))))) (wI (aU (zM .list (ak 5)))))) (c8 (cC (.bl false))) cq)
  (a9 (eW (aU (cOp (m9 true) (ak 5) (cCB bV (ah (ak 1) aN)))) (c8 (cC (.bl false))) cq)
  (a9 (fZ (cBM dq (ak 4) (ah (lO (ah (cC (.str "begin")) (ah (cC (.int 99)) aN))) aN)))
  (fZ (cBM dq (ak 5) (ah (cC (.int 99)) aN))))))))
def eC(bT bV bI bW bt bX bB:Fn)(cKeeper:Cl):CS:=
 (a9 (eL 2 (gK (cZ (ah (cCB n9 (ah (cOp fIx (ak 1) (cC (.str "marks"))) aN)) aN)) (gNm 0) (bJ cKeeper bI (ak 1) (ah (ak 0) aN)) 1 [0]))
  (a9 (eW (cOr (aU (cOp (m9 true) (bJ cKeeper bW (ak 0) aN) (cCB lC (ah (cOp fIx (ak 1) (cC (.str "boxes"))) aN)))) (cOr (aU (cOp (m9 true) (ak 2) (cOp fIx (ak 1) (cC (.str "marks"))))) (aU (cOp fNe (bJ cKeeper bt (ak 0) aN) (cOp fIx (ak 1) (cC (.str "clock"))))))) (c8 (cC (.bl false))) cq)
  (a9 (eW (wI (aU (cCB FV (ah (gK (iTp (cOp p9 (ak 2) (km (ah (bJ cKeeper bt (ak 0) aN) aN)))) (gNm 0) (cCB bT (ah (ak 0) aN)) 1 []) aN)))) (c8 (cC (.bl false))) cq)
  (a9 (og (cZ (ah (cC (.int 2)) aN)) (gNm 3) (fX bT bV bI bW bt bX bB cKeeper))
  (c8 (cC (.bl true)))))))
theorem pE{bT bV bI bW bt bX bB:Fn}{cKeeper:Cl}{a0 a1:U}{S:Sto}:fnU 6 2 (eC bT bV bI bW bt bX bB cKeeper) [a0,a1] S=((eC bT bV bI bW bt bX bB cKeeper) [some a0,some a1,none,none,none,none] S).bind kFn:=h8 rfl
theorem pd{k:Nat}{bT bV bI bW bt bX bB:Fn}{cKeeper:Cl}(d:Def K mg "_law_stands" gP ["keeper","model"])(B:Blt mg)(TKeeper:TC K cKeeper ["boxes","marks","holders","ticks","events","known"])(iZ:gN P w K mg base "_law_whole" (k) ["thing"] bT)(i4:gN P w K mg base "_law_order" (k) ["model"] bV)(M_Keeper_mark:eZ P w K mg base cKeeper "mark" (k) ["self","b"] bI)(M_Keeper_now:eZ P w K mg base cKeeper "now" (k) ["self"] bW)(M_Keeper_clock:eZ P w K mg base cKeeper "clock" (k) ["self"] bt)(M_Keeper_log:eZ P w K mg base cKeeper "log" (k) ["self"] bX)(M_Keeper_order:eZ P w K mg base cKeeper "order" (k) ["self"] bB):gN P w K mg base "_law_stands" (k+1) ["keeper","model"] (fnU 6 2 (eC bT bV bI bW bt bX bB cKeeper)):=
 d.pure jh fun f cdv A outer s H E hr=>(by
  have hu:=cV hr;have nd:=jh.nd;exact(aw (vS (Nc:=["box","keeper"]) (tn:=["box"]) (capN:=["keeper"]) (caps:=[0]) rfl (gE rfl B.range (ag (cY oO oM rfl B.len PySem.boot_len (ag (bz hu (ae (wpv 1)) (aK ax) (fun _ _=>rfl) (fun _ _=>rfl)) aF)) aF)) (fun _ _ _=>(de (bb (i:=0) (show(["box","keeper"]:List Str).Nodup by decide +kernel) rfl (by trivial)))) (fun _ _ _=>(cG TKeeper.cl M_Keeper_mark hr (TKeeper.nm (by decide +kernel)) (ae (wpv 1)) (ag (ae (wpv 0)) aF))) rfl rfl (by decide +kernel) (by decide +kernel) ⟨rfl,trivial⟩ rfl (.cons ⟨rfl,rfl,rfl,_,rfl⟩ .nil) rfl rfl nd rfl rfl rfl)
   (aw (bH (vU (vV (ba (my hr.units) oN (kH TKeeper.cl M_Keeper_now hr (TKeeper.nm (by decide +kernel)) (ae (wpv 0))) (gh gY sH rfl B.tuple OG.gM (ag (bz hu (ae (wpv 1)) (aK ax) (fun _ _=>rfl) (fun _ _=>rfl)) aF)) (aX _)) (vV (ba (my hr.units) oN (ae (wpv 2)) (bz hu (ae (wpv 1)) (aK ax) (fun _ _=>rfl) (fun _ _=>rfl)) (aX _)) (nj (ba v7 FR (kH TKeeper.cl M_Keeper_clock hr (TKeeper.nm (by decide +kernel)) (ae (wpv 0))) (bz hu (ae (wpv 1)) (aK ax) (fun _ _=>rfl) (fun _ _=>rfl)) (aX _)))))) (aC (aR (oF dY))) br)
   (aw (bH (ll (fb (cY (BN rfl) K8 rfl B.all OG.BS (ag (uD (Nc:=["one"]) (tn:=["one"]) (capN:=[]) (caps:=[]) rfl (qv (ky mz mx (ae (wpv 2)) (gF (ag (kH TKeeper.cl M_Keeper_clock hr (TKeeper.nm (by decide +kernel)) (ae (wpv 0))) aF)))) (fun _ _ _=>(de (bb (i:=0) (show(["one"]:List Str).Nodup by decide +kernel) rfl (by trivial)))) (fun _ _ _=>(bP iZ hr rfl (ag (ae (wpv 0)) aF))) rfl rfl (by decide +kernel) (by decide +kernel) trivial rfl .nil rfl rfl) aF)))) (aC (aR (oF dY))) br)
   (aw (nV PassesOwn.never rfl (gE rfl B.range (ag (aZ aI) aF)) (de (bb (i:=3) nd rfl (by trivial))) (aw (aY (i:=4) nd rfl (by trivial) (kH TKeeper.cl M_Keeper_log hr (TKeeper.nm (by decide +kernel)) (ae (wpv 0))))
   (aw (aY (i:=5) nd rfl (by trivial) (kH TKeeper.cl M_Keeper_order hr (TKeeper.nm (by decide +kernel)) (ae (wpv 0))))
   (aw (bH (vU (vV (ll (fb (vW (T:=.list) (by intro z;cases z) (ae (wpv 4)) (nQ rfl B.list OG.iW) rfl B.isinstance))) (vV (ba (my hr.units) oN (ae (wpv 4)) (bz hu (ae (wpv 1)) (aK ax) (fun _ _=>rfl) (fun _ _=>rfl)) (aX _)) (nj (ll (fb (vW (T:=.list) (by intro z;cases z) (ae (wpv 5)) (nQ rfl B.list OG.iW) rfl B.isinstance))))))) (aC (aR (oF dY))) br)
   (aw (bH (ba (my hr.units) oN (ae (wpv 5)) (bP i4 hr rfl (ag (ae (wpv 1)) aF)) (aX _)) (aC (aR (oF dY))) br)
   (aw (cM (dG (ae (wpv 4)) (ag (fR (ag (aK ax) (ag (aZ aI) aF))) aF)))
   (aC (cM (dG (ae (wpv 5)) (ag (aZ aI) aF))))))))))
   (aC (aR (oF dY))))))))
theorem Cn:aV ["script","k","well","world","state","keeper","model","turn","call","due","found"] ["script"] (aA El):=⟨rfl,rfl,rfl,by decide +kernel,rfl,by decide +kernel,by decide +kernel⟩
def mX(dh cH cI bh di cL bU bY:Fn)(cKeeper:Cl):CS:=
 (a9 (eL 8 (cCB bh (ah (ak 2) (ah (ak 3) (ah (ak 6) (ah (cC (.int 7)) aN))))))
  (a9 (eW (aU (cOp Ft (ak 8) (cC .non))) Nn cq)
  (a9 (eL 9 (cCB di (ah (ak 6) (ah (ak 8) aN))))
  (a9 (eL 10 (cCB cL (ah (ak 5) (ah (ak 8) aN))))
  (a9 (eW (cOr (aU (cOp (m9 true) (ak 10) (ak 9))) (aU (cOp fNe (zM .tuple (ak 10)) (zM .tuple (ak 9))))) (c8 (cC (.bl false))) cq)
  (eW (wI (aU (cCB bU (ah (ak 5) (ah (ak 6) aN))))) (c8 (cC (.bl false))) cq))))))
def mW(dh cH cI bh di cL bU bY:Fn)(cKeeper:Cl):CS:=
 (a9 (eL 2 (cCB dh (ah (ak 0) (ah (ak 1) aN))))
  (a9 (FE (cCB cH (ah (ak 2) aN)) (gTp [3,4]))
  (a9 (eL 5 (cCB (pD cKeeper bY) (ah (ak 3) (ah (ak 4) aN))))
  (a9 (eL 6 (cCB cI (ah (ak 4) aN)))
  (og (cZ (ah (cC (.int 30)) aN)) (gNm 7) (mX dh cH cI bh di cL bU bY cKeeper))))))
def FC(dh cH cI bh di cL bU bY:Fn)(cKeeper:Cl):CS:=
 (a9 (og (cZ (ah (cCB IL (ah (cC (.int 2)) (ah (cCB IK (ah (cC (.int 6)) (ah (cCB n9 (ah (ak 0) aN)) aN))) aN))) aN)) (gNm 1) (mW dh cH cI bh di cL bU bY cKeeper))
  (c8 (cC (.bl true))))
theorem Lq{k:Nat}{dh cH cI bh di cL bU bY:Fn}{cKeeper:Cl}{fa pO:Addr}{fd:ZP}(F:Fun K "law" "law" El fa fd)(B:Blt mg)(TKeeper:TC K cKeeper ["boxes","marks","holders","ticks","events","known"])(jI:gN P w K mg base "_law_well" (k+1) ["script","k"] dh)(iY:gN P w K mg base "_law_world" (k+1) ["well"] cH)(i6:gN P w K mg base "_law_model" (k+1) ["state"] cI)(eY:gN P w K mg base "_law_drawn_call" (k+1) ["well","world","model","most"] bh)(jL:gN P w K mg base "_law_call" (k+1) ["model","call"] di)(i7:gN P w K mg base "_law_asked" (k+1) ["keeper","call"] cL)(g8:gN P w K mg base "_law_stands" (k+1) ["keeper","model"] bU)(M_Keeper:CMk P w K mg base cKeeper "Keeper" k ["self","world","state"] bY)
  (ok:∀(ns:List Int),ns.length<=63->∃ρ' S',FC dh cH cI bh di cL bU bY cKeeper [some (.kl ns),none,none,none,none,none,none,none,none,none,none] [zOf pO]=some (.rt (.bl true),ρ',S')):lF P w K mg base CX0 (k+1+1) fa fd ["script"] (uw pO K):=by
 refine Fun.okW F Cn (fun vs H Q E h=>(by obtain⟨a,ns,rfl,_⟩:=h;rfl)) fun cdv A outer s H vs Q E hr h=>?_;obtain⟨a,ns,rfl,hS,hlen,hpO,q⟩:=h;have hu:=cV hr;have nd:=Cn.nd;exact⟨_,(aw (nV PassesOwn.never rfl (gE rfl B.range (ag (cY (zj rfl) K5 rfl B.max OG.BR (ag (aZ aI) (ag (cY (zi rfl) K4 rfl B.min OG.BQ (ag (aZ aI) (ag (cY oO oM rfl B.len PySem.boot_len (ag (ae (wpv 0)) aF)) aF))) aF))) aF)) (de (bb (i:=1) nd rfl (by trivial))) (aw (aY (i:=2) nd rfl (by trivial) (bP jI hr rfl (ag (ae (wpv 0)) (ag (ae (wpv 1)) aF))))
   (aw (xO (bP iY hr rfl (ag (ae (wpv 2)) aF)) (uB rfl (gb (bb (i:=3) nd rfl (by trivial)) (gb (bb (i:=4) nd rfl (by trivial)) oE))))
   (aw (aY (i:=5) nd rfl (by trivial) (Cs M_Keeper hr rfl (ag (ae (wpv 3)) (ag (ae (wpv 4)) aF))))
   (aw (aY (i:=6) nd rfl (by trivial) (bP i6 hr rfl (ag (ae (wpv 4)) aF)))
   (aC (nV PassesOwn.never rfl (gE rfl B.range (ag (aZ aI) aF)) (de (bb (i:=7) nd rfl (by trivial))) (aw (aY (i:=8) nd rfl (by trivial) (bP eY hr rfl (ag (ae (wpv 2)) (ag (ae (wpv 3)) (ag (ae (wpv 6)) (ag (aZ aI) aF))))))
   (aw (bH (ba uL A3 (ae (wpv 8)) (lG fE) (aX _)) (aC AA) br)
   (aw (aY (i:=9) nd rfl (by trivial) (bP jL hr rfl (ag (ae (wpv 6)) (ag (ae (wpv 8)) aF))))
   (aw (aY (i:=10) nd rfl (by trivial) (bP i7 hr rfl (ag (ae (wpv 5)) (ag (ae (wpv 8)) aF))))
   (aw (bH (vU (vV (ba (my hr.units) oN (ae (wpv 10)) (ae (wpv 9)) (aX _)) (nj (ba v7 FR (vW (T:=.tuple) (by intro z;cases z) (ae (wpv 10)) (nQ rfl B.tuple OG.gM) rfl B.isinstance) (vW (T:=.tuple) (by intro z;cases z) (ae (wpv 9)) (nQ rfl B.tuple OG.gM) rfl B.isinstance) (aX _))))) (aC (aR (oF dY))) br)
   (aC (bH (ll (fb (bP g8 hr rfl (ag (ae (wpv 5)) (ag (ae (wpv 6)) aF))))) (aC (aR (oF dY))) br))))))))))))))
   (aC (aR (oF dY)))),Bm hS hpO (ok ns hlen) q⟩
end
end OL
local macro_rules
 | `(tactic| rwa $s:rwRuleSeq) => do
  let ts : Array (Lean.TSyntax `term) := s.raw[1].getSepArgs.map fun r => ⟨r[1]⟩
  let us : Array (Lean.TSyntax `term) := (("C8 wV x_c JS Dd Dc t8 rZ KC GI GH LI JR JQ JU Gm GG Dy Dx JP Gj Gi Gk De Df uc se sd JF F9 JZ Gp Jh Dw J7 Gw B5 qb t9 Gf Ge Gd Gy Dq Gh Gg kB w8 w6 MK Kd Ka C9 wW GF GD GC Kf Ke GK GJ MD JL JK JJ JI J0 J3 J4 J6 JH Ga Gb Gr Gs Gu Gq Dz JG JY MJ ML MM Km JW Kk JV Kn JX Kh Kg at0 at1 at2 at3 ix0 ix1 ix2 Option.bind_some List.getElem?_cons_zero List.getElem?_cons_succ List.set_cons_zero List.set_cons_succ List.length_cons List.length_nil List.map_cons List.map_nil decide_true decide_false Bool.not_true Bool.not_false Kj B9 B8 ME JO JN JM Gn Di Dh Dg Dj J8 J9 zS Gv MO Kz Ky Kx KA MN Ku Kt Ks Kq Ko Gz MI x_p MH MG MF GB Du Ds F1 F7 F8 Dk Dm Dp Gx ga ga0 gs gs0 Option.join_some Nat.add_zero List.cons_append List.nil_append List.append_assoc" : String).splitOn " ").toArray.map fun x => ⟨(Lean.mkIdent ((x.splitOn ".").foldl Lean.Name.str Lean.Name.anonymous)).raw⟩
  let vs:=ts++us
  `(tactic| simp only [$[$vs:term],*])
namespace OQ
open PySem PySem.Spec PyProof.Rows L2 OG OP
def l9{m:Int}(h0:0<=m)(h:m<2^60):m.natAbs.log2<9000:=yw h0 h
def rY(lk:List Int)(b:Int):List Int:=if b∈lk then lk else lk++[b]
def FW(lk:List Int):List (Key×U):=lk.map fun b=>(.inl b,.bl true)
theorem AF(b:Int)(lk:List Int):eM (FW lk) (.inl b) (.bl true)=FW (rY lk b):=by
 have ha:((FW lk).any fun kv=>decide (kv.1=Sum.inl b))=decide (b∈lk):=by
  unfold FW;induction lk with
  |nil=>rfl
  |cons k r ih=>
   simp only[QF,ZE,ih];by_cases e:k=b
   ·subst e;simp
   ·rw[decide_eq_false (fun z:(Sum.inl k:Key)=Sum.inl b=>e (Sum.inl.inj z))];simp[Ne.symm e]
 unfold eM rY;rw[ha];by_cases c:b∈lk
 ·rw[if_pos (decide_eq_true c),if_pos c];unfold FW;rw[Qu];refine ZX fun p _=>?_;simp only[Function.comp];split<;>rfl
 ·rw[if_neg (by simpa using c),if_neg c];simp[FW]
def yp{α:Type}{l:List α}{k:Nat}{x:α}(h:l[k]?=some x):k<l.length:=(Q9.mp h).1
def aT{α:Type}{l r:List α}{k:Nat}{x:α}(h:l[k]?=some x):(l++r)[k]?=some x:=by rw[Qo (yp h)];exact h
theorem DZ(b v j:Int)(ps:List (Int×Int)):bq (eM ps b v) j=if j=b then some v else bq ps j:=by
 have e1:∀ps:List (Int×Int),bq ps j=(jc (ps.map fun p=>(p.1,V.int p.2)) j).map fun x=>match x with|.int i=>i|_=>0:=fun ps=>by
  unfold bq jc;induction ps with
  |nil=>rfl
  |cons p r ih=>
   simp only[QF,Ql];by_cases e:p.1=j
   ·simp[e]
   ·rw[decide_eq_false e];exact ih
 have e2:(eM ps b v).map (fun p=>(p.1,V.int p.2))=m8 (ps.map fun p=>(p.1,V.int p.2)) b (.int v):=by
  unfold eM m8;have:(ps.map fun p=>(p.1,V.int p.2)).any (fun kv=>decide (kv.1=b))=ps.any fun kv=>decide (kv.1=b):=by rw[List.any_map];rfl
  rw[this];split
  ·rw[Qu,Qu];refine ZX fun p _=>?_;simp only[Function.comp];split<;>rfl
  ·simp
 rw[e1,e2,An];split
 ·rfl
 ·exact(e1 ps).symm
def wZ{x:U}{S:Sto}:Ft x .non S=some (.bl (qI x),S):=rfl
def JT{x:U}{S:Sto}:BE x .non S=some (.bl (!qI x),S):=rfl
def yN:qI .non=true:=rfl
def CL{i:Int}:qI (.int i)=false:=rfl
theorem wF{ok:Sto->Prop}{g:CG}{ct:CT}{ce:CE}{l:Nat}{ρ:Rho}{S:Sto}(h:ok S):c6 ok g ct ce l [] ρ S=some S:=by rw[c6,if_pos h]
theorem zg{ok:Sto->Prop}{g:CG}{ct:CT}{ce:CE}{l:Nat}{ρ ρ0:Rho}{S S0 S1:Sto}{u:U}{us:List U}(h:ok S)(hg:g u ρ S=some (ρ0,S0))(ht:ct ρ0 S0=some (false,S1)):c6 ok g ct ce l (u::us) ρ S=c6 ok g ct ce l us ρ0 S1:=by
 rw[c6,if_pos h,hg,QZ,ht,QZ,if_neg Q6]
theorem wD{ok:Sto->Prop}{g:CG}{ct:CT}{ce:CE}{l:Nat}{ρ ρ0:Rho}{S S0 S1 S2:Sto}{u x:U}{us ys:List U}(h:ok S)(hg:g u ρ S=some (ρ0,S0))(ht:ct ρ0 S0=some (true,S1))(he:ce ρ0 S1=some (x,S2))(hl:S2[l]?=some (.lst ys))(hn:ys.length<LIM) :
  c6 ok g ct ce l (u::us) ρ S=c6 ok g ct ce l us ρ0 (S2.set l (.lst (ys++[x]))):=by
 rw[c6,if_pos h,hg,QZ,ht,QZ,if_pos rfl,he,QZ];simp only[hl,hn,if_true]
def Lay(k:Nat)(S:Sto)(u:U):Prop:=∃d,Dt S u d/\d.canLay0=true/\d.depth<=k
def kq(k:Nat)(S:Sto)(u v:U):Prop:=∃d,Dt S u d/\Dt S v d/\d.canLay0=true/\d.depth<=k
def hV(k:Nat)(S:Sto)(us vs:List U):Prop:=∃ds,DtL S us ds/\DtL S vs ds/\PyData.canLayAll0 ds=true/\PyData.depthAll ds<=k
section
variable{k:Nat}{S:Sto}{u v:U}{us vs:List U}
def Lay.int{i:Int}:Lay k S (.int i):=⟨_,.int i,rfl,ZZ _⟩
def kq.refl(h:Lay k S u):kq k S u u:=by obtain⟨d,a,b,c⟩:=h;exact⟨d,a,a,b,c⟩
def hV.nil:hV k S [] []:=⟨[],.nil,.nil,rfl,ZZ _⟩
theorem hV.cons(h:kq k S u v)(t:hV k S us vs):hV k S (u::us) (v::vs):=by
 obtain⟨d,a,b,c,e⟩:=h;obtain⟨ds,a',b',c',e'⟩:=t;refine⟨d::ds,.cons a a',.cons b b',by unfold PyData.canLayAll0;rw[c,c'];rfl,?_⟩;unfold PyData.depthAll;exact Nat.max_le.mpr ⟨e,e'⟩
theorem hV.all:∀{us:List U},(∀u∈us,Lay k S u)->hV k S us us
 |[],_=>.nil
 |u::us,h=>.cons (.refl (h u QU)) (hV.all fun x hx=>h x (QX _ hx))
theorem kq.tup(h:hV k S us vs):kq (k+1) S (.tup us) (.tup vs):=by
 obtain⟨ds,a,b,c,e⟩:=h;refine⟨.tuple ds,.tup a,.tup b,by unfold PyData.canLay0;exact c,?_⟩;unfold PyData.depth;omega
theorem kq.lst{l l':Nat}(h1:S[l]?=some (.lst us))(h2:S[l']?=some (.lst vs))(h:hV k S us vs):kq (k+1) S (.ref l) (.ref l'):=by
 obtain⟨ds,a,b,c,e⟩:=h;refine⟨.list ds,.lst h1 a,.lst h2 b,by unfold PyData.canLay0;exact c,?_⟩;unfold PyData.depth;omega
theorem Lay.tup(h:∀u∈us,Lay k S u):Lay (k+1) S (.tup us):=by
 obtain⟨d,a,_,b,c⟩:=kq.tup (hV.all h);exact⟨d,a,b,c⟩
theorem kq.ne(h:kq k S u v)(hk:k<=60):m9 true u v S=some (.bl false,S):=by
 obtain⟨d,a,b,c,e⟩:=h;exact yX true (.inl ⟨d,d,a,b,⟨c,Qp e hk⟩,⟨c,Qp e hk⟩,(SeqAt.eqv_refl d c).symm⟩)
theorem Lay.ints{ns:List Int}:Lay 1 S (.tup (ns.map U.int)):=.tup fun u hu=>by
 obtain⟨i,_,rfl⟩:=Qn.mp hu;exact .int
end
section
variable{S:Sto}{l:Nat}{us:List U}{u:U}{i:Int}
def uW(l:Nat)(i:Int)(S:Sto):Option O->Option (U×Sto)
 |some (.lst us)=>if 0<=i/\i<us.length/\us.length<=LIM then(us[i.toNat]?).bind fun u=>some (u,S.set l (.lst (us.eraseIdx i.toNat)))else none
 |_=>none
theorem wX:mQ (.ref l) [.int i] S=uW l i S S[l]?:=by
 unfold mQ uW;rfl
theorem ub(h0:0<=i)(h1:i<us.length)(hL:us.length<=LIM)(hu:us[i.toNat]?=some u):uW l i S (some (.lst us))=some (u,S.set l (.lst (us.eraseIdx i.toNat))):=by
 simp only[uW];rw[if_pos ⟨h0,h1,hL⟩,hu,QZ]
end
theorem qt(n:Nat):jn 0 n=((Qa n).map fun i:Nat=>(i:Int)).map U.int:=by
 unfold jn;rw[Qu];refine ZX fun i _=>?_;simp
inductive Ev where
 |beg (a:Int)|look (a b x:Int)|put (a b x:Int)|fin (d:Bool) (a:Int)
structure Att where
 en:Option Bool
 lk:List (Int×Int)
 nd:List (Int×Int)
 ps:List (Int×Int)
 bf:List Int
abbrev St:=List (Int×Att)
theorem l7{κ α:Type}[DecidableEq κ]{ps:List (κ×α)}{k:κ}:bq ps k=none↔k∉ps.map (·.1):=by
 unfold bq;rw[Option.map_eq_none_iff,List.find?_eq_none];simp only[decide_eq_true_eq,Qn,not_exists,not_and]
theorem uE{κ α:Type}[DecidableEq κ]{ps:List (κ×α)}{k:κ}{v:α}(h:k∉ps.map (·.1)):eM ps k v=ps++[(k,v)]:=by
 unfold eM;rw[if_neg];simp only[Zz,decide_eq_true_eq,not_exists,not_and];intro p hp e;exact h (Qn.mpr ⟨p,hp,e⟩)
section
variable{c:Cl}
theorem Ca{i:Nat}{u:U}{fus:List (Option U)}{Z:Sto}{l:Nat}(h:Z[l]?=some (.ins c fus))(hu:fus[i]?=some (some u)):FU c i (.ref l,Z)=some (u,Z):=by
 rw[B9,h,B8,hu];rfl
end
theorem vn{α:Type}{ok:Sto->Prop}{gg:CG}{ce:CE}{S:Sto}{f:α->U}{v:α->U}{Rel:Rho->Prop}(hok:∀ys G,ok (S++(.lst ys::G))) :
  ∀(xs:List α) (ys:List U) (G:Sto) (ρ:Rho),Rel ρ->ys.length+xs.length<=9999->
  (∀x∈xs,∀ys G ρ,Rel ρ->∃ρ0 G1,Rel ρ0/\gg (f x) ρ (S++(.lst ys::G))=some (ρ0,S++(.lst ys::G))/\ce ρ0 (S++(.lst ys::G))=some (v x,S++(.lst ys::(G++G1))))->
  ∃G',gI ok gg ce S.length (xs.map f) ρ (S++(.lst ys::G))=some (S++(.lst (ys++xs.map v)::(G++G')))
 |[],ys,G,ρ,_,_,_=>⟨[],by simp only[ZY,ZV];exact kj (hok ys G)⟩
 |x::xs,ys,G,ρ,hr,hl,hb=>by
  rw[QV]at hl;obtain⟨ρ0,G1,r0,h1,h2⟩:=hb x QU ys G ρ hr;obtain⟨G',h⟩:=vn hok xs (ys++[v x]) (G++G1) ρ0 r0 (by simp;omega) (fun x hx=>hb x (QX _ hx));refine⟨G1++G',?_⟩;rw[QF];refine(iU (hok ys G) h1 h2 (by rw[ga0];rfl) (by unfold LIM;omega)).trans ?_;rw[gs0];simp only[List.set_cons_zero];rw[h];simp only[QF,Qw,ZH,Qs]
theorem jO{Z:Sto}{r:Nat}{o o':O}(h:Z[r]?=some o):(Z.set r o').set r o=Z:=by
 rw[List.set_set];refine List.ext_getElem? fun i=>?_;rw[Z7];split
 ·subst i;obtain⟨h1,h2⟩:=Q9.mp h;simp[h1,h2]
 ·rfl
theorem vh:∀ns ms:List Int,PyData.eqv (.list (ns.map PyData.int)) (.list (ms.map PyData.int))=decide (ns=ms)
 |[],[]=>rfl
 |[],_::_=>rfl
 |_::_,[]=>rfl
 |n::ns,m::ms=>by
  have e:PyData.eqv (.list ((n::ns).map PyData.int)) (.list ((m::ms).map PyData.int))=((n == m)&&PyData.eqv (.list (ns.map PyData.int)) (.list (ms.map PyData.int))):=rfl;rw[e,vh ns ms,ZK];simp
theorem pK{S:Sto}:∀ns:List Int,DtL S (ns.map U.int) (ns.map PyData.int)
 |[]=>.nil
 |n::ns=>.cons (.int n) (pK ns)
theorem uT(ns:List Int):t6 (.list (ns.map PyData.int)):=by
 have h:∀ns:List Int,PyData.canLayAll0 (ns.map PyData.int)=true/\PyData.depthAll (ns.map PyData.int)<=0:=fun ns=>by
  induction ns with
  |nil=>exact⟨rfl,QQ _⟩
  |cons n r ih=>
   refine⟨by unfold PyData.canLayAll0;rw[QF];exact ih.1,?_⟩;rw[QF];unfold PyData.depthAll;exact Nat.max_le.mpr ⟨QQ _,ih.2⟩
 refine⟨by unfold PyData.canLay0;exact(h ns).1,?_⟩;unfold PyData.depth;have:=(h ns).2;omega
theorem kb(neg:Bool){S:Sto}{l l':Nat}{ns ms:List Int}(h:S[l]?=some (.lst (ns.map U.int)))(h':S[l']?=some (.lst (ms.map U.int))):m9 neg (.ref l) (.ref l') S=some (.bl (if neg then !decide (ns=ms)else decide (ns=ms)),S):=
 yX neg (.inl ⟨_,_,.lst h (pK ns),.lst h' (pK ms),uT ns,uT ms,(vh ns ms).symm⟩)
section
variable{j:Nat}{S:Sto}
def nO:Fn:=fnU 3 2 gJ
def vD:Fn:=fnU 6 2 eU
theorem qf{r0 r1 r2:Option U}:∀(ts:List Int) (a f:Int) (r5:Option U),0<=a->a<2147483563->∃a' f' r5',dX (fun _=>True) (gNm 5) fM (ts.map U.int) [r0,r1,r2,some (.int a),some (.int f),r5] S=some (.nx,[r0,r1,r2,some (.int a'),some (.int f'),r5'],S)
 |[],a,f,r5,_,_=>⟨a,f,r5,gi trivial⟩
 |t::ts,a,f,r5,h0,h1=>by
  obtain⟨a',f',r5',ih⟩:=qf (r0:=r0) (r1:=r1) (r2:=r2) ts ((a*a+50021*a+19*t+7) % 2147483563) (f*2147483563+(a*a+50021*a+19*t+7) % 2147483563) (some (.int t)) (Int.emod_nonneg _ (by decide)) (Int.emod_lt_of_pos _ (by decide));refine⟨a',f',r5',(gX trivial rfl ?_).trans ih⟩;have m1:nF (.int a) (.int a) S=some (.int (a*a),S):=qc (.inl ⟨by omega,by omega⟩);have m2:nF (.int 50021) (.int a) S=some (.int (50021*a),S):=qc (.inl (by decide));have m3:nF (.int 19) (.int t) S=some (.int (19*t),S):=qc (.inl (by decide));have m4:nF (.int f) (.int 2147483563) S=some (.int (f*2147483563),S):=qc (.inr (by decide));have m5:∀j:Int,tj (.int j) (.int 2147483563) S=some (.int (j % 2147483563),S):=fun j=>wY (by decide);rwa[fM,m1,m2,m3,m4,m5]
theorem DV(ns:List Int){k:Int}(k0:0<=k):∃z,vD [.kl ns,.int k] S=some (.ref S.length,S++[.lst [.int z]]):=by
 unfold vD;rw[tq];have m1:nF (.int 5) (.int k) S=some (.int (5*k),S):=qc (.inl (by decide));have m2:∀j:Int,tj (.int j) (.int 2) S=some (.int (j % 2),S):=fun j=>wY (by decide);have m3:∀j:Int,CQ (.int j) (.int 2) S=some (.int (j / 2),S):=fun j=>GA ⟨by decide,by decide +kernel⟩;have m4:∀j:Int,nF (.int j) (.int 30011) S=some (.int (j*30011),S):=fun j=>qc (.inr (by decide));have m5:nF (.int 977) (.int k) S=some (.int (977*k),S):=qc (.inl (by decide));have m6:∀j:Int,tj (.int j) (.int 2147483563) S=some (.int (j % 2147483563),S):=fun j=>wY (by decide);have r60:cZ (ah (cC (.int 60)) aN)=fun ρ S=>some (jn 0 60,fun _=>True,S):=rfl;have er:jn 0 60=((Qa 60).map fun i:Nat=>(i:Int)).map U.int:=by rw[qt,Qu]
 have key:∀num:Int,∃z,((a9 (eW (aU (cOp fEq (cOp tj (ak 2) (cC (.int 2))) (cC (.int 0)))) (c8 (km (ah (cOp CQ (ak 2) (cC (.int 2))) aN))) cq)
  (a9 (eL 3 (cOp tj (cOp p9 (cOp p9 (cOp nF (ak 2) (cC (.int 30011))) (cOp nF (cC (.int 977)) (ak 1))) (cC (.int 41))) (cC (.int 2147483563))))
  (a9 (eL 4 (cC (.int 0)))
  (a9 (og (cZ (ah (cC (.int 60)) aN)) (gNm 5) fM)
  (c8 (km (ah (ak 4) aN))))))) [some (.kl ns),some (.int k),some (.int num),none,none,none] S).bind kFn=some (.ref S.length,S++[.lst [.int z]]):=fun num=>by
  by_cases e:num % 2=0
  ·refine⟨num / 2,?_⟩;have e':decide (num % 2=0)=true:=decide_eq_true e;rwa[m2,m3,e']
  ·have e':decide (num % 2=0)=false:=decide_eq_false e;obtain⟨a',f',r5',h⟩:=qf (S:=S) (r0:=some (.kl ns)) (r1:=some (.int k)) (r2:=some (.int num)) ((Qa 60).map fun i:Nat=>(i:Int)) ((num*30011+977*k+41) % 2147483563) 0 none (Int.emod_nonneg _ (by decide)) (Int.emod_lt_of_pos _ (by decide));rw[<-er]at h;refine⟨f',?_⟩;rwa[m2,e',m4,m5,m6,og,r60,h]
 by_cases hk:k<(ns.length:Int)
 ·have hk':decide (k<(ns.length:Int))=true:=decide_eq_true hk;have hi:k.toNat<ns.length:=by omega
  have ha:atI (ns.map U.int) k=some (.int ns[k.toNat]):=by
   have:=kW (xs:=ns.map U.int) (j:=k.toNat) (v:=.int ns[k.toNat]) (by rw[Qr,Q7 hi];rfl);rw[show((k.toNat:Nat):Int)=k from by omega]at this;exact this
  obtain⟨z,h⟩:=key ns[k.toNat];refine⟨z,?_⟩;rw[<-h];simp only[eU,m1,B7,J5,hk',ha,qb,t9,C9,wW,JS,Dd,Dc,C8,wV,x_c,Dz,kB,w8,w6,t8,rZ,JY,Jh,Dw,uc,se,sd,Df,QZ,List.getElem?_cons_zero,ZI,List.set_cons_zero,List.set_cons_succ,Option.join_some]
 ·have hk':decide (k<(ns.length:Int))=false:=decide_eq_false hk;obtain⟨z,h⟩:=key (5*k+3);refine⟨z,?_⟩;rw[<-h];simp only[eU,m1,B7,hk',qb,t9,C9,wW,JS,Dd,Dc,C8,wV,x_c,Dz,kB,w8,w6,t8,rZ,JY,Jh,Dw,uc,se,sd,Df,B5,QZ,List.getElem?_cons_zero,ZI,List.set_cons_zero,List.set_cons_succ,Option.join_some]
end
section
variable{S G:Sto}{x:List Int}
theorem rD{α:Type}{ok:Sto->Prop}{gg:CG}{ce:CE}{S:Sto}{f:α->U}{v:α->U}{Rel:Rho->Prop}(hok:∀ys G,ok (S++(.lst ys::G))) :
  ∀(xs:List α) (ys:List U) (G:Sto) (ρ:Rho),Rel ρ->ys.length+xs.length<=9999->
  (∀x∈xs,∀ys G ρ,Rel ρ->∃ρ0,Rel ρ0/\gg (f x) ρ (S++(.lst ys::G))=some (ρ0,S++(.lst ys::G))/\ce ρ0 (S++(.lst ys::G))=some (v x,S++(.lst ys::G)))->
  gI ok gg ce S.length (xs.map f) ρ (S++(.lst ys::G))=some (S++(.lst (ys++xs.map v)::G))
 |[],ys,G,ρ,_,_,_=>by simp only[ZY,ZV];exact kj (hok ys G)
 |x::xs,ys,G,ρ,hr,hl,hb=>by
  rw[QV]at hl;obtain⟨ρ0,r0,h1,h2⟩:=hb x QU ys G ρ hr;have h:=rD hok xs (ys++[v x]) G ρ0 r0 (by simp;omega) (fun x hx=>hb x (QX _ hx));rw[QF];refine(iU (hok ys G) h1 h2 (by rw[ga0];rfl) (by unfold LIM;omega)).trans ?_;rw[gs0];simp only[List.set_cons_zero];rw[h];simp only[QF,Qw,ZH,Qs]
end
section
variable{κ κ' α β:Type}[DecidableEq κ][DecidableEq κ']
theorem AH(kf:κ->κ')(vf:α->β)(inj:∀a b,kf a=kf b->a=b)(ps:List (κ×α))(k:κ)(v:α):eM (ps.map fun p=>(kf p.1,vf p.2)) (kf k) (vf v)=(eM ps k v).map fun p=>(kf p.1,vf p.2):=by
 have hd:∀a,decide (kf a=kf k)=decide (a=k):=fun a=>by
  rw[ZK,decide_eq_true_eq,decide_eq_true_eq];exact⟨inj a k,fun h=>by rw[h]⟩
 have ha:((ps.map fun p=>(kf p.1,vf p.2)).any fun kv=>decide (kv.1=kf k))=ps.any fun kv=>decide (kv.1=k):=by
  rw[List.any_map];congr 1;funext p;exact hd p.1
 unfold eM;rw[ha];by_cases h:(ps.any fun kv=>decide (kv.1=k))=true
 ·rw[if_pos h,if_pos h,Qu,Qu];refine ZX fun p _=>?_;show(if kf p.1=kf k then(kf p.1,vf v)else(kf p.1,vf p.2))=_;by_cases e:p.1=k
  ·simp[e]
  ·have e':¬kf p.1=kf k:=fun z=>e (inj _ _ z);simp[e,e']
 ·rw[if_neg h,if_neg h,Zg];rfl
theorem Et{ps:List (κ×α)}{k:κ}{v:α}(h:(ps.map (·.1)).Nodup):((eM ps k v).map (·.1)).Nodup:=by
 unfold eM;by_cases e:(ps.any fun kv=>decide (kv.1=k))=true
 ·rw[if_pos e,Qu];have:((fun x:κ×α=>x.1) ∘ fun kv=>if kv.1=k then(kv.1,v)else kv)=fun x=>x.1:=by
   funext p;show(if p.1=k then(p.1,v)else p).1=p.1;split<;>rfl
  rw[this];exact h
 ·rw[if_neg e,Zg,List.nodup_append];refine⟨h,by simp,fun a ha b hb z=>?_⟩;rw[List.map_singleton,Qy]at hb;obtain⟨p,hp,hp2⟩:=Qn.mp ha;exact e (Zz.mpr ⟨p,hp,decide_eq_true (by rw[hp2,z,hb])⟩)
theorem AG{ps:List (κ×α)}{k:κ}{v:α}{q:κ×α}(h:q∈eM ps k v):q.1=k\/∃p∈ps,p.1=q.1:=by
 unfold eM at h;split at h
 ·obtain⟨p,hp,e⟩:=Qn.mp h;by_cases z:p.1=k
  ·rw[if_pos z]at e;rw[<-e];exact .inl z
  ·rw[if_neg z]at e;rw[<-e];exact .inr ⟨p,hp,rfl⟩
 ·rcases Qe.mp h with z|z
  ·exact .inr ⟨q,z,rfl⟩
  ·rw[Qy.mp z];exact .inl rfl
end
def bS{ca cb:CS}{ρ ρ':Rho}{S S':Sto}(h:ca ρ S=some (.nx,ρ',S')):a9 ca cb ρ S=cb ρ' S':=by rw[qb,h,QZ,t9]
def Wp{α:Type}(x:Option α)(Q:α->Prop):Prop:=∃r,x=some r/\Q r
section
variable{α:Type}{x:Option α}{Q P:α->Prop}
def Wp.mono(h:Wp x P)(i:∀r,P r->Q r):Wp x Q:=let ⟨r,e,p⟩:=h;⟨r,e,i r p⟩
def Wp.of{r:α}(h:x=some r)(q:Q r):Wp x Q:=⟨r,h,q⟩
end
section
variable{α:Type}{ci:CI}{ca:CE}{gg:CG}{t:CT}{ce:CE}{cb:CS}{caps:List Nat}{ρ:Rho}{cs:Rho}{S S1:Sto}{ok:Sto->Prop}{xs:List α}{us:List U}{f v:α->U}{Q:U×Sto->Prop}{R:Out×Rho×Sto->Prop}{l:Nat}
theorem By(h:ca ρ S=some (.ref l,S1))(hl:S1[l]?=some (.lst us)):iTp ca ρ S=some (us,fun S=>S[l]?=some (.lst us),S1):=by
 unfold iTp;rw[h,QZ];simp only[hl]
theorem mN{cr:CA}{n:Int}(h:cr ρ S=some ([.int n],S1))(n0:0<=n)(n1:n<=1000):cZ cr ρ S=some (jn 0 n.toNat,fun _=>True,S1):=by
 have hb:-(2^62)<=n/\n<2^62:=by omega
 unfold cZ;rw[h,QZ];simp only[hb,and_self,if_true]
def qu(n:Nat):jn 0 n=(Qa n).map fun i:Nat=>U.int (i:Int):=by rw[qt,Qu];rfl
theorem DY(hi:ci ρ S=some (xs.map f,ok,S1))(hok:∀G,ok (S1++G))(hn:xs.length<=9000)(hr:rV 1 caps ρ=none::cs)
  (hb:∀x∈xs,∀G,Wp (ce (some (f x)::cs) (S1++G)) fun t=>t.1=v x/\∃G2,t.2=S1++G++G2)
  (hQ:∀G,Q (.ref S1.length,S1++(.lst (xs.map v)::G))):Wp (gK ci (gNm 0) ce 1 caps ρ S) Q:=by
 obtain⟨G,e⟩:=vn (S:=S1) (ok:=ok) (gg:=gNm 0) (ce:=ce) (f:=f) (v:=v) (Rel:=fun ρ=>∃r0,ρ=r0::cs) (fun ys G=>hok _) xs [] [] (none::cs) ⟨_,rfl⟩ (by simp;omega) (fun x hx ys G ρ hρ=>by
  obtain⟨r0,rfl⟩:=hρ;obtain⟨⟨b,S2⟩,e1,e2,G1,e3⟩:=hb x hx (.lst ys::G);dsimp only at e2 e3;subst e2 e3;exact⟨some (f x)::cs,G1,⟨_,rfl⟩,rfl,by rw[e1,Qw,ZH]⟩)
 refine⟨_,?_,hQ G⟩;unfold gK;rw[hi,QZ,hr];dsimp only;rw[e];rfl
theorem MQ{bs:List Bool}(hl:S[l]?=some (.lst (bs.map U.bl)))(q:Q (.bl (bs.all id),S)):Wp (FV [.ref l] S) Q:=
 .of (by simp only[FV,hl,pW,QZ]) q
theorem DX(I:List α->Rho->Sto->Prop)(h0:∀ρ S,I [] ρ S->ok S/\R (.nx,ρ,S))
  (h1:∀x xs ρ S,I (x::xs) ρ S->ok S/\Wp (gg (f x) ρ S) fun r=>Wp (cb r.1 r.2) fun s=>(s.1=.nx/\I xs s.2.1 s.2.2)\/∃v,s.1=.rt v/\R s) :
  ∀(xs:List α) (ρ:Rho) (S:Sto),I xs ρ S->Wp (dX ok gg cb (xs.map f) ρ S) R
 |[],ρ,S,h=>by
  obtain⟨a,b⟩:=h0 ρ S h;exact .of (gi a) b
 |x::xs,ρ,S,h=>by
  obtain⟨a,⟨ρ0,S0⟩,e1,⟨o,ρ1,S1⟩,e2,c⟩:=h1 x xs ρ S h;rcases c with⟨c,i⟩|⟨v,c,q⟩
  ·cases c;obtain⟨r,e3,q⟩:=DX I h0 h1 xs ρ1 S1 i;exact⟨r,(gX a e1 e2).trans e3,q⟩
  ·cases c;exact⟨_,yu a e1 e2,q⟩
end
abbrev uR(l:Nat):Option U:=some (.ref l)
abbrev uI(i:Int):Option U:=some (.int i)
inductive Pl where
 |k (j f:Nat)|a (j:Nat) (a:Int) (f:Nat)|x (n i:Nat)
deriving DecidableEq
def aM(c:Pl->O)(s:Pl)(o:O):Pl->O:=fun s'=>if s'=s then o else c s'
def eK(pos:Pl->Option Nat)(s:Pl)(p:Nat):Pl->Option Nat:=fun s'=>if s'=s then some p else pos s'
structure Mm(pos:Pl->Option Nat)(c:Pl->O)(T:Sto):Prop where
 at_:∀s p,pos s=some p->T[p]?=some (c s)
 inj:∀s s' p,pos s=some p->pos s'=some p->s=s'
section
variable{pos:Pl->Option Nat}{c:Pl->O}{T:Sto}{s s':Pl}{p:Nat}{o:O}
def bQ:aM c s o s=o:=if_pos rfl
def aJ(h:s'≠s):aM c s o s'=c s':=if_neg h
def ml:eK pos s p s=some p:=if_pos rfl
def fS(h:s'≠s):eK pos s p s'=pos s':=if_neg h
def Mm.lt(M:Mm pos c T)(h:pos s=some p):p<T.length:=(Q9.mp (M.at_ s p h)).1
def Mm.get(M:Mm pos c T)(h:pos s=some p)(e:c s=o):T[p]?=some o:=by rw[M.at_ s p h,e]
theorem Mm.set(M:Mm pos c T)(h:pos s=some p)(o:O):Mm pos (aM c s o) (T.set p o):=by
 refine⟨fun s' q hq=>?_,M.inj⟩;by_cases e:s'=s
 ·subst e;rw[h]at hq;cases hq;rw[bQ,Z7,if_pos rfl,if_pos (M.lt h)]
 ·rw[aJ e,Qb (fun z=>by subst z;exact e (M.inj _ _ _ hq h))];exact M.at_ s' q hq
def Mm.app(M:Mm pos c T)(X:Sto):Mm pos c (T++X):=⟨fun s p h=>aT (M.at_ s p h),M.inj⟩
theorem Mm.newP(M:Mm pos c T)(h:T[p]?=some o)(hp:∀s',pos s'≠some p)(s:Pl):Mm (eK pos s p) (aM c s o) T:=by
 refine⟨fun s' q hq=>?_,fun s1 s2 q h1 h2=>?_⟩
 ·by_cases e:s'=s
  ·subst e;rw[ml]at hq;cases hq;rw[bQ];exact h
  ·rw[fS e]at hq;rw[aJ e];exact M.at_ s' q hq
 ·by_cases e1:s1=s
  ·by_cases e2:s2=s
   ·rw[e1,e2]
   ·rw[e1,ml]at h1;rw[fS e2]at h2;cases h1;exact absurd h2 (hp s2)
  ·rw[fS e1]at h1;by_cases e2:s2=s
   ·rw[e2,ml]at h2;cases h2;exact absurd h1 (hp s1)
   ·rw[fS e2]at h2;exact M.inj s1 s2 q h1 h2
theorem Mm.new(M:Mm pos c T)(s:Pl)(o:O)(X:Sto):Mm (eK pos s T.length) (aM c s o) (T++(o::X)):=
 (M.app (o::X)).newP (by rw[ga0];rfl) (fun s' e=>absurd (M.lt e) (ZN _)) s
end
structure Ac where
 g:Int
 lk:List Int
 pu:List (Int×Int)
 st:Option Int
 un:List Int
 op:Bool
structure Kc where
 bx:List Int
 ma:List Int
 ho:List (Int×Int)
 tk:Int
 ev:List U
 ids:List Int
 A:Int->Ac
def dI(l:List (Int×Int)):List (Key×U):=l.map fun p=>(.inl p.1,.int p.2)
def dT(l:List Int):List (Key×U):=l.map fun b=>(.inl b,.bl true)
def stU:Option Int->U
 |none=>.non
 |some t=>.int t
def Kc.up(K:Kc)(a:Int)(v:Ac):Kc:={ K with A:=fun x=>if x=a then v else K.A x }
abbrev kO(cK:Cl)(p:Nat->Nat)(tk:Int):O:=.ins cK [uR (p 1),uR (p 2),uR (p 3),uI tk,uR (p 4),uR (p 5)]
abbrev aO(cA:Cl)(r:Nat->Nat)(g:Int)(s:U)(u:Nat)(o:Bool):O:=.ins cA [uI g,uR (r 1),uR (r 2),some s,uR u,some (.bl o)]
structure Kr(cK cA:Cl)(j:Nat)(pos:Pl->Option Nat)(c:Pl->O)(K:Kc)(p:Nat->Nat)(q:Int->Nat->Nat):Prop where
 pk:∀f,f<6->pos (.k j f)=some (p f)
 c0:c (.k j 0)=kO cK p K.tk
 c1:c (.k j 1)=.lst (K.bx.map U.int)
 c2:c (.k j 2)=.lst (K.ma.map U.int)
 c3:c (.k j 3)=.dic (dI K.ho)
 c4:c (.k j 4)=.lst K.ev
 c5:c (.k j 5)=.dic (K.ids.map fun a=>(.inl a,.ref (q a 0)))
 pa:∀a∈K.ids,∀f,f<4->pos (.a j a f)=some (q a f)
 a0:∀a∈K.ids,c (.a j a 0)=aO cA (q a) ((K.A a).g) (stU (K.A a).st) (q a 3) ((K.A a).op)
 a1:∀a∈K.ids,c (.a j a 1)=.dic (dT (K.A a).lk)
 a2:∀a∈K.ids,c (.a j a 2)=.dic (dI (K.A a).pu)
 a3:∀a∈K.ids,c (.a j a 3)=.lst ((K.A a).un.map U.int)
def own(j:Nat):Pl->Prop
 |.k i _=>i=j
 |.a i _ _=>i=j
 |.x _ _=>False
def Fm(j:Nat)(pos:Pl->Option Nat)(c:Pl->O)(pos':Pl->Option Nat)(c':Pl->O):Prop:=∀s,¬own j s->pos' s=pos s/\c' s=c s
section
variable{cK cA:Cl}{j:Nat}{pos pos' pos'':Pl->Option Nat}{c c' c'':Pl->O}{K:Kc}{p:Nat->Nat}{q:Int->Nat->Nat}{a b:Int}{o:O}{s:Pl}{n:Nat}
def Fm.refl:Fm j pos c pos c:=fun _ _=>⟨rfl,rfl⟩
theorem Fm.trans(h:Fm j pos c pos' c')(h':Fm j pos' c' pos'' c''):Fm j pos c pos'' c'':=fun s n=>⟨(h' s n).1.trans (h s n).1,(h' s n).2.trans (h s n).2⟩
theorem Fm.upd(h:Fm j pos c pos' c')(hs:own j s):Fm j pos c pos' (aM c' s o):=fun s' n'=>⟨(h s' n').1,by rw[aJ (fun e=>n' (by rw[e];exact hs))];exact(h s' n').2⟩
theorem Fm.pn(h:Fm j pos c pos' c')(hs:own j s):Fm j pos c (eK pos' s n) c':=fun s' n'=>⟨by rw[fS (fun e=>n' (by rw[e];exact hs))];exact(h s' n').1,(h s' n').2⟩
def Fm.uk(h:Fm j pos c pos' c')(f:Nat):Fm j pos c pos' (aM c' (.k j f) o):=h.upd rfl
def Fm.ua(h:Fm j pos c pos' c')(a:Int)(f:Nat):Fm j pos c pos' (aM c' (.a j a f) o):=h.upd rfl
theorem Kr.ev(R:Kr cK cA j pos c K p q)(ev:List U):Kr cK cA j pos (aM c (.k j 4) (.lst ev)) { K with ev:=ev } p q:=
 ⟨R.pk,by simpa [aM,Kc.up] using R.c0,by simpa [aM,Kc.up] using R.c1,by simpa [aM,Kc.up] using R.c2,by simpa [aM,Kc.up] using R.c3,by simp[aM],by simpa [aM,Kc.up] using R.c5,R.pa,fun a h=>by simpa [aM] using R.a0 a h,fun a h=>by simpa [aM] using R.a1 a h,fun a h=>by simpa [aM] using R.a2 a h,fun a h=>by simpa [aM] using R.a3 a h⟩
theorem Kr.bx(R:Kr cK cA j pos c K p q)(bx:List Int):Kr cK cA j pos (aM c (.k j 1) (.lst (bx.map U.int))) { K with bx:=bx } p q:=
 ⟨R.pk,by simpa [aM,Kc.up] using R.c0,by simp[aM],by simpa [aM,Kc.up] using R.c2,by simpa [aM,Kc.up] using R.c3,by simpa [aM,Kc.up] using R.c4,by simpa [aM,Kc.up] using R.c5,R.pa,fun a h=>by simpa [aM] using R.a0 a h,fun a h=>by simpa [aM] using R.a1 a h,fun a h=>by simpa [aM] using R.a2 a h,fun a h=>by simpa [aM] using R.a3 a h⟩
theorem Kr.ma(R:Kr cK cA j pos c K p q)(ma:List Int):Kr cK cA j pos (aM c (.k j 2) (.lst (ma.map U.int))) { K with ma:=ma } p q:=
 ⟨R.pk,by simpa [aM,Kc.up] using R.c0,by simpa [aM,Kc.up] using R.c1,by simp[aM],by simpa [aM,Kc.up] using R.c3,by simpa [aM,Kc.up] using R.c4,by simpa [aM,Kc.up] using R.c5,R.pa,fun a h=>by simpa [aM] using R.a0 a h,fun a h=>by simpa [aM] using R.a1 a h,fun a h=>by simpa [aM] using R.a2 a h,fun a h=>by simpa [aM] using R.a3 a h⟩
theorem Kr.ho(R:Kr cK cA j pos c K p q)(ho:List (Int×Int)):Kr cK cA j pos (aM c (.k j 3) (.dic (dI ho))) { K with ho:=ho } p q:=
 ⟨R.pk,by simpa [aM,Kc.up] using R.c0,by simpa [aM,Kc.up] using R.c1,by simpa [aM,Kc.up] using R.c2,by simp[aM],by simpa [aM,Kc.up] using R.c4,by simpa [aM,Kc.up] using R.c5,R.pa,fun a h=>by simpa [aM] using R.a0 a h,fun a h=>by simpa [aM] using R.a1 a h,fun a h=>by simpa [aM] using R.a2 a h,fun a h=>by simpa [aM] using R.a3 a h⟩
theorem Kr.tk(R:Kr cK cA j pos c K p q)(tk:Int):Kr cK cA j pos (aM c (.k j 0) (kO cK p tk)) { K with tk:=tk } p q:=
 ⟨R.pk,by simp[aM],by simpa [aM,Kc.up] using R.c1,by simpa [aM,Kc.up] using R.c2,by simpa [aM,Kc.up] using R.c3,by simpa [aM,Kc.up] using R.c4,by simpa [aM,Kc.up] using R.c5,R.pa,fun a h=>by simpa [aM] using R.a0 a h,fun a h=>by simpa [aM] using R.a1 a h,fun a h=>by simpa [aM] using R.a2 a h,fun a h=>by simpa [aM] using R.a3 a h⟩
theorem Kr.ao(R:Kr cK cA j pos c K p q)(g:Int)(st:Option Int)(op:Bool) :
  Kr cK cA j pos (aM c (.a j a 0) (aO cA (q a) g (stU st) (q a 3) op)) (K.up a { K.A a with g:=g,st:=st,op:=op }) p q:=by
 refine⟨R.pk,by simpa [aM,Kc.up] using R.c0,by simpa [aM,Kc.up] using R.c1,by simpa [aM,Kc.up] using R.c2,by simpa [aM,Kc.up] using R.c3,by simpa [aM,Kc.up] using R.c4,by simpa [aM,Kc.up] using R.c5,R.pa,fun b h=>?_,fun b h=>?_,fun b h=>?_,fun b h=>?_⟩
 ·by_cases e:b=a
  ·subst e;simp[aM,Kc.up]
  ·have:=R.a0 b h;simpa [aM,Kc.up,e] using this
 ·have:=R.a1 b h;by_cases e:b=a
  ·subst e;simpa [aM,Kc.up] using this
  ·simpa [aM,Kc.up,e] using this
 ·have:=R.a2 b h;by_cases e:b=a
  ·subst e;simpa [aM,Kc.up] using this
  ·simpa [aM,Kc.up,e] using this
 ·have:=R.a3 b h;by_cases e:b=a
  ·subst e;simpa [aM,Kc.up] using this
  ·simpa [aM,Kc.up,e] using this
theorem Kr.al(R:Kr cK cA j pos c K p q)(lk:List Int):Kr cK cA j pos (aM c (.a j a 1) (.dic (dT lk))) (K.up a { K.A a with lk:=lk }) p q:=by
 refine⟨R.pk,by simpa [aM,Kc.up] using R.c0,by simpa [aM,Kc.up] using R.c1,by simpa [aM,Kc.up] using R.c2,by simpa [aM,Kc.up] using R.c3,by simpa [aM,Kc.up] using R.c4,by simpa [aM,Kc.up] using R.c5,R.pa,fun b h=>?_,fun b h=>?_,fun b h=>?_,fun b h=>?_⟩
 ·have:=R.a0 b h;by_cases e:b=a
  ·subst e;simpa [aM,Kc.up] using this
  ·simpa [aM,Kc.up,e] using this
 ·have:=R.a1 b h;by_cases e:b=a
  ·subst e;simp[aM,Kc.up]
  ·simpa [aM,Kc.up,e] using this
 ·have:=R.a2 b h;by_cases e:b=a
  ·subst e;simpa [aM,Kc.up] using this
  ·simpa [aM,Kc.up,e] using this
 ·have:=R.a3 b h;by_cases e:b=a
  ·subst e;simpa [aM,Kc.up] using this
  ·simpa [aM,Kc.up,e] using this
theorem Kr.ap(R:Kr cK cA j pos c K p q)(pu:List (Int×Int)):Kr cK cA j pos (aM c (.a j a 2) (.dic (dI pu))) (K.up a { K.A a with pu:=pu }) p q:=by
 refine⟨R.pk,by simpa [aM,Kc.up] using R.c0,by simpa [aM,Kc.up] using R.c1,by simpa [aM,Kc.up] using R.c2,by simpa [aM,Kc.up] using R.c3,by simpa [aM,Kc.up] using R.c4,by simpa [aM,Kc.up] using R.c5,R.pa,fun b h=>?_,fun b h=>?_,fun b h=>?_,fun b h=>?_⟩
 ·have:=R.a0 b h;by_cases e:b=a
  ·subst e;simpa [aM,Kc.up] using this
  ·simpa [aM,Kc.up,e] using this
 ·have:=R.a1 b h;by_cases e:b=a
  ·subst e;simpa [aM,Kc.up] using this
  ·simpa [aM,Kc.up,e] using this
 ·have:=R.a2 b h;by_cases e:b=a
  ·subst e;simp[aM,Kc.up]
  ·simpa [aM,Kc.up,e] using this
 ·have:=R.a3 b h;by_cases e:b=a
  ·subst e;simpa [aM,Kc.up] using this
  ·simpa [aM,Kc.up,e] using this
theorem Kr.au(R:Kr cK cA j pos c K p q)(un:List Int):Kr cK cA j pos (aM c (.a j a 3) (.lst (un.map U.int))) (K.up a { K.A a with un:=un }) p q:=by
 refine⟨R.pk,by simpa [aM,Kc.up] using R.c0,by simpa [aM,Kc.up] using R.c1,by simpa [aM,Kc.up] using R.c2,by simpa [aM,Kc.up] using R.c3,by simpa [aM,Kc.up] using R.c4,by simpa [aM,Kc.up] using R.c5,R.pa,fun b h=>?_,fun b h=>?_,fun b h=>?_,fun b h=>?_⟩
 ·have:=R.a0 b h;by_cases e:b=a
  ·subst e;simpa [aM,Kc.up] using this
  ·simpa [aM,Kc.up,e] using this
 ·have:=R.a1 b h;by_cases e:b=a
  ·subst e;simpa [aM,Kc.up] using this
  ·simpa [aM,Kc.up,e] using this
 ·have:=R.a2 b h;by_cases e:b=a
  ·subst e;simpa [aM,Kc.up] using this
  ·simpa [aM,Kc.up,e] using this
 ·have:=R.a3 b h;by_cases e:b=a
  ·subst e;simp[aM,Kc.up]
  ·simpa [aM,Kc.up,e] using this
end
theorem vv{S:Sto}{ci:CE}{el:CE}{n:Nat}{caps:List Nat}{ρ:Rho}{ld:Nat}{kus:List (Key×U)}{v:Key×U->U}{r:Rho}(hi:ci ρ S=some (.ref ld,S))(hd:S[ld]?=some (.dic kus))(hr:rV 1 caps ρ=none::r)(hl:kus.length<=900)
  (he:∀ep ys,∀p∈kus,el (some (kU p.1)::r) (S.set ld (.fdc ep kus)++[.lst ys])=some (v p,S.set ld (.fdc ep kus)++[.lst ys])) :
  fW ci (gNm 0) el 1 caps ρ S=some (.ref S.length,S++[.lst (kus.map v)]):=by
 have lk:ld<S.length:=(Q9.mp hd).1;unfold fW oe;rw[hi,QZ];simp only[hd];refine nS fun ep=>?_;have ek:∀X:Sto,(S.set ld (.fdc ep kus)++X)[ld]?=some (.fdc ep kus):=fun X=>aT (by rw[Z7,if_pos rfl,if_pos lk]);have key:∀(ks:List (Key×U)) (ys:List U) (r0:Option U),(∀p∈ks,p∈kus)->ys.length+ks.length<=9999->gI (fun S'=>S'[ld]?=some (.fdc ep kus)) (gNm 0) el S.length (ks.map fun p=>kU p.1) (r0::r) (S.set ld (.fdc ep kus)++[.lst ys])=some (S.set ld (.fdc ep kus)++[.lst (ys++ks.map v)]):=by
  intro ks;induction ks with
  |nil=>intro ys r0 _ _;rw[ZY,ZY,ZV];exact kj (ek _)
  |cons p ks ih=>
   intro ys r0 hm hn;rw[QV]at hn;rw[QF,QF];refine(iU (ρ0:=some (kU p.1)::r) (S0:=S.set ld (.fdc ep kus)++[.lst ys]) (S1:=S.set ld (.fdc ep kus)++[.lst ys]) (x:=v p) (ys:=ys) (ek _) rfl (he ep ys p (hm p QU)) ?_ (by unfold LIM;omega)).trans ?_
   ·have:=ga0 (S:=S.set ld (.fdc ep kus)) (X:=[.lst ys]);rw[Qt]at this;rw[this];rfl
   ·have:=gs0 (S:=S.set ld (.fdc ep kus)) (X:=[.lst ys]) (o:=.lst (ys++[v p]));rw[Qt]at this;rw[this];show gI _ _ _ _ _ _ (S.set ld (.fdc ep kus)++[.lst (ys++[v p])])=_;rw[ih (ys++[v p]) _ (fun q hq=>hm q (QX _ hq)) (by simp;omega),Qw];rfl
 rw[hr,key kus [] none (fun p h=>h) (by simp;omega),QZ];have e2:(S.set ld (.fdc ep kus)++[O.lst ([]++kus.map v)]).set ld (.dic kus)=S++[.lst (kus.map v)]:=by
  rw[Zy _ _ (by rw[Qt];exact lk),jO hd,Qs]
 simp only[ek,e2]
section
variable{q:Int->Nat->Nat}{a b:Int}{ids:List Int}{l:List (Int×Int)}{xs:List Int}
theorem bZ:∀{ids:List Int},a∈ids->bq (ids.map fun a=>((.inl a:Key),U.ref (q a 0))) (.inl a)=uR (q a 0)
 |x::r,h=>by
  unfold bq;rw[QF,Ql];by_cases e:x=a
  ·subst e;simp
  ·have hd:decide ((.inl x:Key)=.inl a)=false:=decide_eq_false fun z=>e (Sum.inl.inj z);rw[hd];exact bZ (ids:=r) ((Qq.mp h).resolve_left fun z=>e z.symm)
theorem kE:∀{ids:List Int},a∉ids->bq (ids.map fun a=>((.inl a:Key),U.ref (q a 0))) (.inl a)=none
 |[],_=>rfl
 |x::r,h=>by
  unfold bq;rw[QF,Ql];have hd:decide ((.inl x:Key)=.inl a)=false:=decide_eq_false fun z=>h (by rw[<-Sum.inl.inj z];exact QU);rw[hd];exact kE (ids:=r) fun z=>h (QX _ z)
theorem g9(b:Int):∀(l:List (Int×Int)),bq (dI l) (.inl b)=(bq l b).map U.int
 |[]=>rfl
 |(x,v)::r=>by
  have ih:=g9 b r;unfold bq dI at *;rw[QF,Ql,Ql];by_cases e:x=b
  ·subst e;simp
  ·have hd:decide ((.inl x:Key)=.inl b)=false:=decide_eq_false fun z=>e (Sum.inl.inj z);have hd':decide (x=b)=false:=decide_eq_false e;dsimp only;rw[hd,hd'];exact ih
theorem xU(l:List (Int×Int))(b v:Int):eM (dI l) (.inl b) (.int v)=dI (eM l b v):=AH (κ':=Key) Sum.inl U.int (fun _ _ h=>Sum.inl.inj h) l b v
def Cv(l:List Int)(b:Int):eM (dT l) (.inl b) (.bl true)=dT (rY l b):=AF b l
theorem Fy(l:List (Int×Int))(b:Int):ib (dI l) (.inl b)=dI (ib l b):=by
 unfold ib dI;rw[List.filter_map];congr 1;refine List.filter_congr fun p _=>?_;simp
theorem BV(b0:0<=b)(b1:b<xs.length):atI (xs.map U.int) b=uI (xs.getD b.toNat 0):=by
 have hi:b.toNat<xs.length:=by omega
 have:=kW (xs:=xs.map U.int) (j:=b.toNat) (v:=.int xs[b.toNat]) (by rw[Qr,Q7 hi];rfl);rw[show((b.toNat:Nat):Int)=b from by omega]at this;rw[this,Qv,Q7 hi];rfl
theorem Ju(b0:0<=b)(b1:b<xs.length):ixN (xs.map U.int).length b=some b.toNat:=by
 unfold ixN;rw[if_pos b0,if_pos (by rw[Q8];exact b1)]
end
def brd(K:Kc)(a:Int)(bs:List Int):Bool:=bs.any fun b=>!decide ((bq K.ho b).getD a=a)
def zL(K:Kc)(a:Int):Bool:=(K.A a).lk.any fun b=>decide ((K.A a).g<K.ma.getD b.toNat 0)
def DU(K:Kc)(a b:Int):Bool:=brd K a [b]||(!decide (K.ma.getD b.toNat 0<=(K.A a).g)&&(brd K a (K.A a).lk||zL K a))
structure Kw(K:Kc)(n:Nat):Prop where
 lb:K.bx.length=n
 lm:K.ma.length=n
 few:n<=900
 ids:K.ids.Nodup
 lk:∀a∈K.ids,(K.A a).lk.length<=900/\∀b∈(K.A a).lk,0<=b/\b<n
 pu:∀a∈K.ids,(K.A a).pu.length<64/\((K.A a).pu.map (·.1)).Nodup/\∀e∈(K.A a).pu,0<=e.1/\e.1<n
def Nx(cK cA:Cl)(j:Nat)(pos:Pl->Option Nat)(c:Pl->O)(p:Nat->Nat)(K':Kc)(T':Sto):Prop:=∃pos' c' q',Mm pos' c' T'/\Kr cK cA j pos' c' K' p q'/\Fm j pos c pos' c'
section
variable{cK cA:Cl}{j n:Nat}{pos:Pl->Option Nat}{c:Pl->O}{T:Sto}{K:Kc}{p:Nat->Nat}{q:Int->Nat->Nat}{a b:Int}
def Kc.end(K:Kc)(a:Int)(w:Str):Kc:={ K.up a { K.A a with op:=false } with ev:=K.ev++[.tup [.str w,.int a]] }
def jr(cK cA:Cl):Fn:=fnU 4 3 (fC cK cA)
theorem mJ{w:Str}(M:Mm pos c T)(R:Kr cK cA j pos c K p q)(ha:a∈K.ids)(hl:K.ev.length<=9000):Wp (jr cK cA [.ref (p 0),.int a,.str w] T) fun r=>r.1=.non/\Nx cK cA j pos c p (K.end a w) r.2:=by
 have t0:=M.get (R.pk 0 (by decide)) R.c0;have t5:=M.get (R.pk 5 (by decide)) R.c5;have tr:=M.get (R.pa a ha 0 (by decide)) (R.a0 a ha);have v:=bZ (q:=q) ha;have M1:=M.set (R.pa a ha 0 (by decide)) (aO cA (q a) ((K.A a).g) (stU (K.A a).st) (q a 3) false);have R1:=R.ao (a:=a) (K.A a).g (K.A a).st false;have s0:=M1.get (R1.pk 0 (by decide)) R1.c0;have s4:=M1.get (R1.pk 4 (by decide)) R1.c4;have hL:K.ev.length<LIM:=by unfold LIM;omega
 refine⟨(.non,_),?_,rfl,pos,_,q,M1.set (R1.pk 4 (by decide)) (.lst (K.ev++[.tup [.str w,.int a]])),R1.ev _,(Fm.refl.ua a 0).uk 4⟩;unfold jr;rw[rq];rwa[fC,t0,t5,v,tr,s0,s4,Kc.up,e8 hL]
def kY(cK cA:Cl):Fn:=fnU 2 2 (dB cK cA)
theorem va(M:Mm pos c T)(R:Kr cK cA j pos c K p q)(ha:a∈K.ids)(op:(K.A a).op=true):kY cK cA [.ref (p 0),.int a] T=some (.ref (q a 0),T):=by
 have t0:=M.get (R.pk 0 (by decide)) R.c0;have t5:=M.get (R.pk 5 (by decide)) R.c5;have tr:=M.get (R.pa a ha 0 (by decide)) (R.a0 a ha);have v:=bZ (q:=q) ha;rw[op]at tr;unfold kY;rw[nI];rwa[dB,t0,t5,v,tr,ZU,if_true]
def g7(cK cA:Cl):Fn:=fnU 3 2 (cW (kY cK cA) cK cA)
theorem lS(M:Mm pos c T)(R:Kr cK cA j pos c K p q)(ha:a∈K.ids)(op:(K.A a).op=true)(st:(K.A a).st=none):g7 cK cA [.ref (p 0),.int a] T=some (.ref (q a 0),T):=by
 have t0:=M.get (R.pk 0 (by decide)) R.c0;have tr:=M.get (R.pa a ha 0 (by decide)) (R.a0 a ha);have f:=va M R ha op;rw[st]at tr;unfold g7;rw[lL];rwa[cW,t0,f,tr,stU,JT,yN]
def vz(cK:Cl):CE:=cOp fNe (wK (cD cK 2 (ak 2)) (ak 0) (ak 1)) (ak 1)
theorem zw{S:Sto}{k0 k3:Nat}{fs:List (Option U)}{ho:List (Int×Int)}(h0:S[k0]?=some (.ins cK fs))(hf:fs[2]?=some (uR k3))(h3:S[k3]?=some (.dic (dI ho))):vz cK [uI b,uI a,uR k0] S=some (.bl (!decide ((bq ho b).getD a=a)),S):=by
 have F:FU cK 2 (.ref k0,S)=some (.ref k3,S):=Ca h0 hf;have g:((bq ho b).map U.int).getD (.int a)=.int ((bq ho b).getD a):=by cases bq ho b<;>rfl
 unfold vz;rwa[F,h3,g9,g]
def dH(cK:Cl):Fn:=fnU 3 3 (c7 cK)
theorem any_map{α:Type}{l:Nat}{S:Sto}{xs:List α}{f:α->Bool}(h:S[l]?=some (.lst (xs.map fun x=>U.bl (f x)))):wQ [.ref l] S=some (.bl (xs.any f),S):=by
 have em:(xs.map fun x=>U.bl (f x))=(xs.map f).map U.bl:=by rw[Qu];rfl
 simp only[wQ,h,em,pW,QZ,List.any_map];rfl
theorem FG{lb:Nat}{bs:List Int}(M:Mm pos c T)(R:Kr cK cA j pos c K p q)(hb:T[lb]?=some (.lst (bs.map U.int)))(hl:bs.length<=900):∃X,dH cK [.ref (p 0),.int a,.ref lb] T=some (.bl (brd K a bs),T++X):=by
 have t0:=M.get (R.pk 0 (by decide)) R.c0;have t3:=M.get (R.pk 3 (by decide)) R.c3;have key:=rD (S:=T) (ok:=fun S=>S[lb]?=some (.lst (bs.map U.int))) (gg:=gNm 0) (ce:=vz cK) (f:=U.int) (v:=fun b=>.bl (!decide ((bq K.ho b).getD a=a))) (Rel:=fun ρ=>∃r0,ρ=[r0,uI a,uR (p 0)]) (fun ys G=>aT hb) bs [] [] [none,uI a,uR (p 0)] ⟨_,rfl⟩ (by simp;omega) (fun b hb' ys G ρ hρ=>by
  obtain⟨r0,rfl⟩:=hρ;exact⟨[uI b,uI a,uR (p 0)],⟨_,rfl⟩,rfl,zw (aT t0) rfl (aT t3)⟩)
 simp only[Qs]at key;have hc:gK (iTp (ak 2)) (gNm 0) (vz cK) 1 [1,0] [uR (p 0),uI a,uR lb] T=some (.ref T.length,T++[.lst (bs.map fun b=>.bl (!decide ((bq K.ho b).getD a=a)))]):=by
  have hv:ak 2 [uR (p 0),uI a,uR lb] T=some (.ref lb,T):=rfl;unfold gK iTp;rw[hv,QZ];simp only[hb,QZ,rV,QY,QF,ZY,List.getElem?_cons_zero,ZI,Zq,ZH,Qs,key]
 have he:pS (gK (iTp (ak 2)) (gNm 0) (vz cK) 1 [1,0]) (fW (ak 2) (gNm 0) (vz cK) 1 [1,0]) [uR (p 0),uI a,uR lb] T=some (.ref T.length,T++[.lst (bs.map fun b=>.bl (!decide ((bq K.ho b).getD a=a)))]):=by
  unfold pS;rw[hc]
 have ha:=any_map (S:=T++[.lst (bs.map fun b=>.bl (!decide ((bq K.ho b).getD a=a)))]) (l:=T.length) (xs:=bs) (by rw[ga0];rfl);refine⟨[.lst (bs.map fun b=>.bl (!decide ((bq K.ho b).getD a=a)))],?_⟩;unfold dH;rw[gq];show((c8 (cCB wQ (ah (pS (gK (iTp (ak 2)) (gNm 0) (vz cK) 1 [1,0]) (fW (ak 2) (gNm 0) (vz cK) 1 [1,0])) aN))) _ T).bind kFn=_;rwa[he,ha];rfl
theorem tP{s:Pl}{ld:Nat}{α:Type}{xs:List α}{kf:α->Int}{vf:α->U}(M:Mm pos c T)(R:Kr cK cA j pos c K p q)(hs:pos s=some ld)(hc:c s=.dic (xs.map fun x=>(.inl (kf x),vf x)))(s1:s≠.k j 0)(s2:s≠.k j 3)(hl:xs.length<=900):∃X,dH cK [.ref (p 0),.int a,.ref ld] T=some (.bl (brd K a (xs.map kf)),T++X):=by
 have td:=M.get hs hc;have hcd:=vv (S:=T) (ci:=ak 2) (el:=vz cK) (n:=1) (caps:=[1,0]) (ρ:=[uR (p 0),uI a,uR ld]) (r:=[uI a,uR (p 0)]) (v:=fun e=>match e.1 with|.inl b=>.bl (!decide ((bq K.ho b).getD a=a))|.inr _=>.non) rfl td rfl (by simpa using hl) (fun ep ys e he=>by
  obtain⟨x,hx,rfl⟩:=Qn.mp he;have M1:=M.set hs (.fdc ep (xs.map fun x=>(.inl (kf x),vf x)));have t0:=M1.get (R.pk 0 (by decide)) ((aJ (Ne.symm s1)).trans R.c0);have t3:=M1.get (R.pk 3 (by decide)) ((aJ (Ne.symm s2)).trans R.c3);exact zw (aT t0) rfl (aT t3))
 rw[Qu]at hcd;have he:pS (gK (iTp (ak 2)) (gNm 0) (vz cK) 1 [1,0]) (fW (ak 2) (gNm 0) (vz cK) 1 [1,0]) [uR (p 0),uI a,uR ld] T=some (.ref T.length,T++[.lst (xs.map fun x=>.bl (!decide ((bq K.ho (kf x)).getD a=a)))]):=by
  have h1:gK (iTp (ak 2)) (gNm 0) (vz cK) 1 [1,0] [uR (p 0),uI a,uR ld] T=none:=by
   have hv:ak 2 [uR (p 0),uI a,uR ld] T=some (.ref ld,T):=rfl;unfold gK iTp;rw[hv,QZ];simp only[td];rfl
  unfold pS;rw[h1];exact hcd
 have ha:=any_map (S:=T++[.lst (xs.map fun x=>.bl (!decide ((bq K.ho (kf x)).getD a=a)))]) (l:=T.length) (xs:=xs) (by rw[ga0];rfl);refine⟨[.lst (xs.map fun x=>.bl (!decide ((bq K.ho (kf x)).getD a=a)))],?_⟩;have eb:brd K a (xs.map kf)=xs.any fun x=>!decide ((bq K.ho (kf x)).getD a=a):=by unfold brd;rw[List.any_map];rfl
 rw[eb];unfold dH;rw[gq];show((c8 (cCB wQ (ah (pS (gK (iTp (ak 2)) (gNm 0) (vz cK) 1 [1,0]) (fW (ak 2) (gNm 0) (vz cK) 1 [1,0])) aN))) _ T).bind kFn=_;rwa[he,ha]
def Jx(cK cA:Cl):CE:=cOp fGt (cOp fIx (cD cK 1 (ak 2)) (ak 0)) (cD cA 0 (ak 1))
def rS(cK cA:Cl):Fn:=fnU 3 2 (bF cK cA)
theorem C1(M:Mm pos c T)(R:Kr cK cA j pos c K p q)(W:Kw K n)(ha:a∈K.ids):∃X,rS cK cA [.ref (p 0),.int a] T=some (.bl (zL K a),T++X):=by
 have t0:=M.get (R.pk 0 (by decide)) R.c0;have t5:=M.get (R.pk 5 (by decide)) R.c5;have tr:=M.get (R.pa a ha 0 (by decide)) (R.a0 a ha);have tl:=M.get (R.pa a ha 1 (by decide)) (R.a1 a ha);have v:=bZ (q:=q) ha;obtain⟨l1,l2⟩:=W.lk a ha;have hi:cD cA 1 (ak 2) [uR (p 0),uI a,uR (q a 0)] T=some (.ref (q a 1),T):=by
  rwa[tr]
 have hcd:=vv (S:=T) (ci:=cD cA 1 (ak 2)) (el:=Jx cK cA) (n:=1) (caps:=[2,0]) (ρ:=[uR (p 0),uI a,uR (q a 0)]) (r:=[uR (q a 0),uR (p 0)]) (v:=fun e=>match e.1 with|.inl b=>.bl (decide ((K.A a).g<K.ma.getD b.toNat 0))|.inr _=>.non) hi tl rfl (by unfold dT;simpa using l1) (fun ep ys e he=>by
  obtain⟨b,hb,rfl⟩:=Qn.mp he;obtain⟨b0,b1⟩:=l2 b hb;have M1:=M.set (R.pa a ha 1 (by decide)) (.fdc ep (dT (K.A a).lk));have s0:=aT (r:=[O.lst ys]) (M1.get (R.pk 0 (by decide)) ((aJ (by simp)).trans R.c0));have s2:=aT (r:=[O.lst ys]) (M1.get (R.pk 2 (by decide)) ((aJ (by simp)).trans R.c2));have sr:=aT (r:=[O.lst ys]) (M1.get (R.pa a ha 0 (by decide)) ((aJ (by simp)).trans (R.a0 a ha)));have am:=BV (xs:=K.ma) b0 (by rw[W.lm];exact b1);show Jx cK cA [uI b,uR (q a 0),uR (p 0)] _=_;unfold Jx;rwa[s0,s2,sr,am])
 have em:((dT (K.A a).lk).map fun e=>match e.1 with|.inl b=>U.bl (decide ((K.A a).g<K.ma.getD b.toNat 0))|.inr _=>.non)=(K.A a).lk.map fun b=>U.bl (decide ((K.A a).g<K.ma.getD b.toNat 0)):=by unfold dT;rw[Qu];rfl
 rw[em]at hcd;have hn:=any_map (S:=T++[.lst ((K.A a).lk.map fun b=>U.bl (decide ((K.A a).g<K.ma.getD b.toNat 0)))]) (l:=T.length) (xs:=(K.A a).lk) (by rw[ga0];rfl);refine⟨[.lst ((K.A a).lk.map fun b=>U.bl (decide ((K.A a).g<K.ma.getD b.toNat 0)))],?_⟩;unfold rS;rw[jg];unfold bF;rw[bS (ρ':=[uR (p 0),uI a,uR (q a 0)]) (S':=T) (by rwa[t0,t5,v])];show((c8 (cCB wQ (ah (fW (cD cA 1 (ak 2)) (gNm 0) (Jx cK cA) 1 [2,0]) aN))) _ T).bind kFn=_;rwa[hcd,hn];rfl
def LD(cK cA:Cl):Fn:=fnU 3 3 (a8 (dH cK) (rS cK cA) cK cA)
theorem KD(M:Mm pos c T)(R:Kr cK cA j pos c K p q)(W:Kw K n)(ha:a∈K.ids)(b0:0<=b)(b1:b<n):∃X,LD cK cA [.ref (p 0),.int a,.int b] T=some (.bl (DU K a b),T++X):=by
 have t0:=M.get (R.pk 0 (by decide)) R.c0;have t2:=M.get (R.pk 2 (by decide)) R.c2;have t5:=M.get (R.pk 5 (by decide)) R.c5;have tr:=M.get (R.pa a ha 0 (by decide)) (R.a0 a ha);have v:=bZ (q:=q) ha;have am:=BV (xs:=K.ma) b0 (by rw[W.lm];exact b1);have g0:∀Y,(T++Y)[p 0]?=_:=fun Y=>aT t0;have g2:∀Y,(T++Y)[p 2]?=_:=fun Y=>aT t2;have g5:∀Y,(T++Y)[p 5]?=_:=fun Y=>aT t5;have gr:∀Y,(T++Y)[q a 0]?=_:=fun Y=>aT tr;obtain⟨X1,e1⟩:=FG (a:=a) (lb:=T.length) (bs:=[b]) (M.app [.lst [.int b]]) R (by rw[ga0];rfl) (by simp);rw[Qw]at e1;have M1:=M.app ([.lst [.int b]]++X1);obtain⟨X2,e2⟩:=tP (a:=a) (xs:=(K.A a).lk) (kf:=fun b=>b) (vf:=fun _=>.bl true) M1 R (R.pa a ha 1 (by decide)) (R.a1 a ha) (by simp) (by simp) (W.lk a ha).1;obtain⟨X3,e3⟩:=C1 (M1.app X2) R W ha;rw[List.map_id']at e2;simp only[Qw,ZH,Qs]at e1 e2 e3;unfold LD DU;rw[jE];cases h1:brd K a [b]with
 |true=>
  rw[h1]at e1;exact⟨.lst [.int b]::X1,by rwa[a8,t0,e1,Bool.true_or]⟩
 |false=>
  rw[h1]at e1;cases h2:decide (K.ma.getD b.toNat 0<=(K.A a).g)with
  |true=>exact⟨.lst [.int b]::X1,by rwa[a8,t0,e1,g0,g2,g5,v,gr,am,h2,Zw,Bool.false_and,Bool.or_false]⟩
  |false=>
   cases h3:brd K a (K.A a).lk with
   |true=>
    rw[h3]at e2;exact⟨.lst [.int b]::(X1++X2),by rwa[a8,t0,e1,g0,g2,g5,v,gr,am,h2,e2,Bool.not_false,Bool.true_and,Bool.true_or,Ze]⟩
   |false=>
    rw[h3]at e2;exact⟨.lst [.int b]::(X1++(X2++X3)),by rwa[a8,t0,e1,g0,g2,g5,v,gr,am,h2,e2,e3,Bool.not_false,Bool.true_and,Ze]⟩
def Kc.anew(K:Kc)(a b:Int):Kc:=K.up a { K.A a with g:=if (K.A a).g<K.ma.getD b.toNat 0 then K.tk else(K.A a).g,lk:=rY (K.A a).lk b }
def Kc.say(K:Kc)(e:U):Kc:={ K with ev:=K.ev++[e] }
theorem up2{v w:Ac}:(K.up a v).up a w=K.up a w:=by
 unfold Kc.up;congr 1;funext x;by_cases h:x=a<;>simp[h]
def gC{v:Ac}:(K.up a v).A a=v:=if_pos rfl
def zH(cK cA:Cl):Fn:=fnU 3 3 (bD cK cA)
theorem FJ(M:Mm pos c T)(R:Kr cK cA j pos c K p q)(W:Kw K n)(ha:a∈K.ids)(b0:0<=b)(b1:b<n):Wp (zH cK cA [.ref (p 0),.ref (q a 0),.int b] T) fun r=>r.1=.int (K.bx.getD b.toNat 0)/\∃c',Mm pos c' r.2/\Kr cK cA j pos c' (K.anew a b) p q/\Fm j pos c pos c':=by
 have t0:=M.get (R.pk 0 (by decide)) R.c0;have t1:=M.get (R.pk 1 (by decide)) R.c1;have t2:=M.get (R.pk 2 (by decide)) R.c2;have tr:=M.get (R.pa a ha 0 (by decide)) (R.a0 a ha);have tl:=M.get (R.pa a ha 1 (by decide)) (R.a1 a ha);have am:=BV (xs:=K.ma) b0 (by rw[W.lm];exact b1);have ab:=BV (xs:=K.bx) b0 (by rw[W.lb];exact b1);have hL:(dT (K.A a).lk).length<LIM:=by unfold LIM dT;rw[Q8];have:=(W.lk a ha).1;omega
 unfold zH Kc.anew;rw[ki];by_cases h:(K.A a).g<K.ma.getD b.toNat 0
 ·have hd:decide ((K.A a).g<K.ma.getD b.toNat 0)=true:=decide_eq_true h;rw[if_pos h];have M1:=M.set (R.pa a ha 0 (by decide)) (aO cA (q a) K.tk (stU (K.A a).st) (q a 3) ((K.A a).op));have R1:=R.ao (a:=a) K.tk (K.A a).st (K.A a).op;have s0:=M1.get (R1.pk 0 (by decide)) R1.c0;have sr:=M1.get (R1.pa a ha 0 (by decide)) (R1.a0 a ha);have sl:=M1.get (R1.pa a ha 1 (by decide)) (R1.a1 a ha);rw[gC]at sr sl;have M2:=M1.set (R1.pa a ha 1 (by decide)) (.dic (dT (rY (K.A a).lk b)));have R2:=R1.al (a:=a) (rY (K.A a).lk b);have w0:=M2.get (R2.pk 0 (by decide)) R2.c0;have w1:=M2.get (R2.pk 1 (by decide)) R2.c1;rw[gC,up2]at R2;refine⟨(_,_),?_,rfl,_,M2,R2,(Fm.refl.ua a 0).ua a 1⟩;rwa[bD,t0,t2,am,tr,hd,s0,sr,sl,hL,if_true,Cv,w0,w1,Kc.up,ab]
 ·have hd:decide ((K.A a).g<K.ma.getD b.toNat 0)=false:=decide_eq_false h;rw[if_neg h];have M2:=M.set (R.pa a ha 1 (by decide)) (.dic (dT (rY (K.A a).lk b)));have R2:=R.al (a:=a) (rY (K.A a).lk b);have w0:=M2.get (R2.pk 0 (by decide)) R2.c0;have w1:=M2.get (R2.pk 1 (by decide)) R2.c1;refine⟨(_,_),?_,rfl,_,M2,R2,Fm.refl.ua a 1⟩;rwa[bD,t0,t2,am,tr,hd,tl,hL,if_true,Cv,w0,w1,Kc.up,ab]
def je(K:Kc)(a b:Int):U×Kc:=match bq (K.A a).pu b with
 |some v=>(.tup [.str "number",.int v],K.say (.tup [.str "look",.int a,.int b,.int v]))
 |none=>if DU K a b=true then(.tup [.str "falls"],K.end a "fall")else(.tup [.str "number",.int (K.bx.getD b.toNat 0)],(K.anew a b).say (.tup [.str "look",.int a,.int b,.int (K.bx.getD b.toNat 0)]))
def zF(cK cA:Cl):Fn:=fnU 5 3 (cS (g7 cK cA) (LD cK cA) (jr cK cA) (zH cK cA) cK cA)
theorem E3(M:Mm pos c T)(R:Kr cK cA j pos c K p q)(W:Kw K n)(ha:a∈K.ids)(op:(K.A a).op=true)(st:(K.A a).st=none)(b0:0<=b)(b1:b<n)(hl:K.ev.length<=9000):Wp (zF cK cA [.ref (p 0),.int a,.int b] T) fun r=>r.1=(je K a b).1/\Nx cK cA j pos c p (je K a b).2 r.2:=by
 have t0:=M.get (R.pk 0 (by decide)) R.c0;have t4:=M.get (R.pk 4 (by decide)) R.c4;have tr:=M.get (R.pa a ha 0 (by decide)) (R.a0 a ha);have tp:=M.get (R.pa a ha 2 (by decide)) (R.a2 a ha);have u:=lS M R ha op st;have hL:K.ev.length<LIM:=by unfold LIM;omega
 unfold zF je;rw[pH];cases hv:bq (K.A a).pu b with
 |some v=>
  refine⟨(_,_),?_,rfl,pos,_,q,M.set (R.pk 4 (by decide)) (.lst (K.ev++[.tup [.str "look",.int a,.int b,.int v]])),R.ev _,Fm.refl.uk 4⟩;rwa[cS,t0,u,tr,tp,g9,hv,ZF,ZU,Qh,if_false,t4,e8 hL]
 |none=>
  obtain⟨X,e1⟩:=KD M R W ha b0 b1;have M1:=M.app X;have g0:=M1.get (R.pk 0 (by decide)) R.c0;dsimp only;cases hw:DU K a b with
  |true=>
   rw[hw]at e1;rw[if_pos rfl];obtain⟨⟨u1,T1⟩,e2,rfl,pos',c',q',M2,R2,F2⟩:=mJ (w:="fall") M1 R ha hl;refine⟨(_,_),?_,rfl,pos',c',q',M2,R2,F2⟩;rwa[cS,t0,u,tr,tp,g9,hv,Option.map_none,Option.isSome_none,Qh,if_false,e1,g0,e2]
  |false=>
   rw[hw]at e1;rw[if_neg Q6];obtain⟨⟨u1,T1⟩,e2,rfl,c',M2,R2,F2⟩:=FJ M1 R W ha b0 b1;have s0:=M2.get (R2.pk 0 (by decide)) R2.c0;have s4:=M2.get (R2.pk 4 (by decide)) R2.c4;refine⟨(_,_),?_,rfl,pos,_,q,M2.set (R2.pk 4 (by decide)) (.lst (K.ev++[.tup [.str "look",.int a,.int b,.int (K.bx.getD b.toNat 0)]])),R2.ev _,F2.uk 4⟩;rwa[cS,t0,u,tr,tp,g9,hv,Option.map_none,Option.isSome_none,Qh,if_false,e1,g0,e2,s0,s4,Kc.anew,Kc.up,e8 hL]
def Jr(K:Kc)(a b v:Int):Kc:=(K.up a { K.A a with pu:=eM (K.A a).pu b v }).say (.tup [.str "put",.int a,.int b,.int v])
def zG(cK cA:Cl):Fn:=fnU 5 4 (fz (g7 cK cA) cK cA)
theorem E9{v:Int}(M:Mm pos c T)(R:Kr cK cA j pos c K p q)(W:Kw K n)(ha:a∈K.ids)(op:(K.A a).op=true)(st:(K.A a).st=none)(hl:K.ev.length<=9000):Wp (zG cK cA [.ref (p 0),.int a,.int b,.int v] T) fun r=>r.1=.non/\Nx cK cA j pos c p (Jr K a b v) r.2:=by
 have t0:=M.get (R.pk 0 (by decide)) R.c0;have tr:=M.get (R.pa a ha 0 (by decide)) (R.a0 a ha);have tp:=M.get (R.pa a ha 2 (by decide)) (R.a2 a ha);have u:=lS M R ha op st;have hL:K.ev.length<LIM:=by unfold LIM;omega
 have hP:(dI (K.A a).pu).length<LIM:=by unfold LIM dI;rw[Q8];have:=(W.pu a ha).1;omega
 have M1:=M.set (R.pa a ha 2 (by decide)) (.dic (dI (eM (K.A a).pu b v)));have R1:=R.ap (a:=a) (eM (K.A a).pu b v);have s0:=M1.get (R1.pk 0 (by decide)) R1.c0;have s4:=M1.get (R1.pk 4 (by decide)) R1.c4;refine⟨(_,_),?_,rfl,pos,_,q,M1.set (R1.pk 4 (by decide)) (.lst (K.ev++[.tup [.str "put",.int a,.int b,.int v]])),R1.ev _,(Fm.refl.ua a 2).uk 4⟩;unfold zG;rw[rm];rwa[fz,t0,u,tr,tp,hP,if_true,xU,s0,s4,Kc.up,e8 hL]
end
theorem sR:∀l:List (Int×Int),oW (dI l)=some (l.map (·.1))
 |[]=>rfl
 |e::r=>by
  show(oW (dI r)).map (e.1::·)=_;rw[sR r];rfl
theorem uf{l:List (Int×Int)}{b d:Int}(h:d≠b):bq (ib l b) d=bq l d:=by
 unfold bq ib;induction l with
 |nil=>rfl
 |cons e r ih=>
  rw[List.filter_cons];by_cases z:e.1=b
  ·rw[if_neg (by simpa using z),Ql,show decide (e.1=d)=false from decide_eq_false (by rw[z];exact Ne.symm h)];exact ih
  ·rw[if_pos (by simpa using z),Ql,Ql];cases decide (e.1=d)
   ·exact ih
   ·rfl
section
variable{cK cA:Cl}{j:Nat}{pos:Pl->Option Nat}{c:Pl->O}{T:Sto}{K:Kc}{p:Nat->Nat}{q:Int->Nat->Nat}{a:Int}
def p6(cA:Cl):Fn:=fnU 2 2 (dE cA)
theorem Bi{S:Sto}{tk:Int}(hns:cA.ns.length=6):pD cA (p6 cA) [.int tk] S=some (.ref S.length,S++[.ins cA [uI tk,some (.ref (S.length+1)),some (.ref (S.length+2)),some .non,some (.ref (S.length+3)),some (.bl true)],.dic [],.dic [],.lst []]):=by
 rw[B6,hns];unfold p6;rw[nL];have l1:∀o:O,(S++[o]).length=S.length+1:=fun o=>by rw[QC];rfl
 have l2:∀o o':O,(S++[o,o']).length=S.length+2:=fun o o'=>by rw[QC];rfl
 have l3:∀o o' o2:O,(S++[o,o',o2]).length=S.length+3:=fun o o' o2=>by rw[QC];rfl
 rwa[dE,QY,l1,l2,l3]
def a0(g:Int):Ac:=⟨g,[],[],none,[],true⟩
def dR(K:Kc)(a:Int):Kc:={ K with ids:=K.ids++[a],A:=fun x=>if x=a then a0 K.tk else K.A x,ev:=K.ev++[.tup [.str "begin",.int a]] }
def tZ(cK cA:Cl):Fn:=fnU 2 2 (dD (p6 cA) cK cA)
theorem BU(hns:cA.ns.length=6)(M:Mm pos c T)(R:Kr cK cA j pos c K p q)(ha:a∉K.ids)(hi:K.ids.length<=9000)(hl:K.ev.length<=9000):Wp (tZ cK cA [.ref (p 0),.int a] T) fun r=>r.1=.non/\Nx cK cA j pos c p (dR K a) r.2:=by
 have t0:=M.get (R.pk 0 (by decide)) R.c0;have t5:=M.get (R.pk 5 (by decide)) R.c5;have v:=kE (q:=q) ha;have mk:=Bi (cA:=cA) (S:=T) (tk:=K.tk) hns;generalize ho0:O.ins cA [uI K.tk,uR (T.length+1),uR (T.length+2),some .non,uR (T.length+3),some (.bl true)]=o0 at mk;have N1:=M.new (.a j a 0) o0 [];have N2:=N1.new (.a j a 1) (.dic []) [];have N3:=N2.new (.a j a 2) (.dic []) [];have N4:=N3.new (.a j a 3) (.lst []) [];have z1:(T++[o0]).length=T.length+1:=by simp
 have z2:(T++[o0]++[O.dic []]).length=T.length+2:=by simp
 have z3:(T++[o0]++[O.dic []]++[O.dic []]).length=T.length+3:=by simp
 rw[z1,z2,z3]at N4;have eT:T++[o0]++[O.dic []]++[O.dic []]++[O.lst []]=T++[o0,.dic [],.dic [],.lst []]:=by simp
 rw[eT]at N4;generalize hpos:eK (eK (eK (eK pos (.a j a 0) T.length) (.a j a 1) (T.length+1)) (.a j a 2) (T.length+2)) (.a j a 3) (T.length+3)=pos4 at N4;generalize hcc:aM (aM (aM (aM c (.a j a 0) o0) (.a j a 1) (.dic [])) (.a j a 2) (.dic [])) (.a j a 3) (.lst [])=c4 at N4;have pk:∀f,pos4 (.k j f)=pos (.k j f):=fun f=>by rw[<-hpos];simp[eK]
 have pb:∀x,x≠a->∀f,pos4 (.a j x f)=pos (.a j x f):=fun x hx f=>by rw[<-hpos];simp[eK,hx]
 have ck:∀f,c4 (.k j f)=c (.k j f):=fun f=>by rw[<-hcc];simp[aM]
 have cb:∀x,x≠a->∀f,c4 (.a j x f)=c (.a j x f):=fun x hx f=>by rw[<-hcc];simp[aM,hx]
 have ne:∀x∈K.ids,x≠a:=fun x hx e=>ha (by rw[<-e];exact hx);have N5:=N4.set (s:=.k j 5) (p:=p 5) (by rw[pk];exact R.pk 5 (by decide)) (.dic (eM (K.ids.map fun a=>((.inl a:Key),U.ref (q a 0))) (.inl a) (.ref T.length)));have N6:=N5.set (s:=.k j 4) (p:=p 4) (by rw[pk];exact R.pk 4 (by decide)) (.lst (K.ev++[.tup [.str "begin",.int a]]));have ep:eM (K.ids.map fun a=>((.inl a:Key),U.ref (q a 0))) (.inl a) (.ref T.length)=K.ids.map (fun a=>((.inl a:Key),U.ref (q a 0)))++[(.inl a,.ref T.length)]:=uE fun h=>by
  rw[Qu]at h;obtain⟨x,hx,e⟩:=Qn.mp h;exact ne x hx (Sum.inl.inj e)
 have s0:=N4.get (s:=.k j 0) (p:=p 0) (by rw[pk];exact R.pk 0 (by decide)) ((ck 0).trans R.c0);have s5:=N4.get (s:=.k j 5) (p:=p 5) (by rw[pk];exact R.pk 5 (by decide)) ((ck 5).trans R.c5);have w0:=N5.get (s:=.k j 0) (p:=p 0) (by rw[pk];exact R.pk 0 (by decide)) (((aJ (by simp)).trans (ck 0)).trans R.c0);have w4:=N5.get (s:=.k j 4) (p:=p 4) (by rw[pk];exact R.pk 4 (by decide)) (((aJ (by simp)).trans (ck 4)).trans R.c4);have hL:K.ev.length<LIM:=by unfold LIM;omega
 have hK:(K.ids.map fun a=>((.inl a:Key),U.ref (q a 0))).length<LIM:=by unfold LIM;rw[Q8];omega
 refine⟨(.non,_),?_,rfl,pos4,_,fun x f=>if x=a then T.length+f else q x f,N6,⟨fun f hf=>by rw[pk];exact R.pk f hf,?_,?_,?_,?_,?_,?_,fun x hx f hf=>?_,fun x hx=>?_,fun x hx=>?_,fun x hx=>?_,fun x hx=>?_⟩,fun s hs=>?_⟩
 ·unfold tZ;rw[nK];rwa[dD,t0,t5,v,Option.isSome_none,Qh,if_false,mk,s0,s5,hK,if_true,w0,w4,e8 hL]
 ·rw[aJ (by simp),aJ (by simp),ck];exact R.c0
 ·rw[aJ (by simp),aJ (by simp),ck];exact R.c1
 ·rw[aJ (by simp),aJ (by simp),ck];exact R.c2
 ·rw[aJ (by simp),aJ (by simp),ck];exact R.c3
 ·rw[bQ];rfl
 ·rw[aJ (by simp),bQ,ep];show _=O.dic ((K.ids++[a]).map _);rw[Zg];congr 2
  ·exact ZX fun x hx=>by rw[if_neg (ne x hx)]
  ·simp
 ·rcases Qe.mp hx with hx|hx
  ·rw[pb x (ne x hx),if_neg (ne x hx)];exact R.pa x hx f hf
  ·rw[Qy.mp hx,if_pos rfl,<-hpos];match f,hf with
   |0,_=>simp[eK]
   |1,_=>simp[eK]
   |2,_=>simp[eK]
   |3,_=>simp[eK]
 ·rw[aJ (by simp),aJ (by simp)];rcases Qe.mp hx with hx|hx
  ·have:=R.a0 x hx;rw[cb x (ne x hx)];simpa [dR,ne x hx] using this
  ·rw[Qy.mp hx,<-hcc];simp[aM,dR,a0,stU,<-ho0]
 ·rw[aJ (by simp),aJ (by simp)];rcases Qe.mp hx with hx|hx
  ·have:=R.a1 x hx;rw[cb x (ne x hx)];simpa [dR,ne x hx] using this
  ·rw[Qy.mp hx,<-hcc];simp[aM,dR,a0,dT]
 ·rw[aJ (by simp),aJ (by simp)];rcases Qe.mp hx with hx|hx
  ·have:=R.a2 x hx;rw[cb x (ne x hx)];simpa [dR,ne x hx] using this
  ·rw[Qy.mp hx,<-hcc];simp[aM,dR,a0,dI]
 ·rw[aJ (by simp),aJ (by simp)];rcases Qe.mp hx with hx|hx
  ·have:=R.a3 x hx;rw[cb x (ne x hx)];simpa [dR,ne x hx] using this
  ·rw[Qy.mp hx,<-hcc];simp[aM,dR,a0]
 ·rw[<-hpos,<-hcc];cases s with
  |k i f=>have:i≠j:=hs;simp[eK,aM,this]
  |a i x f=>have:i≠j:=hs;simp[eK,aM,this]
  |x m i=>simp[eK,aM]
end
theorem uF{κ α:Type}[DecidableEq κ](l:List (κ×α))(k:κ)(v:α):(eM l k v).length<=l.length+1:=by
 unfold eM;split
 ·rw[Q8];omega
 ·simp
def wt(a:Int)(bs:List Int)(ho:List (Int×Int)):List (Int×Int):=bs.foldl (fun h b=>eM h b a) ho
def dW(bs:List Int)(ho:List (Int×Int)):List (Int×Int):=bs.foldl (fun h b=>ib h b) ho
section
variable{cK cA:Cl}{j n:Nat}{pos:Pl->Option Nat}{c:Pl->O}{T:Sto}{K:Kc}{p:Nat->Nat}{q:Int->Nat->Nat}{a b:Int}
def tX(cK cA:Cl):Fn:=fnU 4 2 (eD (g7 cK cA) (jr cK cA) (dH cK) (rS cK cA) cK cA)
def tkB(cK cA:Cl):CS:=eJ (g7 cK cA) (jr cK cA) (dH cK) (rS cK cA) cK cA
theorem qL(ha:a∈K.ids){r2:Option U}:∀(bs:List Int) (ho:List (Int×Int)) (c:Pl->O) (T:Sto) (r3:Option U),Mm pos c T->Kr cK cA j pos c { K with ho:=ho } p q->ho.length+bs.length<=90000->
  ∃r3' c' T',dX (fun S=>S[q a 3]?=some (.lst ((K.A a).un.map U.int))) (gNm 3) (tkB cK cA) (bs.map U.int) [uR (p 0),uI a,r2,r3] T=some (.nx,[uR (p 0),uI a,r2,r3'],T')/\Mm pos c' T'/\Kr cK cA j pos c' { K with ho:=wt a bs ho } p q/\Fm j pos c pos c'
 |[],ho,c,T,r3,M,R,_=>⟨r3,c,T,gi (M.get (R.pa a ha 3 (by decide)) (R.a3 a ha)),M,R,Fm.refl⟩
 |b::bs,ho,c,T,r3,M,R,hn=>by
  rw[QV]at hn;have t0:=M.get (R.pk 0 (by decide)) R.c0;have t3:=M.get (R.pk 3 (by decide)) R.c3;have hL:(dI ho).length<LIM:=by unfold LIM dI;rw[Q8];omega
  have M1:=M.set (R.pk 3 (by decide)) (.dic (dI (eM ho b a)));have R1:=R.ho (eM ho b a);have:=uF ho b a;obtain⟨r3',c',T',e,M2,R2,F2⟩:=qL ha bs (eM ho b a) _ _ (uI b) M1 R1 (by omega);refine⟨r3',c',T',(gX (M.get (R.pa a ha 3 (by decide)) (R.a3 a ha)) rfl ?_).trans e,M2,R2,(Fm.refl.uk 3).trans F2⟩;rwa[tkB,eJ,t0,t3,hL,if_true,xU]
def jd(K:Kc)(a:Int):Str×Kc:=
 if (K.A a).pu=[]then("done",K.end a "done")else
 if (brd K a (K.A a).lk||(brd K a ((K.A a).pu.map (·.1))||zL K a))=true then("falls",K.end a "fall")else
 ("taken",{ K.up a { K.A a with st:=some (K.tk+1),un:=c9 ((K.A a).pu.map (·.1)) } with tk:=K.tk+1,ho:=wt a (c9 ((K.A a).pu.map (·.1))) K.ho })
theorem Bp(M:Mm pos c T)(R:Kr cK cA j pos c K p q)(W:Kw K n)(ha:a∈K.ids)(op:(K.A a).op=true)(st:(K.A a).st=none)(hl:K.ev.length<=9000)(hh:K.ho.length<=80000):Wp (tX cK cA [.ref (p 0),.int a] T) fun r=>r.1=.str (jd K a).1/\Nx cK cA j pos c p (jd K a).2 r.2:=by
 have t0:=M.get (R.pk 0 (by decide)) R.c0;have tr:=M.get (R.pa a ha 0 (by decide)) (R.a0 a ha);have tp:=M.get (R.pa a ha 2 (by decide)) (R.a2 a ha);have u:=lS M R ha op st;have pl:=(W.pu a ha).1;have ln:(dI (K.A a).pu).length=(K.A a).pu.length:=by unfold dI;rw[Q8]
 rw[st]at tr;have h1:∀{d:CS},a9 (eL 2 (bJ cK (g7 cK cA) (ak 0) (ah (ak 1) aN))) d [uR (p 0),uI a,none,none] T=d [uR (p 0),uI a,uR (q a 0),none] T:=fun{d}=>bS (by rwa[t0,u]);unfold tX jd;rw[pF];unfold eD;rw[h1];by_cases hp:(K.A a).pu=[]
 ·rw[if_pos hp];obtain⟨⟨u1,T1⟩,e2,rfl,N⟩:=mJ (w:="done") M R ha hl;refine⟨(_,_),?_,rfl,N⟩;have z:decide ((((dI (K.A a).pu).length:Nat):Int)=0)=true:=by rw[ln,hp];rfl
  rwa[tr,tp,z,t0,e2]
 ·rw[if_neg hp];have z:decide ((((dI (K.A a).pu).length:Nat):Int)=0)=false:=decide_eq_false (by rw[ln];have:=List.length_pos_iff.mpr hp;omega);rw[bS (ρ':=[uR (p 0),uI a,uR (q a 0),none]) (S':=T) (by rwa[tr,tp,z])];obtain⟨X1,e1⟩:=tP (a:=a) (xs:=(K.A a).lk) (kf:=fun b=>b) (vf:=fun _=>.bl true) M R (R.pa a ha 1 (by decide)) (R.a1 a ha) (by simp) (by simp) (W.lk a ha).1;rw[List.map_id']at e1;obtain⟨X2,e2⟩:=tP (a:=a) (xs:=(K.A a).pu) (kf:=fun e=>e.1) (vf:=fun e=>.int e.2) (M.app X1) R (R.pa a ha 2 (by decide)) (R.a2 a ha) (by simp) (by simp) (by omega);obtain⟨X3,e3⟩:=C1 ((M.app X1).app X2) R W ha;simp only[Qw]at e2 e3;have g0:∀Y,(T++Y)[p 0]?=_:=fun Y=>aT t0;have gr:∀Y,(T++Y)[q a 0]?=_:=fun Y=>aT tr;have tst:∃Y,(cOr (aU (bJ cK (dH cK) (ak 0) (ah (ak 1) (ah (cD cA 1 (ak 2)) aN)))) (cOr (aU (bJ cK (dH cK) (ak 0) (ah (ak 1) (ah (cD cA 2 (ak 2)) aN)))) (aU (bJ cK (rS cK cA) (ak 0) (ah (ak 1) aN))))) [uR (p 0),uI a,uR (q a 0),none] T=some ((brd K a (K.A a).lk||(brd K a ((K.A a).pu.map (·.1))||zL K a)),T++Y):=by
   cases b1:brd K a (K.A a).lk with
   |true=>rw[b1]at e1;exact⟨X1,by rwa[t0,tr,e1,Bool.true_or]⟩
   |false=>
    rw[b1]at e1;cases b2:brd K a ((K.A a).pu.map (·.1))with
    |true=>rw[b2]at e2;exact⟨X1++X2,by rwa[t0,tr,e1,g0,gr,e2,Ze,Bool.true_or]⟩
    |false=>rw[b2]at e2;exact⟨X1++(X2++X3),by rwa[t0,tr,e1,g0,gr,e2,e3,Ze]⟩
  obtain⟨Y,et⟩:=tst;have M1:=M.app Y;have s0:=M1.get (R.pk 0 (by decide)) R.c0;cases hb:(brd K a (K.A a).lk||(brd K a ((K.A a).pu.map (·.1))||zL K a))with
  |true=>
   rw[if_pos rfl];rw[hb]at et;obtain⟨⟨u1,T1⟩,e4,rfl,N⟩:=mJ (w:="fall") M1 R ha hl;refine⟨(_,_),?_,rfl,N⟩;have ei:∀{c1 c2:CS},eW (cOr (aU (bJ cK (dH cK) (ak 0) (ah (ak 1) (ah (cD cA 1 (ak 2)) aN)))) (cOr (aU (bJ cK (dH cK) (ak 0) (ah (ak 1) (ah (cD cA 2 (ak 2)) aN)))) (aU (bJ cK (rS cK cA) (ak 0) (ah (ak 1) aN))))) c1 c2 [uR (p 0),uI a,uR (q a 0),none] T=c1 [uR (p 0),uI a,uR (q a 0),none] (T++Y):=fun{c1 c2}=>by rw[kB,et];rfl
   rw[qb,ei];rwa[s0,e4]
  |false=>
   rw[if_neg Q6];rw[hb]at et;rw[bS (ρ':=[uR (p 0),uI a,uR (q a 0),none]) (S':=T++Y) (by rw[kB,et];rfl)];have M2:=M1.set (R.pk 0 (by decide)) (kO cK p (K.tk+1));have R2:=R.tk (K.tk+1);have s1:=M2.get (R2.pk 0 (by decide)) R2.c0;have s2:=M2.get (R2.pa a ha 0 (by decide)) (R2.a0 a ha);have M3:=M2.set (R2.pa a ha 0 (by decide)) (aO cA (q a) ((K.A a).g) (stU (some (K.tk+1))) (q a 3) ((K.A a).op));have R3:=R2.ao (a:=a) (K.A a).g (some (K.tk+1)) (K.A a).op;have w2:=M3.get (R3.pa a ha 0 (by decide)) (R3.a0 a ha);have wp:=M3.get (R3.pa a ha 2 (by decide)) (R3.a2 a ha);rw[gC]at w2 wp;generalize hT3:((T++Y).set (p 0) (kO cK p (K.tk+1))).set (q a 0) (aO cA (q a) ((K.A a).g) (stU (some (K.tk+1))) (q a 3) ((K.A a).op))=T3 at M3 w2 wp;have st':stU (K.A a).st=.non:=by rw[st];rfl
   rw[bS (ρ':=[uR (p 0),uI a,uR (q a 0),none]) (S':=(T++Y).set (p 0) (kO cK p (K.tk+1))) (by rwa[s0])];rw[bS (ρ':=[uR (p 0),uI a,uR (q a 0),none]) (S':=T3) (by rw[<-hT3];rwa[s1,s2,stU])];have es:iT [.ref (q a 2)] T3=some (.ref T3.length,T3++[.lst ((c9 ((K.A a).pu.map (·.1))).map U.int)]):=by
    have hlt:((K.A a).pu.map (·.1)).length<64:=by rw[Q8];exact pl
    simp only[iT,wp,sR,QZ,hlt,if_true]
   have M4:=M3.new (.a j a 3) (.lst ((c9 ((K.A a).pu.map (·.1))).map U.int)) [];have R4:Kr cK cA j (eK pos (.a j a 3) T3.length) (aM (aM (aM c (.k j 0) (kO cK p (K.tk+1))) (.a j a 3) (.lst ((c9 ((K.A a).pu.map (·.1))).map U.int))) (.a j a 0) (aO cA (q a) ((K.A a).g) (stU (some (K.tk+1))) T3.length ((K.A a).op))) { K.up a { K.A a with st:=some (K.tk+1),un:=c9 ((K.A a).pu.map (·.1)) } with tk:=K.tk+1 } p (fun x f=>if x=a/\f=3 then T3.length else q x f):=by
    refine⟨fun f hf=>by simpa [eK] using R.pk f hf,by simp[aM,Kc.up],by simpa [aM,Kc.up] using R.c1,by simpa [aM,Kc.up] using R.c2,by simpa [aM,Kc.up] using R.c3,by simpa [aM,Kc.up] using R.c4,by simpa [aM,Kc.up] using R.c5,fun x hx f hf=>?_,fun x hx=>?_,fun x hx=>?_,fun x hx=>?_,fun x hx=>?_⟩
    ·by_cases e:x=a/\f=3
     ·obtain⟨rfl,rfl⟩:=e;simp[eK]
     ·have:=R.pa x hx f hf;rw[fS (fun z=>by cases z;exact e ⟨rfl,rfl⟩),if_neg e];exact this
    ·by_cases e:x=a
     ·subst e;simp[aM,Kc.up]
     ·have:=R.a0 x hx;simpa [aM,Kc.up,e] using this
    ·have:=R.a1 x hx;by_cases e:x=a
     ·subst e;simpa [aM,Kc.up] using this
     ·simpa [aM,Kc.up,e] using this
    ·have:=R.a2 x hx;by_cases e:x=a
     ·subst e;simpa [aM,Kc.up] using this
     ·simpa [aM,Kc.up,e] using this
    ·have:=R.a3 x hx;by_cases e:x=a
     ·subst e;simp[aM,Kc.up]
     ·simpa [aM,Kc.up,e] using this
   have w4:=M4.get (s:=.a j a 0) (p:=q a 0) (by rw[fS (by simp)];exact R.pa a ha 0 (by decide)) ((aJ (by simp)).trans bQ);have M5:=M4.set (s:=.a j a 0) (p:=q a 0) (by rw[fS (by simp)];exact R.pa a ha 0 (by decide)) (aO cA (q a) ((K.A a).g) (stU (some (K.tk+1))) T3.length ((K.A a).op));have ec:aM (aM (aM (aM c (.k j 0) (kO cK p (K.tk+1))) (.a j a 0) (aO cA (q a) ((K.A a).g) (stU (some (K.tk+1))) (q a 3) ((K.A a).op))) (.a j a 3) (.lst ((c9 ((K.A a).pu.map (·.1))).map U.int))) (.a j a 0) (aO cA (q a) ((K.A a).g) (stU (some (K.tk+1))) T3.length ((K.A a).op))=aM (aM (aM c (.k j 0) (kO cK p (K.tk+1))) (.a j a 3) (.lst ((c9 ((K.A a).pu.map (·.1))).map U.int))) (.a j a 0) (aO cA (q a) ((K.A a).g) (stU (some (K.tk+1))) T3.length ((K.A a).op)):=by
    funext s;by_cases e:s=.a j a 0
    ·subst e;rw[bQ,bQ]
    ·rw[aJ e,aJ e];by_cases e2:s=.a j a 3
     ·subst e2;rw[bQ,bQ]
     ·rw[aJ e2,aJ e2,aJ e]
   rw[ec]at M5;rw[bS (ρ':=[uR (p 0),uI a,uR (q a 0),none]) (S':=(T3++[O.lst ((c9 ((K.A a).pu.map (·.1))).map U.int)]).set (q a 0) (aO cA (q a) ((K.A a).g) (stU (some (K.tk+1))) T3.length ((K.A a).op))) (by rwa[w2,es,w4])];generalize hT5:(T3++[O.lst ((c9 ((K.A a).pu.map (·.1))).map U.int)]).set (q a 0) (aO cA (q a) ((K.A a).g) (stU (some (K.tk+1))) T3.length ((K.A a).op))=T5 at M5;obtain⟨r3',c',T',el,M6,R6,F6⟩:=qL (K:={ K.up a { K.A a with st:=some (K.tk+1),un:=c9 ((K.A a).pu.map (·.1)) } with tk:=K.tk+1 }) (a:=a) (r2:=(uR (q a 0))) ha (c9 ((K.A a).pu.map (·.1))) K.ho _ T5 none M5 R4 (by rw[(i8 _).length_eq,Q8];omega);have v0:=M5.get (R4.pa a ha 0 (by decide)) (R4.a0 a ha);have v3:=M5.get (R4.pa a ha 3 (by decide)) (R4.a3 a ha);have eA:({ K.up a { K.A a with st:=some (K.tk+1),un:=c9 ((K.A a).pu.map (·.1)) } with tk:=K.tk+1 }:Kc).A a={ K.A a with st:=some (K.tk+1),un:=c9 ((K.A a).pu.map (·.1)) }:=if_pos rfl;rw[eA]at v0 v3 el;have q3:(if a=a/\3=3 then T3.length else q a 3)=T3.length:=if_pos ⟨rfl,rfl⟩;have q0:(if a=a/\0=3 then T3.length else q a 0)=q a 0:=if_neg (by simp);have q1:(if a=a/\1=3 then T3.length else q a 1)=q a 1:=if_neg (by simp);have q2:(if a=a/\2=3 then T3.length else q a 2)=q a 2:=if_neg (by simp);dsimp only[aO]at v0 v3 el;rw[q3]at v0 v3 el;rw[q0,q1,q2]at v0;have hit:iTp (cD cA 4 (ak 2)) [uR (p 0),uI a,uR (q a 0),none] T5=some ((c9 ((K.A a).pu.map (·.1))).map U.int,fun S=>S[T3.length]?=some (.lst ((c9 ((K.A a).pu.map (·.1))).map U.int)),T5):=By (by rwa[v0]) v3;refine⟨(_,T'),?_,rfl,_,_,_,M6,R6,?_⟩
   ·have ef:og (iTp (cD cA 4 (ak 2))) (gNm 3) (eJ (g7 cK cA) (jr cK cA) (dH cK) (rS cK cA) cK cA) [uR (p 0),uI a,uR (q a 0),none] T5=some (.nx,[uR (p 0),uI a,uR (q a 0),r3'],T'):=by
     unfold og;rw[hit];exact el
    rw[bS ef];rfl
   ·exact(((((Fm.refl (j:=j) (pos:=pos) (c:=c)).uk 0).ua a 3).ua a 0).pn (s:=.a j a 3) rfl).trans F6
end
theorem qo{T:Sto}{p:Nat}{o:O}(h:T[p]?=some o):T.set p o=T:=by
 refine List.ext_getElem? fun i=>?_;rw[Z7];split
 ·rename_i e;subst e;rw[if_pos (Q9.mp h).1,h]
 ·rfl
section
variable{cK cA:Cl}{j n:Nat}{pos:Pl->Option Nat}{c:Pl->O}{T:Sto}{K:Kc}{p:Nat->Nat}{q:Int->Nat->Nat}{a b:Int}
def p5(cK cA:Cl):Fn:=fnU 5 2 (dz (kY cK cA) (jr cK cA) cK cA)
def wrB(cK cA:Cl):CS:=fG (kY cK cA) (jr cK cA) cK cA
theorem Dr{l:Nat}{S:Sto}{ho:List (Int×Int)}{v:Int}{co ck:CE}{ρ:Rho}(h1:co ρ S=some (.ref l,S))(h2:ck ρ S=some (.int b,S))(hl:S[l]?=some (.dic (dI ho)))(hv:bq ho b=some v):zr co ck ρ S=some (.int v,S.set l (.dic (dI (ib ho b)))):=by
 unfold zr;rw[h1,QZ];simp only[hl,h2,QZ,Fu,lB,g9,hv,ZF,Fy]
def E7:List Int->Option U->Option U
 |[],r=>r
 |b::bs,_=>E7 bs (uI b)
theorem rB{k0 k3:Nat}{ok:Sto->Prop}{r1 r2 r3:Option U}{fs:List (Option U)}(hf:fs[2]?=some (uR k3))(n0:k0≠k3)(hok:∀Y x,ok Y->ok (Y.set k3 x)):∀(bs:List Int) (ho:List (Int×Int)) (Y:Sto) (r4:Option U),ok Y->Y[k0]?=some (.ins cK fs)->Y[k3]?=some (.dic (dI ho))->bs.Nodup->(∀b∈bs,(bq ho b).isSome=true)->
  dX ok (gNm 4) (wrB cK cA) (bs.map U.int) [uR k0,r1,r2,r3,r4] Y=some (.nx,[uR k0,r1,r2,r3,E7 bs r4],Y.set k3 (.dic (dI (dW bs ho))))
 |[],ho,Y,r4,hy,h0,h3,_,_=>by rw[show dW [] ho=ho from rfl,qo h3];exact gi hy
 |b::bs,ho,Y,r4,hy,h0,h3,nd,hv=>by
  obtain⟨v,ev⟩:=ZQ.mp (hv b QU);have lt:=(Q9.mp h3).1;obtain⟨nb,nd'⟩:=Zk.mp nd;have ih:=rB (r1:=r1) (r2:=r2) (r3:=r3) hf n0 hok bs (ib ho b) (Y.set k3 (.dic (dI (ib ho b)))) (uI b) (hok _ _ hy) (by rw[Qb n0.symm];exact h0) (by rw[Z7,if_pos rfl,if_pos lt]) nd' (fun d hd=>by rw[uf (fun e=>nb (by rw[<-e];exact hd))];exact hv d (QX _ hd));rw[List.set_set]at ih;refine(gX hy rfl ?_).trans ih;have F:FU cK 2 (.ref k0,Y)=some (.ref k3,Y):=Ca h0 hf;have e1:=Dr (co:=cD cK 2 (ak 0)) (ck:=ak 4) (ρ:=[uR k0,r1,r2,r3,uI b]) (S:=Y) (by rwa[F]) rfl h3 ev;show(fZ (zr (cD cK 2 (ak 0)) (ak 4))) [uR k0,r1,r2,r3,uI b] Y=_;rwa[e1]
def fg(K:Kc)(a:Int):Str×Kc:=match (K.A a).un with
 |[]=>("",K)
 |b::r=>
  let K':Kc:={ K.up a { K.A a with un:=r } with bx:=K.bx.set b.toNat ((bq (K.A a).pu b).getD 0),ma:=K.ma.set b.toNat ((K.A a).st.getD 0) }
  if r=[]then("done",Kc.end { K' with ho:=dW ((K.A a).pu.map (·.1)) K.ho } a "done")else("written",K')
theorem zU{st:Int}{r:List Int}(M:Mm pos c T)(R:Kr cK cA j pos c K p q)(W:Kw K n)(ha:a∈K.ids)(op:(K.A a).op=true)(hst:(K.A a).st=some st)(hun:(K.A a).un=b::r)(b0:0<=b)(b1:b<n)(hb:(bq (K.A a).pu b).isSome=true)(hr:r.length<=900)
  (hh:r=[]->∀d∈(K.A a).pu.map (·.1),(bq K.ho d).isSome=true) (hl:K.ev.length<=9000):Wp (p5 cK cA [.ref (p 0),.int a] T) fun s=>s.1=.str (fg K a).1/\Nx cK cA j pos c p (fg K a).2 s.2:=by
 obtain⟨v,hv⟩:=ZQ.mp hb;have t0:=M.get (R.pk 0 (by decide)) R.c0;have tr:=M.get (R.pa a ha 0 (by decide)) (R.a0 a ha);have tu:=M.get (R.pa a ha 3 (by decide)) (R.a3 a ha);have f:=va M R ha op;rw[hst]at tr;rw[hun,QF]at tu;have M1:=M.set (R.pa a ha 3 (by decide)) (.lst (r.map U.int));have R1:=R.au (a:=a) r;have s0:=M1.get (R1.pk 0 (by decide)) R1.c0;have s1:=M1.get (R1.pk 1 (by decide)) R1.c1;have sr:=M1.get (R1.pa a ha 0 (by decide)) (R1.a0 a ha);have sp:=M1.get (R1.pa a ha 2 (by decide)) (R1.a2 a ha);rw[gC]at sr sp;dsimp only at sr;rw[hst]at sr;have M2:=M1.set (R1.pk 1 (by decide)) (.lst ((K.bx.set b.toNat v).map U.int));have R2:=R1.bx (K.bx.set b.toNat v);have u0:=M2.get (R2.pk 0 (by decide)) R2.c0;have u2:=M2.get (R2.pk 2 (by decide)) R2.c2;have ur:=M2.get (R2.pa a ha 0 (by decide)) (R2.a0 a ha);have e2:({ K.up a { K.A a with un:=r } with bx:=K.bx.set b.toNat v }:Kc).A a={ K.A a with un:=r }:=if_pos rfl;rw[e2]at ur;dsimp only at ur;rw[hst]at ur;have M3:=M2.set (R2.pk 2 (by decide)) (.lst ((K.ma.set b.toNat st).map U.int));have R3:=R2.ma (K.ma.set b.toNat st);have w0:=M3.get (R3.pk 0 (by decide)) R3.c0;have wr:=M3.get (R3.pa a ha 0 (by decide)) (R3.a0 a ha);have wu:=M3.get (R3.pa a ha 3 (by decide)) (R3.a3 a ha);have wq:=M3.get (R3.pa a ha 2 (by decide)) (R3.a2 a ha);have w3:=M3.get (R3.pk 3 (by decide)) R3.c3;have e3:({ K.up a { K.A a with un:=r } with bx:=K.bx.set b.toNat v,ma:=K.ma.set b.toNat st }:Kc).A a={ K.A a with un:=r }:=if_pos rfl;rw[e3]at wr wu wq;dsimp only at wr wu wq w3;have hL1:(U.int b::r.map U.int).length<=LIM:=by unfold LIM;simp;omega
 have er:(U.int b::r.map U.int).eraseIdx (Int.toNat 0)=r.map U.int:=rfl;have i1:=Ju (xs:=K.bx) b0 (by rw[W.lb];exact b1);have i2:=Ju (xs:=K.ma) b0 (by rw[W.lm];exact b1);have m1:∀(xs:List Int) (v:Int) (i:Nat),(xs.map U.int).set i (.int v)=(xs.set i v).map U.int:=fun xs v i=>by rw[List.map_set]
 have em:fg K a=if r=[]then(("done":Str),Kc.end { ({ K.up a { K.A a with un:=r } with bx:=K.bx.set b.toNat v,ma:=K.ma.set b.toNat st }:Kc)with ho:=dW ((K.A a).pu.map (·.1)) K.ho } a "done")else(("written":Str),({ K.up a { K.A a with un:=r } with bx:=K.bx.set b.toNat v,ma:=K.ma.set b.toNat st }:Kc)):=by
  unfold fg;rw[hun];dsimp only;rw[hv,hst];rfl
 rw[em];unfold p5;rw[nG];unfold dz;rw[bS (ρ':=[uR (p 0),uI a,uR (q a 0),none,none]) (S':=T) (by rwa[t0,f])];rw[bS (ρ':=[uR (p 0),uI a,uR (q a 0),none,none]) (S':=T) (by rwa[tr,stU,wZ,CL])];rw[bS (ρ':=[uR (p 0),uI a,uR (q a 0),uI b,none]) (S':=T.set (q a 3) (.lst (r.map U.int))) (by rwa[tr,tu,wX,ub (Int.le_refl 0) (by simp) hL1 rfl,er])];rw[bS (ρ':=[uR (p 0),uI a,uR (q a 0),uI b,none]) (S':=(T.set (q a 3) (.lst (r.map U.int))).set (p 1) (.lst ((K.bx.set b.toNat v).map U.int))) (by rwa[sr,sp,g9,hv,ZF,s0,s1,Kc.up,i1,m1])];rw[bS (ρ':=[uR (p 0),uI a,uR (q a 0),uI b,none]) (S':=((T.set (q a 3) (.lst (r.map U.int))).set (p 1) (.lst ((K.bx.set b.toNat v).map U.int))).set (p 2) (.lst ((K.ma.set b.toNat st).map U.int))) (by rwa[ur,u0,u2,stU,Kc.up,i2,m1])];generalize hT3:((T.set (q a 3) (.lst (r.map U.int))).set (p 1) (.lst ((K.bx.set b.toNat v).map U.int))).set (p 2) (.lst ((K.ma.set b.toNat st).map U.int))=T3 at *;by_cases h:r=[]
 ·rw[if_pos h];subst h;have z:decide (0<((0:Nat):Int))=false:=rfl;rw[bS (ρ':=[uR (p 0),uI a,uR (q a 0),uI b,none]) (S':=T3) (by rwa[wr,wu,ZY,Zh,z])];have M4:=M3.set (R3.pk 3 (by decide)) (.dic (dI (dW ((K.A a).pu.map (·.1)) K.ho)));have R4:=R3.ho (dW ((K.A a).pu.map (·.1)) K.ho);have n3:p 0≠p 3:=fun e=>by have:=M3.inj (.k j 0) (.k j 3) (p 0) (R3.pk 0 (by decide)) (by rw[e];exact R3.pk 3 (by decide));simp at this
  have n2:q a 2≠p 3:=fun e=>by have:=M3.inj (.a j a 2) (.k j 3) (q a 2) (R3.pa a ha 2 (by decide)) (by rw[e];exact R3.pk 3 (by decide));simp at this
  have n02:q a 2≠p 0:=fun e=>by have:=M3.inj (.a j a 2) (.k j 0) (q a 2) (R3.pa a ha 2 (by decide)) (by rw[e];exact R3.pk 0 (by decide));simp at this
  have lq:q a 2<T3.length:=(Q9.mp wq).1;have eh:rJ (cD cA 2 (ak 2)) (gNm 4) (fG (kY cK cA) (jr cK cA) cK cA) [uR (p 0),uI a,uR (q a 0),uI b,none] T3=some (.nx,[uR (p 0),uI a,uR (q a 0),uI b,E7 ((K.A a).pu.map (·.1)) none],T3.set (p 3) (.dic (dI (dW ((K.A a).pu.map (·.1)) K.ho)))):=by
   have hi:cD cA 2 (ak 2) [uR (p 0),uI a,uR (q a 0),uI b,none] T3=some (.ref (q a 2),T3):=by rwa[wr]
   have ek:((dI (K.A a).pu).map fun e=>kU e.1)=((K.A a).pu.map (·.1)).map U.int:=by unfold dI;rw[Qu,Qu];rfl
   unfold rJ;rw[hi,QZ];simp only[wq];refine nS fun ep=>?_;have key:=rB (cK:=cK) (cA:=cA) (k0:=p 0) (k3:=p 3) (r1:=(uI a)) (r2:=(uR (q a 0))) (r3:=(uI b)) (ok:=fun S'=>S'[q a 2]?=some (.fdc ep (dI (K.A a).pu))) (fs:=[uR (p 1),uR (p 2),uR (p 3),uI K.tk,uR (p 4),uR (p 5)]) rfl n3 (fun Y x hy=>by rw[Qb n2.symm];exact hy) ((K.A a).pu.map (·.1)) K.ho (T3.set (q a 2) (.fdc ep (dI (K.A a).pu))) none (by rw[Z7,if_pos rfl,if_pos lq]) (by rw[Qb n02];exact w0) (by rw[Qb n2];exact w3) (W.pu a ha).2.1 (hh rfl);rw[ek];show Option.bind (dX _ _ (wrB cK cA) _ _ _) _=_;rw[key,QZ];have e1:((T3.set (q a 2) (.fdc ep (dI (K.A a).pu))).set (p 3) (.dic (dI (dW ((K.A a).pu.map (·.1)) K.ho))))[q a 2]?=some (.fdc ep (dI (K.A a).pu)):=by rw[Qb n2.symm,Z7,if_pos rfl,if_pos lq]
   have e2:((T3.set (q a 2) (.fdc ep (dI (K.A a).pu))).set (p 3) (.dic (dI (dW ((K.A a).pu.map (·.1)) K.ho)))).set (q a 2) (.dic (dI (K.A a).pu))=T3.set (p 3) (.dic (dI (dW ((K.A a).pu.map (·.1)) K.ho))):=by
    rw[List.set_comm _ _ n2,List.set_set];exact qo (by rw[Qb n2.symm];exact wq)
   simp only[e1,e2]
  rw[bS eh];obtain⟨⟨u1,T4⟩,e4,rfl,pos',c',q',M5,R5,F5⟩:=mJ (w:="done") M4 R4 ha hl;have x0:=M4.get (R4.pk 0 (by decide)) R4.c0;refine⟨(_,T4),?_,rfl,pos',c',q',M5,R5,(((((Fm.refl (j:=j) (pos:=pos) (c:=c)).ua a 3).uk 1).uk 2).uk 3).trans F5⟩;rwa[x0,e4]
 ·rw[if_neg h];have z:decide (0<((r.length:Nat):Int))=true:=decide_eq_true (by have:=List.length_pos_iff.mpr h;omega);refine⟨(_,T3),?_,rfl,pos,_,q,M3,R3,((Fm.refl.ua a 3).uk 1).uk 2⟩;rwa[wr,wu,Q8,z]
end
section
variable{cK cA:Cl}{j:Nat}{pos:Pl->Option Nat}{c:Pl->O}{T:Sto}{K:Kc}{p:Nat->Nat}{q:Int->Nat->Nat}{a b:Int}{st:List Int}
def m7(cK:Cl):Fn:=fnU 3 3 (eG cK)
def yM(cK:Cl)(k1 k2 k3:Nat)(tk:Int)(k4 k5:Nat):O:=.ins cK [uR k1,uR k2,uR k3,uI tk,uR k4,uR k5]
def Bt(cK:Cl)(N:Nat)(st:List Int):Sto:=[yM cK (N+1) (N+3) (N+4) 0 (N+5) (N+6),.lst (st.map U.int),.lst [.int 0],.lst ((QY st.length (0:Int)).map U.int),.dic [],.lst [],.dic []]
theorem E1(hns:cK.ns.length=6)(hl:st.length<=900){x:U}:pD cK (m7 cK) [x,.tup (st.map U.int)] T=some (.ref T.length,T++Bt cK T.length st):=by
 rw[B6,hns];unfold m7;rw[pI];obtain⟨us,hus⟩:∃us,us=st.map U.int:=⟨_,rfl⟩;have lus:us.length=st.length:=by rw[hus,Q8]
 obtain⟨rs,hrs⟩:∃rs,rs=(QY st.length (0:Int)).map U.int:=⟨_,rfl⟩;unfold Bt;rw[<-hus,<-hrs];have mul:∀o1 o2:O,qZ (.ref (T.length+2)) (.int us.length) (T++[o1,o2,.lst [.int 0]])=some (.ref (T.length+3),T++[o1,o2,.lst [.int 0],.lst rs]):=fun o1 o2=>by
  have g1:(T++[o1,o2,O.lst [U.int 0]])[T.length+2]?=some (.lst [.int 0]):=by rw[ga];rfl
  have g2:(0:Int)<=us.length/\(us.length:Int)<=100000/\[U.int 0].length*(us.length:Int).toNat<=LIM:=by
   refine⟨by omega,by omega,?_⟩;unfold LIM;rw[List.length_singleton];omega
  simp only[qZ,g1];rw[if_pos g2,hrs,List.map_replicate,lus];simp only[ZD,List.flatten_replicate_singleton,QC,QV,Zh,Qw,ZH,Qs]
 have l1:∀o:O,(T++[o]).length=T.length+1:=fun o=>by rw[QC];rfl
 have l2:∀o o':O,(T++[o,o']).length=T.length+2:=fun o o'=>by rw[QC];rfl
 have l4:∀o1 o2 o3 o4:O,(T++[o1,o2,o3,o4]).length=T.length+4:=fun o1 o2 o3 o4=>by rw[QC];rfl
 have l5:∀o1 o2 o3 o4 o5:O,(T++[o1,o2,o3,o4,o5]).length=T.length+5:=fun o1 o2 o3 o4 o5=>by rw[QC];rfl
 have l6:∀o1 o2 o3 o4 o5 o6:O,(T++[o1,o2,o3,o4,o5,o6]).length=T.length+6:=fun o1 o2 o3 o4 o5 o6=>by rw[QC];rfl
 rwa[eG,QY,l1,l2,l4,l5,l6,mul,yM]
def wm(st:List Int):Kc:=⟨st,QY st.length 0,[],0,[],[],fun _=>a0 0⟩
def A5(N f:Nat):Nat:=if f<2 then N+f else N+f+1
theorem HZ(hns:cK.ns.length=6)(hl:st.length<=900){x:U}(M:Mm pos c T):Wp (pD cK (m7 cK) [x,.tup (st.map U.int)] T) fun r=>r.1=.ref T.length/\∃pos' c',Mm pos' c' r.2/\Kr cK cA j pos' c' (wm st) (A5 T.length) (fun _ _=>0)/\Fm j pos c pos' c':=by
 refine⟨(_,_),E1 hns hl,rfl,?_⟩;have M1:=M.new (.k j 0) (yM cK (T.length+1) (T.length+3) (T.length+4) 0 (T.length+5) (T.length+6)) [];have M2:=M1.new (.k j 1) (.lst (st.map U.int)) [.lst [.int 0]];have M3:=M2.new (.k j 2) (.lst ((QY st.length (0:Int)).map U.int)) [];have M4:=M3.new (.k j 3) (.dic []) [];have M5:=M4.new (.k j 4) (.lst []) [];have M6:=M5.new (.k j 5) (.dic []) [];have eT:T++[yM cK (T.length+1) (T.length+3) (T.length+4) 0 (T.length+5) (T.length+6)]++[O.lst (st.map U.int),O.lst [.int 0]]++[O.lst ((QY st.length (0:Int)).map U.int)]++[O.dic []]++[O.lst []]++[O.dic []]=T++Bt cK T.length st:=by simp[Bt]
 rw[eT]at M6;refine⟨_,_,M6,⟨fun f hf=>?_,?_,?_,?_,?_,?_,?_,fun a h=>(nomatch h),fun a h=>(nomatch h),fun a h=>(nomatch h),fun a h=>(nomatch h),fun a h=>(nomatch h)⟩,fun s hs=>?_⟩
 ·match f,hf with
  |0,_=>simp[eK,A5]
  |1,_=>simp[eK,A5]
  |2,_=>simp[eK,A5]
  |3,_=>simp[eK,A5]
  |4,_=>simp[eK,A5]
  |5,_=>simp[eK,A5]
 ·simp[aM,yM,A5,wm]
 ·simp[aM,wm]
 ·simp[aM,wm]
 ·simp[aM,wm,dI]
 ·simp[aM,wm]
 ·simp[aM,wm]
 ·cases s with
  |k i f=>have:i≠j:=hs;simp[eK,aM,this]
  |a i x f=>simp[eK,aM]
  |x m i=>simp[eK,aM]
def vF(cK:Cl):Fn:=fnU 1 1 (fB cK)
theorem Fc(M:Mm pos c T)(R:Kr cK cA j pos c K p q):vF cK [.ref (p 0)] T=some (.ref T.length,T++[.lst K.ev]):=by
 have t0:=M.get (R.pk 0 (by decide)) R.c0;have t4:=M.get (R.pk 4 (by decide)) R.c4;unfold vF;rw[rp];rwa[fB,t0,t4]
def vE(cK:Cl):Fn:=fnU 1 1 (fA cK)
theorem Fb(M:Mm pos c T)(R:Kr cK cA j pos c K p q):vE cK [.ref (p 0)] T=some (.tup (K.bx.map U.int),T):=by
 have t0:=M.get (R.pk 0 (by decide)) R.c0;have t1:=M.get (R.pk 1 (by decide)) R.c1;unfold vE;rw[rn];rwa[fA,t0,t1]
def jb(cK:Cl):Fn:=fnU 1 1 (dC cK)
theorem yE(M:Mm pos c T)(R:Kr cK cA j pos c K p q):jb cK [.ref (p 0)] T=some (.int K.tk,T):=by
 have t0:=M.get (R.pk 0 (by decide)) R.c0;unfold jb;rw[nJ];rwa[dC,t0]
def mZ(cK:Cl):Fn:=fnU 2 2 (eF cK)
theorem Bq(M:Mm pos c T)(R:Kr cK cA j pos c K p q)(b0:0<=b)(b1:b<K.ma.length):mZ cK [.ref (p 0),.int b] T=some (.int (K.ma.getD b.toNat 0),T):=by
 have t0:=M.get (R.pk 0 (by decide)) R.c0;have t2:=M.get (R.pk 2 (by decide)) R.c2;have am:=BV b0 b1;unfold mZ;rw[pG];rwa[eF,t0,t2,am]
def CK(A:Ac):Int×Int:=match A.st with
 |none=>(A.g,1)
 |some t=>(t,0)
def oh(cA:Cl):Fn:=fnU 1 1 (bN cA)
theorem Fl(M:Mm pos c T)(R:Kr cK cA j pos c K p q)(ha:a∈K.ids):oh cA [.ref (q a 0)] T=some (.tup [.int (CK (K.A a)).1,.int (CK (K.A a)).2],T):=by
 have tr:=M.get (R.pa a ha 0 (by decide)) (R.a0 a ha);unfold oh CK;rw[kQ];cases h:(K.A a).st with
 |none=>
  rw[h]at tr;rwa[bN,tr,stU,wZ,yN]
 |some t=>
  rw[h]at tr;rwa[bN,tr,stU,wZ,CL]
def gm(K:Kc):List Int:=nh (K.ids.map fun a=>CK (K.A a)) K.ids
def lY(cK cA:Cl)(z:O):Fn:=fnU 1 1 (dA (oh cA) cK cA z)
theorem yA{z:O}{l:Nat}(M:Mm pos c T)(R:Kr cK cA j pos c K p q)(hz:T[l]?=some z)(h64:K.ids.length<64):lY cK cA z [.ref (p 0)] T=some (.ref T.length,T++[.lst ((gm K).map U.int)]):=by
 have t0:=M.get (R.pk 0 (by decide)) R.c0;have t5:=M.get (R.pk 5 (by decide)) R.c5;have run:∀ids:List Int,(∀a∈ids,a∈K.ids)->zK (bJ cA (oh cA) (cOp fIx (cD cK 5 (ak 1)) (ak 0)) aN) (.ref (p 0)) ids T=some (ids.map fun a=>CK (K.A a),T):=by
  intro ids;induction ids with
  |nil=>intro _;rfl
  |cons a r ih=>
   intro h;have ha:=h a QU;have v:=bZ (q:=q) ha;have tr:=M.get (R.pa a ha 0 (by decide)) (R.a0 a ha);have e:=Fl M R ha;have ec:bJ cA (oh cA) (cOp fIx (cD cK 5 (ak 1)) (ak 0)) aN [uI a,uR (p 0)] T=some (.tup [.int (CK (K.A a)).1,.int (CK (K.A a)).2],T):=by rwa[t0,t5,v,tr,e]
   unfold zK;rw[ec,QZ];simp only[ih fun x hx=>h x (QX _ hx),QZ,QF]
 have kk:∀ids:List Int,oW (ids.map fun a=>((.inl a:Key),U.ref (q a 0)))=some ids:=by
  intro ids;induction ids with
  |nil=>rfl
  |cons a r ih=>show(oW _).map (a::·)=_;rw[ih];rfl
 have ef:cD cK 5 (ak 0) [uR (p 0)] T=some (.ref (p 5),T):=by rwa[t0]
 have es:vy z 0 (cD cK 5 (ak 0)) (bJ cA (oh cA) (cOp fIx (cD cK 5 (ak 1)) (ak 0)) aN) [uR (p 0)] T=some (.ref T.length,T++[.lst ((gm K).map U.int)]):=by
  unfold vy;rw[ef,QZ];simp only[t5,kk,QZ];rw[if_pos ⟨h64,l,hz⟩];simp only[List.getElem?_cons_zero,Option.join_some,QZ,run K.ids fun _ h=>h];rfl
 unfold lY;rw[nH];unfold dA;rwa[es]
end
theorem vb{l:List Int}{n:Nat}(nd:l.Nodup)(h:∀b∈l,0<=b/\b<n):l.length<=n:=by
 have:=List.Nodup.length_le_of_subset nd (l₂:=(Qa n).map fun i:Nat=>(i:Int)) fun b hb=>by
  obtain⟨h0,h1⟩:=h b hb;exact Qn.mpr ⟨b.toNat,ZJ.mpr (by omega),by omega⟩
 simpa using this
theorem om{l:List (Int×Int)}{b:Int}(h:b∈l.map (·.1)):(bq l b).isSome=true:=by
 cases e:bq l b with
 |some v=>rfl
 |none=>exact absurd h (l7.mp e)
theorem vX{l:List (Int×Int)}{b v d:Int}(h:d∈(eM l b v).map (·.1)):d=b\/d∈l.map (·.1):=by
 obtain⟨e,he,rfl⟩:=Qn.mp h;rcases AG he with z|⟨p,hp,z⟩
 ·exact .inl z
 ·exact .inr (Qn.mpr ⟨p,hp,z⟩)
theorem lQ(a:Int):∀(bs:List Int) (ho:List (Int×Int)) (d:Int),bq (wt a bs ho) d=if d∈bs then some a else bq ho d
 |[],ho,d=>by simp[wt]
 |b::bs,ho,d=>by
  show bq (wt a bs (eM ho b a)) d=_;rw[lQ a bs,DZ];by_cases h1:d∈bs
  ·rw[if_pos h1,if_pos (QX _ h1)]
  ·rw[if_neg h1];by_cases h2:d=b
   ·rw[if_pos h2,if_pos (by rw[h2];exact QU)]
   ·rw[if_neg h2,if_neg (fun z=>(Qq.mp z).elim h2 h1)]
theorem uS(a:Int):∀(bs:List Int) (ho:List (Int×Int)),(wt a bs ho).length<=ho.length+bs.length
 |[],ho=>QQ _
 |b::bs,ho=>by
  show(wt a bs (eM ho b a)).length<=_;have:=uS a bs (eM ho b a);have:=uF ho b a;rw[QV];omega
theorem lZ:∀(bs:List Int) (ho:List (Int×Int)) (d:Int),d∉bs->bq (dW bs ho) d=bq ho d
 |[],ho,d,_=>rfl
 |b::bs,ho,d,h=>by
  show bq (dW bs (ib ho b)) d=_;rw[lZ bs _ d (fun z=>h (QX _ z)),uf (fun z=>h (by rw[z];exact QU))]
theorem qE:∀(bs:List Int) (ho:List (Int×Int)),(dW bs ho).length<=ho.length
 |[],ho=>QQ _
 |b::bs,ho=>Qp (qE bs (ib ho b)) (List.length_filter_le _ _)
structure Tkn(K:Kc)(a:Int):Prop where
 un:(K.A a).un≠[]
 few:(K.A a).un.length<64
 sub:∀b∈(K.A a).un,b∈(K.A a).pu.map (·.1)
 hld:∀d∈(K.A a).pu.map (·.1),bq K.ho d=some a
structure Ki(K:Kc)(n:Nat):Prop where
 lb:K.bx.length=n
 lm:K.ma.length=n
 few:n<64
 ids:K.ids.Nodup
 lkn:∀a∈K.ids,(K.A a).lk.Nodup
 lkb:∀a∈K.ids,∀b:Int,b∈(K.A a).lk->0<=b/\b<n
 pun:∀a∈K.ids,((K.A a).pu.map (·.1)).Nodup
 pub:∀a∈K.ids,∀b:Int,b∈(K.A a).pu.map (·.1)->0<=b/\b<n
 tak:∀a∈K.ids,(K.A a).op=true->(K.A a).st.isSome=true->Tkn K a
 hol:(K.ho.length:Int)<=64*K.tk
theorem Io{K K':Kc}(h1:K.bx=K'.bx)(h2:K.ma=K'.ma)(h3:K.ho=K'.ho)(h4:K.tk=K'.tk)(h5:K.ev=K'.ev)(h6:K.ids=K'.ids)(h7:∀x,K.A x=K'.A x):K=K':=by
 cases K;cases K';dsimp only at *;subst h1 h2 h3 h4 h5 h6;congr 1;exact funext h7
section
variable{K:Kc}{n:Nat}{a b v:Int}
theorem Ki.w(I:Ki K n):Kw K n where
 lb:=I.lb
 lm:=I.lm
 few:=by have:=I.few;omega
 ids:=I.ids
 lk:=fun a ha=>⟨by have:=vb (I.lkn a ha) (I.lkb a ha);have:=I.few;omega,I.lkb a ha⟩
 pu:=fun a ha=>⟨by have:=vb (I.pun a ha) (I.pub a ha);rw[Q8]at this;have:=I.few;omega,I.pun a ha,fun e he=>I.pub a ha e.1 (Qn.mpr ⟨e,he,rfl⟩)⟩
theorem Ki.ev(I:Ki K n)(ev:List U):Ki { K with ev:=ev } n:=⟨I.lb,I.lm,I.few,I.ids,I.lkn,I.lkb,I.pun,I.pub,fun a h1 h2 h3=>let t:=I.tak a h1 h2 h3;⟨t.un,t.few,t.sub,t.hld⟩,I.hol⟩
theorem Ki.up(I:Ki K n)(x:Ac)(h1:x.lk.Nodup)(h2:∀b:Int,b∈x.lk->0<=b/\b<n)(h3:(x.pu.map (·.1)).Nodup)(h4:∀b:Int,b∈x.pu.map (·.1)->0<=b/\b<n)
  (h5:x.op=true->x.st.isSome=true->x.un≠[]/\x.un.length<64/\(∀b∈x.un,b∈x.pu.map (·.1))/\∀d∈x.pu.map (·.1),bq K.ho d=some a):Ki (K.up a x) n:=by
 have at_:∀y,y≠a->(K.up a x).A y=K.A y:=fun y hy=>if_neg hy;refine⟨I.lb,I.lm,I.few,I.ids,fun y hy=>?_,fun y hy=>?_,fun y hy=>?_,fun y hy=>?_,fun y hy o s=>?_,I.hol⟩
 ·by_cases e:y=a
  ·subst e;rw[gC];exact h1
  ·rw[at_ y e];exact I.lkn y hy
 ·by_cases e:y=a
  ·subst e;rw[gC];exact h2
  ·rw[at_ y e];exact I.lkb y hy
 ·by_cases e:y=a
  ·subst e;rw[gC];exact h3
  ·rw[at_ y e];exact I.pun y hy
 ·by_cases e:y=a
  ·subst e;rw[gC];exact h4
  ·rw[at_ y e];exact I.pub y hy
 ·by_cases e:y=a
  ·subst e;rw[gC]at o s;obtain⟨z1,z2,z3,z4⟩:=h5 o s;exact⟨by rw[gC];exact z1,by rw[gC];exact z2,by rw[gC];exact z3,by rw[gC];exact z4⟩
  ·rw[at_ y e]at o s;have t:=I.tak y hy o s;exact⟨by rw[at_ y e];exact t.un,by rw[at_ y e];exact t.few,by rw[at_ y e];exact t.sub,by rw[at_ y e];exact t.hld⟩
theorem Ki.end(I:Ki K n)(ha:a∈K.ids)(w:Str):Ki (K.end a w) n:=(I.up { K.A a with op:=false } (I.lkn a ha) (I.lkb a ha) (I.pun a ha) (I.pub a ha) fun z=>nomatch z).ev _
theorem Ki.begin(I:Ki K n)(ha:a∉K.ids):Ki (dR K a) n:=by
 have ne:∀y∈K.ids,y≠a:=fun y hy e=>ha (by rw[<-e];exact hy);have at_:∀y,y≠a->(dR K a).A y=K.A y:=fun y hy=>if_neg hy;have ata:(dR K a).A a=a0 K.tk:=if_pos rfl;have sp:∀y∈(dR K a).ids,y∈K.ids\/y=a:=fun y hy=>(Qe.mp hy).imp id Qy.mp;refine⟨I.lb,I.lm,I.few,?_,fun y hy=>?_,fun y hy=>?_,fun y hy=>?_,fun y hy=>?_,fun y hy o s=>?_,I.hol⟩
 ·show(K.ids++[a]).Nodup;rw[List.nodup_append];exact⟨I.ids,by simp,fun x hx y hy z=>by rw[Qy.mp hy]at z;exact ne x hx z⟩
 ·rcases sp y hy with h|rfl
  ·rw[at_ y (ne y h)];exact I.lkn y h
  ·rw[ata];exact List.nodup_nil
 ·rcases sp y hy with h|rfl
  ·rw[at_ y (ne y h)];exact I.lkb y h
  ·rw[ata];exact fun b hb=>nomatch hb
 ·rcases sp y hy with h|rfl
  ·rw[at_ y (ne y h)];exact I.pun y h
  ·rw[ata];exact List.nodup_nil
 ·rcases sp y hy with h|rfl
  ·rw[at_ y (ne y h)];exact I.pub y h
  ·rw[ata];exact fun b hb=>nomatch hb
 ·rcases sp y hy with h|rfl
  ·rw[at_ y (ne y h)]at o s;have t:=I.tak y h o s;exact⟨by rw[at_ y (ne y h)];exact t.un,by rw[at_ y (ne y h)];exact t.few,by rw[at_ y (ne y h)];exact t.sub,by rw[at_ y (ne y h)];exact t.hld⟩
  ·rw[ata]at s;cases s
theorem BZ{l:List Int}{b:Int}(h:l.Nodup):(rY l b).Nodup:=by
 unfold rY;split
 ·exact h
 ·rename_i hb;rw[List.nodup_append];exact⟨h,by simp,fun x hx y hy z=>by rw[Qy.mp hy]at z;exact hb (by rw[<-z];exact hx)⟩
theorem zD{l:List Int}{b x:Int}(h:x∈rY l b):x=b\/x∈l:=by
 unfold rY at h;split at h
 ·exact .inr h
 ·rcases Qe.mp h with z|z
  ·exact .inr z
  ·exact .inl (Qy.mp z)
theorem Ki.look(I:Ki K n)(ha:a∈K.ids)(st:(K.A a).st=none)(b0:0<=b)(b1:b<n):Ki (je K a b).2 n:=by
 unfold je;split
 ·exact I.ev _
 ·split
  ·exact I.end ha _
  ·refine(I.up { K.A a with g:=if (K.A a).g<K.ma.getD b.toNat 0 then K.tk else(K.A a).g,lk:=rY (K.A a).lk b } (BZ (I.lkn a ha)) (fun x hx=>?_) (I.pun a ha) (I.pub a ha) fun _ s=>?_).ev _
   ·rcases zD hx with z|z
    ·subst z;exact⟨b0,b1⟩
    ·exact I.lkb a ha x z
   ·have s':(K.A a).st.isSome=true:=s;rw[st]at s';cases s'
theorem Ki.put(I:Ki K n)(ha:a∈K.ids)(st:(K.A a).st=none)(b0:0<=b)(b1:b<n):Ki (Jr K a b v) n:=by
 refine(I.up { K.A a with pu:=eM (K.A a).pu b v } (I.lkn a ha) (I.lkb a ha) (Et (I.pun a ha)) (fun x hx=>?_) fun _ s=>?_).ev _
 ·rcases vX hx with z|z
  ·subst z;exact⟨b0,b1⟩
  ·exact I.pub a ha x z
 ·have s':(K.A a).st.isSome=true:=s;rw[st]at s';cases s'
theorem Ki.take(I:Ki K n)(ha:a∈K.ids)(st:(K.A a).st=none):Ki (jd K a).2 n:=by
 unfold jd;split
 ·exact I.end ha _
 ·rename_i hp;split
  ·exact I.end ha _
  ·rename_i hb;have hb2:brd K a ((K.A a).pu.map (·.1))=false:=by
    cases z:brd K a ((K.A a).pu.map (·.1))with
    |false=>rfl
    |true=>rw[z]at hb;simp at hb
   have free:∀d∈(K.A a).pu.map (·.1),(bq K.ho d).getD a=a:=fun d hd=>by
    unfold brd at hb2;have:=List.any_eq_false.mp hb2 d hd;simpa using this
   have pm:=i8 ((K.A a).pu.map (·.1));have pl:=(I.w.pu a ha).1;have at_:∀y,y≠a->({ K.up a { K.A a with st:=some (K.tk+1),un:=c9 ((K.A a).pu.map (·.1)) } with tk:=K.tk+1,ho:=wt a (c9 ((K.A a).pu.map (·.1))) K.ho }:Kc).A y=K.A y:=fun y hy=>if_neg hy;have ata:({ K.up a { K.A a with st:=some (K.tk+1),un:=c9 ((K.A a).pu.map (·.1)) } with tk:=K.tk+1,ho:=wt a (c9 ((K.A a).pu.map (·.1))) K.ho }:Kc).A a={ K.A a with st:=some (K.tk+1),un:=c9 ((K.A a).pu.map (·.1)) }:=if_pos rfl;refine⟨I.lb,I.lm,I.few,I.ids,fun y hy=>?_,fun y hy=>?_,fun y hy=>?_,fun y hy=>?_,fun y hy o s=>?_,?_⟩
   ·by_cases e:y=a
    ·subst e;rw[ata];exact I.lkn y hy
    ·rw[at_ y e];exact I.lkn y hy
   ·by_cases e:y=a
    ·subst e;rw[ata];exact I.lkb y hy
    ·rw[at_ y e];exact I.lkb y hy
   ·by_cases e:y=a
    ·subst e;rw[ata];exact I.pun y hy
    ·rw[at_ y e];exact I.pun y hy
   ·by_cases e:y=a
    ·subst e;rw[ata];exact I.pub y hy
    ·rw[at_ y e];exact I.pub y hy
   ·by_cases e:y=a
    ·subst e;refine⟨?_,?_,?_,fun d hd=>?_⟩
     ·rw[ata];intro z;have z':c9 ((K.A y).pu.map (·.1))=[]:=z;rw[z']at pm;have:=pm.length_eq;rw[Zh,Q8]at this;exact hp (ZG.mp this.symm)
     ·rw[ata];show(c9 _).length<64;rw[pm.length_eq,Q8];exact pl
     ·rw[ata];exact fun b hb=>pm.mem_iff.mp hb
     ·rw[ata]at hd;show bq (wt y _ K.ho) d=some y;rw[lQ,if_pos (pm.mem_iff.mpr hd)]
    ·rw[at_ y e]at o s;have t:=I.tak y hy o s;refine⟨by rw[at_ y e];exact t.un,by rw[at_ y e];exact t.few,by rw[at_ y e];exact t.sub,fun d hd=>?_⟩;rw[at_ y e]at hd;show bq (wt a _ K.ho) d=some y;have hv:=t.hld d hd;rw[lQ,if_neg (fun z=>?_)]
     ·exact hv
     ·have:=free d (pm.mem_iff.mp z);rw[hv]at this;exact e this
   ·have l1:=uS a (c9 ((K.A a).pu.map (·.1))) K.ho;have l2:=pm.length_eq;rw[Q8]at l2;have:=I.hol;show((wt a _ K.ho).length:Int)<=64*(K.tk+1);omega
theorem Ki.write(I:Ki K n)(ha:a∈K.ids)(op:(K.A a).op=true)(st:(K.A a).st.isSome=true):Ki (fg K a).2 n:=by
 have t:=I.tak a ha op st;unfold fg;cases hu:(K.A a).un with
 |nil=>exact absurd hu t.un
 |cons b r=>
  dsimp only;have J:∀(x y:List Int),x.length=n->y.length=n->Ki { K with bx:=x,ma:=y } n:=fun x y hx hy=>⟨hx,hy,I.few,I.ids,I.lkn,I.lkb,I.pun,I.pub,fun a h1 h2 h3=>let t:=I.tak a h1 h2 h3;⟨t.un,t.few,t.sub,t.hld⟩,I.hol⟩;have J1:=J (K.bx.set b.toNat ((bq (K.A a).pu b).getD 0)) (K.ma.set b.toNat ((K.A a).st.getD 0)) (by rw[Qt];exact I.lb) (by rw[Qt];exact I.lm);by_cases hr:r=[]
  ·rw[if_pos hr];have J2:=J1.up (a:=a) { K.A a with un:=r,op:=false } (I.lkn a ha) (I.lkb a ha) (I.pun a ha) (I.pub a ha) fun z=>nomatch z;have eq:Kc.end { ({ K.up a { K.A a with un:=r } with bx:=K.bx.set b.toNat ((bq (K.A a).pu b).getD 0),ma:=K.ma.set b.toNat ((K.A a).st.getD 0) }:Kc)with ho:=dW ((K.A a).pu.map (·.1)) K.ho } a "done"={ ({ (Kc.up { K with bx:=K.bx.set b.toNat ((bq (K.A a).pu b).getD 0),ma:=K.ma.set b.toNat ((K.A a).st.getD 0) } a { K.A a with un:=r,op:=false })with ho:=dW ((K.A a).pu.map (·.1)) K.ho }:Kc)with ev:=K.ev++[.tup [.str "done",.int a]] }:=by
    refine Io rfl rfl rfl rfl rfl rfl fun x=>?_;by_cases h:x=a<;>simp[Kc.end,Kc.up,h]
   rw[eq];refine Ki.ev (K:={ (Kc.up { K with bx:=K.bx.set b.toNat ((bq (K.A a).pu b).getD 0),ma:=K.ma.set b.toNat ((K.A a).st.getD 0) } a { K.A a with un:=r,op:=false })with ho:=dW ((K.A a).pu.map (·.1)) K.ho }) ⟨J2.lb,J2.lm,J2.few,J2.ids,J2.lkn,J2.lkb,J2.pun,J2.pub,fun y hy o s=>?_,?_⟩ _
   ·have ya:y≠a:=fun e=>by
     subst e;have:(({ (Kc.up { K with bx:=K.bx.set b.toNat ((bq (K.A y).pu b).getD 0),ma:=K.ma.set b.toNat ((K.A y).st.getD 0) } y { K.A y with un:=r,op:=false })with ho:=dW ((K.A y).pu.map (·.1)) K.ho }:Kc).A y)={ K.A y with un:=r,op:=false }:=if_pos rfl;rw[this]at o;cases o
    have at_:({ (Kc.up { K with bx:=K.bx.set b.toNat ((bq (K.A a).pu b).getD 0),ma:=K.ma.set b.toNat ((K.A a).st.getD 0) } a { K.A a with un:=r,op:=false })with ho:=dW ((K.A a).pu.map (·.1)) K.ho }:Kc).A y=K.A y:=if_neg ya;rw[at_]at o s;have t':=I.tak y hy o s;refine⟨by rw[at_];exact t'.un,by rw[at_];exact t'.few,by rw[at_];exact t'.sub,fun d hd=>?_⟩;rw[at_]at hd;have hv:=t'.hld d hd;show bq (dW _ K.ho) d=some y;rw[lZ _ _ _ fun z=>?_]
    ·exact hv
    ·have:=t.hld d z;rw[hv]at this;exact ya (Option.some.inj this)
   ·have:=qE ((K.A a).pu.map (·.1)) K.ho;have:=I.hol;show((dW _ K.ho).length:Int)<=64*K.tk;omega
  ·rw[if_neg hr];refine J1.up (a:=a) { K.A a with un:=r } (I.lkn a ha) (I.lkb a ha) (I.pun a ha) (I.pub a ha) fun _ _=>⟨hr,?_,fun x hx=>?_,t.hld⟩
   ·have:=t.few;rw[hu,QV]at this;show r.length<64;omega
   ·exact t.sub x (by rw[hu];exact QX _ hx)
end
inductive Kl where
 |bg (a:Int)|lk (a b:Int)|pt (a b v:Int)|tk (a:Int)|wr (a:Int)
def Kl.u:Kl->U
 |.bg a=>.tup [.str "begin",.int a]
 |.lk a b=>.tup [.str "look",.int a,.int b]
 |.pt a b v=>.tup [.str "put",.int a,.int b,.int v]
 |.tk a=>.tup [.str "take",.int a]
 |.wr a=>.tup [.str "write",.int a]
def yH(K:Kc):Kl->U×Kc
 |.bg a=>(.non,dR K a)
 |.lk a b=>je K a b
 |.pt a b v=>(.non,Jr K a b v)
 |.tk a=>(.str (jd K a).1,(jd K a).2)
 |.wr a=>(.str (fg K a).1,(fg K a).2)
def MB(K:Kc)(n:Nat):Kl->Prop
 |.bg a=>a∉K.ids
 |.lk a b=>(a∈K.ids/\(K.A a).op=true/\(K.A a).st=none)/\0<=b/\b<n
 |.pt a b _=>(a∈K.ids/\(K.A a).op=true/\(K.A a).st=none)/\0<=b/\b<n
 |.tk a=>a∈K.ids/\(K.A a).op=true/\(K.A a).st=none
 |.wr a=>a∈K.ids/\(K.A a).op=true/\(K.A a).st.isSome=true
structure Kb(K:Kc)(m:Nat):Prop where
 ev:K.ev.length<=m
 tk:K.tk<=m
 ids:K.ids.length<=m
section
variable{K:Kc}{n m:Nat}{a b v:Int}{k:Kl}
theorem Ki.call(I:Ki K n)(h:MB K n k):Ki (yH K k).2 n:=by
 cases k with
 |bg a=>exact I.begin h
 |lk a b=>exact I.look h.1.1 h.1.2.2 h.2.1 h.2.2
 |pt a b v=>exact I.put h.1.1 h.1.2.2 h.2.1 h.2.2
 |tk a=>exact I.take h.1 h.2.2
 |wr a=>exact I.write h.1 h.2.1 h.2.2
theorem y6{w:Str}(B:Kb K m):Kb (K.end a w) (m+1):=⟨by show(K.ev++[_]).length<=_;have:=B.ev;simp;omega,by show K.tk<=_;have:=B.tk;omega,by show K.ids.length<=_;have:=B.ids;omega⟩
theorem Kb.call(B:Kb K m):Kb (yH K k).2 (m+1):=by
 have h1:=B.ev;have h2:=B.tk;have h3:=B.ids;cases k with
 |bg a=>exact⟨by show(K.ev++[_]).length<=_;simp;omega,by show K.tk<=_;omega,by show(K.ids++[_]).length<=_;simp;omega⟩
 |lk a b=>
  show Kb (je K a b).2 _;unfold je;split
  ·exact⟨by show(K.ev++[_]).length<=_;simp;omega,by show K.tk<=_;omega,by show K.ids.length<=_;omega⟩
  ·split
   ·exact y6 B
   ·exact⟨by show(K.ev++[_]).length<=_;simp;omega,by show K.tk<=_;omega,by show K.ids.length<=_;omega⟩
 |pt a b v=>exact⟨by show(K.ev++[_]).length<=_;simp;omega,by show K.tk<=_;omega,by show K.ids.length<=_;omega⟩
 |tk a=>
  show Kb (jd K a).2 _;unfold jd;split
  ·exact y6 B
  ·split
   ·exact y6 B
   ·exact⟨by show K.ev.length<=_;omega,by show K.tk+1<=_;omega,by show K.ids.length<=_;omega⟩
 |wr a=>
  show Kb (fg K a).2 _;unfold fg;split
  ·exact⟨by show K.ev.length<=_;omega,by show K.tk<=_;omega,by show K.ids.length<=_;omega⟩
  ·dsimp only;split
   ·exact y6 ⟨h1,h2,h3⟩
   ·exact⟨by show K.ev.length<=_;omega,by show K.tk<=_;omega,by show K.ids.length<=_;omega⟩
end
section
variable{cK cA:Cl}{i j:Nat}{pos pos':Pl->Option Nat}{c c':Pl->O}{T:Sto}{K:Kc}{p:Nat->Nat}{q:Int->Nat->Nat}
theorem Kr.fm(R:Kr cK cA i pos c K p q)(F:Fm j pos c pos' c')(h:i≠j):Kr cK cA i pos' c' K p q:=by
 have k:∀f,pos' (.k i f)=pos (.k i f)/\c' (.k i f)=c (.k i f):=fun f=>F (.k i f) h;have a:∀x f,pos' (.a i x f)=pos (.a i x f)/\c' (.a i x f)=c (.a i x f):=fun x f=>F (.a i x f) h;exact⟨fun f hf=>by rw[(k f).1];exact R.pk f hf,by rw[(k 0).2];exact R.c0,by rw[(k 1).2];exact R.c1,by rw[(k 2).2];exact R.c2,by rw[(k 3).2];exact R.c3,by rw[(k 4).2];exact R.c4,by rw[(k 5).2];exact R.c5,fun x hx f hf=>by rw[(a x f).1];exact R.pa x hx f hf,fun x hx=>by rw[(a x 0).2];exact R.a0 x hx,fun x hx=>by rw[(a x 1).2];exact R.a1 x hx,fun x hx=>by rw[(a x 2).2];exact R.a2 x hx,fun x hx=>by rw[(a x 3).2];exact R.a3 x hx⟩
def Fx(pos:Pl->Option Nat)(c:Pl->O)(pos':Pl->Option Nat)(c':Pl->O):Prop:=∀s,(∀f i,s≠.x f i)->pos' s=pos s/\c' s=c s
theorem Kr.fx(R:Kr cK cA i pos c K p q)(F:Fx pos c pos' c'):Kr cK cA i pos' c' K p q:=by
 have k:∀f,pos' (.k i f)=pos (.k i f)/\c' (.k i f)=c (.k i f):=fun f=>F (.k i f) fun _ _=>by simp
 have a:∀x f,pos' (.a i x f)=pos (.a i x f)/\c' (.a i x f)=c (.a i x f):=fun x f=>F (.a i x f) fun _ _=>by simp
 exact⟨fun f hf=>by rw[(k f).1];exact R.pk f hf,by rw[(k 0).2];exact R.c0,by rw[(k 1).2];exact R.c1,by rw[(k 2).2];exact R.c2,by rw[(k 3).2];exact R.c3,by rw[(k 4).2];exact R.c4,by rw[(k 5).2];exact R.c5,fun x hx f hf=>by rw[(a x f).1];exact R.pa x hx f hf,fun x hx=>by rw[(a x 0).2];exact R.a0 x hx,fun x hx=>by rw[(a x 1).2];exact R.a1 x hx,fun x hx=>by rw[(a x 2).2];exact R.a2 x hx,fun x hx=>by rw[(a x 3).2];exact R.a3 x hx⟩
def Fx.upd{f i:Nat}{o:O}:Fx pos c pos (aM c (.x f i) o):=fun s hs=>⟨rfl,aJ (hs f i)⟩
theorem MR{f i lw:Nat}{z m:Int}(M:Mm pos c T)(hp:pos (.x f i)=some lw)(hc:c (.x f i)=.lst [.int z])(hm:0<m)(hb:m<2^60):∃d z',nO [.ref lw,.int m] T=some (.int d,T.set lw (.lst [.int z']))/\Mm pos (aM c (.x f i) (.lst [.int z'])) (T.set lw (.lst [.int z']))/\0<=d/\d<m:=by
 have h:=M.get hp hc;refine⟨z % m,z / m,?_,M.set hp _,Int.emod_nonneg _ (by omega),Int.emod_lt_of_pos _ hm⟩;unfold nO;rw[wB];have dv:∀(j:Int) (S:Sto),CQ (.int j) (.int m) S=some (.int (j / m),S):=fun j S=>GA ⟨hm,l9 (by omega) hb⟩;have md:∀(j:Int) (S:Sto),tj (.int j) (.int m) S=some (.int (j % m),S):=fun j S=>wY hm;rwa[gJ,h,dv,md]
end
theorem wH{S:Sto}{ci el:CE}{ct:CT}{caps:List Nat}{ρ:Rho}{ld:Nat}{kus:List (Key×U)}{t:Key×U->Bool}{v:Key×U->U}{r:Rho}(hi:ci ρ S=some (.ref ld,S))(hd:S[ld]?=some (.dic kus))(hr:rV 1 caps ρ=none::r)(hl:kus.length<=900)
  (ht:∀ep ys,∀p∈kus,ct (some (kU p.1)::r) (S.set ld (.fdc ep kus)++[.lst ys])=some (t p,S.set ld (.fdc ep kus)++[.lst ys])) (he:∀p∈kus,∀Y,el (some (kU p.1)::r) Y=some (v p,Y)) :
  ko ci (gNm 0) ct el 1 caps ρ S=some (.ref S.length,S++[.lst ((kus.filter t).map v)]):=by
 have lk:ld<S.length:=(Q9.mp hd).1;unfold ko oe;rw[hi,QZ];simp only[hd];refine nS fun ep=>?_;have ek:∀X:Sto,(S.set ld (.fdc ep kus)++X)[ld]?=some (.fdc ep kus):=fun X=>aT (by rw[Z7,if_pos rfl,if_pos lk]);have key:∀(ks:List (Key×U)) (ys:List U) (r0:Option U),(∀p∈ks,p∈kus)->ys.length+ks.length<=9999->c6 (fun S'=>S'[ld]?=some (.fdc ep kus)) (gNm 0) ct el S.length (ks.map fun p=>kU p.1) (r0::r) (S.set ld (.fdc ep kus)++[.lst ys])=some (S.set ld (.fdc ep kus)++[.lst (ys++(ks.filter t).map v)]):=by
  intro ks;induction ks with
  |nil=>intro ys r0 _ _;rw[ZY,List.filter_nil,ZY,ZV];exact wF (ek _)
  |cons p ks ih=>
   intro ys r0 hm hn;rw[QV]at hn;have h1:=ht ep ys p (hm p QU);rw[QF];cases hp:t p with
   |false=>
    rw[hp]at h1;rw[List.filter_cons_of_neg (by rw[hp];exact Q6)];exact(zg (ρ0:=some (kU p.1)::r) (S0:=S.set ld (.fdc ep kus)++[.lst ys]) (ek _) rfl h1).trans (ih ys _ (fun q hq=>hm q (QX _ hq)) (by omega))
   |true=>
    rw[hp]at h1;rw[List.filter_cons_of_pos hp,QF];refine(wD (ρ0:=some (kU p.1)::r) (S0:=S.set ld (.fdc ep kus)++[.lst ys]) (S2:=S.set ld (.fdc ep kus)++[.lst ys]) (x:=v p) (ys:=ys) (ek _) rfl h1 (he p (hm p QU) _) ?_ (by unfold LIM;omega)).trans ?_
    ·have:=ga0 (S:=S.set ld (.fdc ep kus)) (X:=[.lst ys]);rw[Qt]at this;rw[this];rfl
    ·have:=gs0 (S:=S.set ld (.fdc ep kus)) (X:=[.lst ys]) (o:=.lst (ys++[v p]));rw[Qt]at this;rw[this];show c6 _ _ _ _ _ _ _ (S.set ld (.fdc ep kus)++[.lst (ys++[v p])])=_;rw[ih (ys++[v p]) _ (fun q hq=>hm q (QX _ hq)) (by simp;omega),Qw];rfl
 rw[hr,key kus [] none (fun p h=>h) (by simp;omega),QZ];have e2:(S.set ld (.fdc ep kus)++[O.lst ([]++(kus.filter t).map v)]).set ld (.dic kus)=S++[.lst ((kus.filter t).map v)]:=by
  rw[Zy _ _ (by rw[Qt];exact lk),jO hd,Qs]
 simp only[ek,e2]
inductive AnU:U->Prop where
 |no:AnU .non
 |nu (v:Int):AnU (.tup [.str "number",.int v])
 |fa:AnU (.tup [.str "falls"])
 |wd (w:Str) (h:w∈(["done","falls","taken","written",""]:List Str)):AnU (.str w)
section
variable{K:Kc}{k:Kl}
theorem LA:AnU (yH K k).1:=by
 cases k with
 |bg a=>exact .no
 |lk a b=>
  show AnU (je K a b).1;unfold je;split
  ·exact .nu _
  ·split
   ·exact .fa
   ·exact .nu _
 |pt a b v=>exact .no
 |tk a=>
  refine .wd _ ?_;unfold jd;repeat' split
  all_goals (dsimp only;decide)
 |wr a=>
  refine .wd _ ?_;unfold fg;split
  ·dsimp only;decide
  ·dsimp only;split<;>(dsimp only;decide)
theorem E4{w:Str}(h:(PyData.str w).canLay0=true):t6 (.tuple [.str w]):=⟨by simp[PyData.canLay0,PyData.canLayAll0]at h ⊢;exact h,by simp[PyData.depth,PyData.depthAll]⟩
theorem E5{w:Str}{v:Int}(h:(PyData.str w).canLay0=true):t6 (.tuple [.str w,.int v]):=⟨by simp[PyData.canLay0,PyData.canLayAll0]at h ⊢;exact h,by simp[PyData.depth,PyData.depthAll]⟩
theorem ly{w:Str}(h:w∈(["done","falls","taken","written",""]:List Str)):(PyData.str w).canLay0=true:=by
 have:(["done","falls","taken","written",""]:List Str).all (fun w=>(PyData.str w).canLay0)=true:=by decide +kernel
 exact List.all_eq_true.mp this w h
def lyn:(PyData.str "number").canLay0=true:=by decide +kernel
end
end OQ
namespace OL
open PySem PySem.Spec PyProof.Rows L2 OG OP OQ
structure At where
 g:Int
 lk:List Int
 pu:List (Int×Int)
 lf:List Int
 st:Int
 op:Bool
structure Mo where
 bx:List Int
 ma:List Int
 ck:Int
 ids:List Int
 A:Int->At
 lg:List U
def Mo.up(M:Mo)(a:Int)(v:At):Mo:={ M with A:=fun x=>if x=a then v else M.A x }
def mD(ck:Int)(p:Nat->Nat):List (Key×U):=[(.inr "boxes",.ref (p 1)),(.inr "marks",.ref (p 2)),(.inr "clock",.int ck),(.inr "tries",.ref (p 3)),(.inr "log",.ref (p 4))]
def aD(g st:Int)(op:Bool)(r1 r2 r3:Nat):List (Key×U):=[(.inr "glance",.int g),(.inr "looked",.ref r1),(.inr "puts",.ref r2),(.inr "left",.ref r3),(.inr "stamp",.int st),(.inr "open",.bl op)]
section
variable{ck g st x:Int}{op b:Bool}{p:Nat->Nat}{r1 r2 r3 y:Nat}
def vB:bq (mD ck p) (.inr "boxes")=uR (p 1):=rfl
def vM:bq (mD ck p) (.inr "marks")=uR (p 2):=rfl
def vC:bq (mD ck p) (.inr "clock")=uI ck:=rfl
def vT:bq (mD ck p) (.inr "tries")=uR (p 3):=rfl
def vL:bq (mD ck p) (.inr "log")=uR (p 4):=rfl
def wC:eM (mD ck p) (.inr "clock") (.int x)=mD x p:=rfl
def lM:(mD ck p).length<LIM:=by unfold LIM;exact ZR rfl
def vg:bq (aD g st op r1 r2 r3) (.inr "glance")=uI g:=rfl
def vl:bq (aD g st op r1 r2 r3) (.inr "looked")=uR r1:=rfl
def vp:bq (aD g st op r1 r2 r3) (.inr "puts")=uR r2:=rfl
def vf:bq (aD g st op r1 r2 r3) (.inr "left")=uR r3:=rfl
def vs:bq (aD g st op r1 r2 r3) (.inr "stamp")=uI st:=rfl
def vo:bq (aD g st op r1 r2 r3) (.inr "open")=some (.bl op):=rfl
def wg:eM (aD g st op r1 r2 r3) (.inr "glance") (.int x)=aD x st op r1 r2 r3:=rfl
def wf:eM (aD g st op r1 r2 r3) (.inr "left") (.ref y)=aD g st op r1 r2 y:=rfl
def ws:eM (aD g st op r1 r2 r3) (.inr "stamp") (.int x)=aD g x op r1 r2 r3:=rfl
def wo:eM (aD g st op r1 r2 r3) (.inr "open") (.bl b)=aD g st b r1 r2 r3:=rfl
def lA:(aD g st op r1 r2 r3).length<LIM:=by unfold LIM;exact ZR rfl
end
def mK(M:Mo)(p:Nat->Nat)(q:Int->Nat->Nat):Nat->O
 |0=>.dic (mD M.ck p)
 |1=>.lst (M.bx.map U.int)
 |2=>.lst (M.ma.map U.int)
 |3=>.dic (M.ids.map fun a=>(.inl a,.ref (q a 0)))
 |_=>.lst M.lg
def mA(A:At)(r:Nat->Nat):Nat->O
 |0=>.dic (aD A.g A.st A.op (r 1) (r 2) (r 3))
 |1=>.lst (A.lk.map U.int)
 |2=>.dic (dI A.pu)
 |_=>.lst (A.lf.map U.int)
structure Mr(j:Nat)(pos:Pl->Option Nat)(c:Pl->O)(M:Mo)(p:Nat->Nat)(q:Int->Nat->Nat):Prop where
 pk:∀f,f<5->pos (.k j f)=some (p f)
 ck:∀f,f<5->c (.k j f)=mK M p q f
 pa:∀a∈M.ids,∀f,f<4->pos (.a j a f)=some (q a f)
 ca:∀a∈M.ids,∀f,f<4->c (.a j a f)=mA (M.A a) (q a) f
section
variable{j n:Nat}{pos pos':Pl->Option Nat}{c c':Pl->O}{M M':Mo}{p:Nat->Nat}{q:Int->Nat->Nat}{a b:Int}{o:O}{v w:At}
theorem Mr.uk(R:Mr j pos c M p q)(f0:Nat)(hi:M'.ids=M.ids)(hA:M'.A=M.A)(h:∀f,f<5->mK M' p q f=if f=f0 then o else mK M p q f):Mr j pos (aM c (.k j f0) o) M' p q:=
 ⟨R.pk,fun f hf=>by
  rw[h f hf];by_cases e:f=f0
  ·subst e;rw[if_pos rfl,bQ]
  ·rw[if_neg e,aJ (fun z=>e (by cases z;rfl))];exact R.ck f hf,fun a ha=>R.pa a (by rw[<-hi];exact ha),fun a ha f hf=>by rw[aJ (by simp),hA];exact R.ca a (by rw[<-hi];exact ha) f hf⟩
theorem Mr.ua(R:Mr j pos c M p q)(f0:Nat)(h:∀f,f<4->mA v (q a) f=if f=f0 then o else mA (M.A a) (q a) f):Mr j pos (aM c (.a j a f0) o) (M.up a v) p q:=
 ⟨R.pk,fun f hf=>by
  rw[aJ (by simp),R.ck f hf];match f,hf with
  |0,_=>rfl
  |1,_=>rfl
  |2,_=>rfl
  |3,_=>rfl
  |4,_=>rfl,R.pa,fun x hx f hf=>by
  by_cases e:x=a
  ·subst e;have:(M.up x v).A x=v:=if_pos rfl;rw[this,h f hf];by_cases e:f=f0
   ·subst e;rw[if_pos rfl,bQ]
   ·rw[if_neg e,aJ (fun z=>e (by cases z;rfl))];exact R.ca x hx f hf
  ·have:(M.up a v).A x=M.A x:=if_neg e;rw[this,aJ (fun z=>e (by cases z;rfl))];exact R.ca x hx f hf⟩
theorem Mr.fm{i:Nat}(R:Mr j pos c M p q)(F:Fm i pos c pos' c')(h:j≠i):Mr j pos' c' M p q:=
 ⟨fun f hf=>by rw[(F (.k j f) h).1];exact R.pk f hf,fun f hf=>by rw[(F (.k j f) h).2];exact R.ck f hf,fun a ha f hf=>by rw[(F (.a j a f) h).1];exact R.pa a ha f hf,fun a ha f hf=>by rw[(F (.a j a f) h).2];exact R.ca a ha f hf⟩
theorem Mr.fx(R:Mr j pos c M p q)(F:Fx pos c pos' c'):Mr j pos' c' M p q:=
 ⟨fun f hf=>by rw[(F (.k j f) (by simp)).1];exact R.pk f hf,fun f hf=>by rw[(F (.k j f) (by simp)).2];exact R.ck f hf,fun a ha f hf=>by rw[(F (.a j a f) (by simp)).1];exact R.pa a ha f hf,fun a ha f hf=>by rw[(F (.a j a f) (by simp)).2];exact R.ca a ha f hf⟩
theorem LY:(M.up a v).up a w=M.up a w:=by
 unfold Mo.up;congr 1;funext x;by_cases h:x=a<;>simp[h]
def gG:(M.up a v).A a=v:=if_pos rfl
def Nm(j:Nat)(pos:Pl->Option Nat)(c:Pl->O)(p:Nat->Nat)(M':Mo)(T':Sto):Prop:=∃pos' c' q',Mm pos' c' T'/\Mr j pos' c' M' p q'/\Fm j pos c pos' c'
def Bj(M:Mo)(b o:Int):Bool:=!decide ((M.A o).lf=[])&&((bq (M.A o).pu b).isSome)
def fe(M:Mo)(a b:Int):Bool:=M.ids.any fun o=>!decide (o=a)&&Bj M b o
def hl(M:Mo)(q:Int->Nat->Nat)(p0:Nat)(a b:Int):List Int->Option U->Option U->Nat->Out×Rho×Nat
 |[],r3,r4,n=>(.nx,[uR p0,uI a,uI b,r3,r4],n)
 |o::ks,_,_,n=>if o=a then hl M q p0 a b ks (uI o) (uR (q o 0)) n else if Bj M b o=true then(.rt (.bl true),[uR p0,uI a,uI b,uI o,uR (q o 0)],n+1)else hl M q p0 a b ks (uI o) (uR (q o 0)) (n+1)
theorem yP{p0:Nat}:∀(ks:List Int) (r3 r4:Option U) (n:Nat),(hl M q p0 a b ks r3 r4 n).1=if (ks.any fun o=>!decide (o=a)&&Bj M b o)=true then .rt (.bl true)else .nx
 |[],r3,r4,n=>rfl
 |o::ks,r3,r4,n=>by
  unfold hl;rw[ZE];by_cases h:o=a
  ·rw[if_pos h,yP ks];simp[h]
  ·rw[if_neg h];cases hh:Bj M b o with
   |true=>simp[h]
   |false=>simp[h,yP ks]
end
section
variable{j n:Nat}{pos:Pl->Option Nat}{c:Pl->O}{T:Sto}{M:Mo}{p:Nat->Nat}{q:Int->Nat->Nat}{a b:Int}{o:O}
abbrev nls(n:Nat):Sto:=QY n (.lst [])
theorem qM{Y:Sto}{t:O}(M1:Mm pos c Y)(p0:pos (.k j 0)=some (p 0))(c0:c (.k j 0)=.dic (mD M.ck p))(p3:Y[p 3]?=some t)(ht:∀a:Int,a∈M.ids->kIx (.int a) Y (some t)=some (.ref (q a 0),Y))(ht':∀(a:Int) n,a∈M.ids->kIx (.int a) (Y++nls n) (some t)=some (.ref (q a 0),Y++nls n))
  (pa:∀a∈M.ids,∀f,f<4->pos (.a j a f)=some (q a f)) (ca:∀x∈M.ids,x≠a->∀f,f<4->c (.a j x f)=mA (M.A x) (q x) f) (ok:Sto->Prop) (hok:∀n,ok (Y++nls n)) :
  ∀(ks:List Int) (r3 r4:Option U) (n:Nat),(∀k∈ks,k∈M.ids)->dX ok (gNm 3) cT (ks.map U.int) [uR (p 0),uI a,uI b,r3,r4] (Y++nls n)=some ((hl M q (p 0) a b ks r3 r4 n).1,(hl M q (p 0) a b ks r3 r4 n).2.1,Y++nls (hl M q (p 0) a b ks r3 r4 n).2.2)
 |[],r3,r4,n,_=>gi (hok n)
 |o::ks,r3,r4,n,hks=>by
  have ho:=hks o QU;have ih:=qM M1 p0 c0 p3 ht ht' pa ca ok hok ks (uI o) (uR (q o 0));have N:=M1.app (nls n);have t0:=N.get p0 c0;have t3:(Y++nls n)[p 3]?=some t:=aT p3;have hi:=ht' o n ho;unfold hl;by_cases e:o=a
  ·rw[if_pos e];have d1:decide (o=a)=true:=decide_eq_true e;refine(gX (hok n) rfl ?_).trans (ih n fun k hk=>hks k (QX _ hk));rwa[cT,t0,vT,t3,hi,d1]
  ·rw[if_neg e];have d1:decide (o=a)=false:=decide_eq_false e;have to:(Y++nls n)[q o 0]?=some (.dic (aD (M.A o).g (M.A o).st (M.A o).op (q o 1) (q o 2) (q o 3))):=N.get (pa o ho 0 (by decide)) (ca o ho e 0 (by decide));have tf:(Y++nls n)[q o 3]?=some (.lst ((M.A o).lf.map U.int)):=N.get (pa o ho 3 (by decide)) (ca o ho e 3 (by decide));have tp:(Y++nls n)[q o 2]?=some (.dic (dI (M.A o).pu)):=N.get (pa o ho 2 (by decide)) (ca o ho e 2 (by decide));have e1:Y++nls n++[O.lst []]=Y++nls (n+1):=by rw[Qw,<-List.replicate_succ']
   have eq:=kb true (S:=Y++nls n++[.lst []]) (l:=q o 3) (l':=(Y++nls n).length) (ns:=(M.A o).lf) (ms:=[]) (aT tf) (by rw[ga0];rfl);have to':=aT (r:=[O.lst []]) to;have tp':=aT (r:=[O.lst []]) tp;simp only[if_true]at eq;rw[Qw]at eq to' tp';cases hh:Bj M b o with
   |true=>
    rw[if_pos rfl];unfold Bj at hh;obtain⟨h1,h2⟩:=Bool.and_eq_true_iff.mp hh;rw[h1]at eq;refine yu (hok n) rfl ?_;rw[<-e1];rwa[cT,t0,vT,t3,hi,d1,to,vf,eq,to',vp,tp',g9,Option.isSome_map,h2,Qh,if_false]
   |false=>
    rw[if_neg Q6];refine(gX (hok n) rfl ?_).trans (ih (n+1) fun k hk=>hks k (QX _ hk));rw[<-e1];unfold Bj at hh;cases h1:(!decide ((M.A o).lf=[]))with
    |false=>
     rw[h1]at eq;rwa[cT,t0,vT,t3,hi,d1,to,vf,eq]
    |true=>
     rw[h1]at eq hh;rw[Bool.true_and]at hh;rwa[cT,t0,vT,t3,hi,d1,to,vf,eq,to',vp,tp',g9,Option.isSome_map,hh,Qh,if_false]
def hZ:Fn:=fnU 5 3 fV
def hN(M:Mo)(q:Int->Nat->Nat)(p0:Nat)(a b:Int):Nat:=(hl M q p0 a b M.ids none none 0).2.2
def CN:((M.ids.map fun a=>((.inl a:Key),U.ref (q a 0))).map fun e=>kU e.1)=M.ids.map U.int:=by rw[Qu];rfl
theorem u7{Y:Sto}(M1:Mm pos c Y)(pk:∀f,f<5->pos (.k j f)=some (p f))(ck:∀f,f<5->c (.k j f)=mK M p q f)
  (pa:∀a∈M.ids,∀f,f<4->pos (.a j a f)=some (q a f)) (ca:∀x∈M.ids,x≠a->∀f,f<4->c (.a j x f)=mA (M.A x) (q x) f) :
  hZ [.ref (p 0),.int a,.int b] Y=some (.bl (fe M a b),Y++nls (hN M q (p 0) a b)):=by
 have t0:Y[p 0]?=some (.dic (mD M.ck p)):=M1.get (pk 0 (by decide)) (ck 0 (by decide));have t3:Y[p 3]?=some (.dic (M.ids.map fun a=>(.inl a,.ref (q a 0)))):=M1.get (pk 3 (by decide)) (ck 3 (by decide));have l3:=(Q9.mp t3).1;have hi:cOp fIx (ak 0) (cC (.str "tries")) [uR (p 0),uI a,uI b,none,none] Y=some (.ref (p 3),Y):=by rwa[t0,vT]
 have ef:rJ (cOp fIx (ak 0) (cC (.str "tries"))) (gNm 3) cT [uR (p 0),uI a,uI b,none,none] Y=some ((hl M q (p 0) a b M.ids none none 0).1,(hl M q (p 0) a b M.ids none none 0).2.1,Y++nls (hN M q (p 0) a b)):=by
  unfold rJ;rw[hi,QZ];simp only[t3,CN];refine nS fun ep=>?_;have M2:=M1.set (pk 3 (by decide)) (.fdc ep (M.ids.map fun a=>(.inl a,.ref (q a 0))));have e3:(Y.set (p 3) (O.fdc ep (M.ids.map fun a=>(.inl a,.ref (q a 0)))))[p 3]?=some (.fdc ep (M.ids.map fun a=>(.inl a,.ref (q a 0)))):=by rw[Z7,if_pos rfl,if_pos l3]
  have key:=qM (b:=b) (ok:=fun S'=>S'[p 3]?=some (.fdc ep (M.ids.map fun a=>(.inl a,.ref (q a 0))))) M2 (pk 0 (by decide)) ((aJ (by simp)).trans (ck 0 (by decide))) e3 (fun a ha=>by rw[zT,zS,QZ,bZ ha];rfl) (fun a n ha=>by rw[zT,zS,QZ,bZ ha];rfl) pa (fun x hx hxa f hf=>(aJ (by simp)).trans (ca x hx hxa f hf)) (fun n=>aT e3) M.ids none none 0 fun _ h=>h;rw[show nls 0=[]from rfl,ZV]at key;rw[key,QZ];have e4:(Y.set (p 3) (O.fdc ep (M.ids.map fun a=>(.inl a,.ref (q a 0))))++nls (hl M q (p 0) a b M.ids none none 0).2.2)[p 3]?=some (.fdc ep (M.ids.map fun a=>(.inl a,.ref (q a 0)))):=aT e3;simp only[e4];rw[Zy _ _ (by rw[Qt];exact l3),jO t3];rfl
 unfold hZ;rw[tH];unfold fV fe;have ho:=yP (M:=M) (q:=q) (a:=a) (b:=b) (p0:=p 0) M.ids none none 0;cases hm:M.ids.any fun o=>!decide (o=a)&&Bj M b o with
 |true=>
  rw[hm,if_pos rfl]at ho;rw[ho]at ef;rwa[ef]
 |false=>
  rw[hm,if_neg Q6]at ho;rw[ho]at ef;rwa[ef]
theorem yR(M1:Mm pos c T)(R:Mr j pos c M p q):hZ [.ref (p 0),.int a,.int b] T=some (.bl (fe M a b),T++nls (hN M q (p 0) a b)):=u7 M1 R.pk R.ck R.pa fun x hx _=>R.ca x hx
def jH:Fn:=fnU 4 2 (fk hZ)
def fJ(M:Mo)(a:Int):Bool:=!((M.A a).lk.any fun b=>fe M a b||decide ((M.A a).g<M.ma.getD b.toNat 0))
theorem um(M1:Mm pos c T)(R:Mr j pos c M p q)(ha:a∈M.ids)(hl:(M.A a).lk.length<=900)(hb:∀b∈(M.A a).lk,0<=b/\b<M.ma.length):∃X,jH [.ref (p 0),.int a] T=some (.bl (fJ M a),T++X):=by
 have t0:∀X,(T++X)[p 0]?=some (.dic (mD M.ck p)):=fun X=>(M1.app X).get (R.pk 0 (by decide)) (R.ck 0 (by decide));have t2:∀X,(T++X)[p 2]?=some (.lst (M.ma.map U.int)):=fun X=>(M1.app X).get (R.pk 2 (by decide)) (R.ck 2 (by decide));have t3:T[p 3]?=some (.dic (M.ids.map fun a=>(.inl a,.ref (q a 0)))):=M1.get (R.pk 3 (by decide)) (R.ck 3 (by decide));have to:∀X,(T++X)[q a 0]?=some (.dic (aD (M.A a).g (M.A a).st (M.A a).op (q a 1) (q a 2) (q a 3))):=fun X=>(M1.app X).get (R.pa a ha 0 (by decide)) (R.ca a ha 0 (by decide));have tl:∀X,(T++X)[q a 1]?=some (.lst ((M.A a).lk.map U.int)):=fun X=>(M1.app X).get (R.pa a ha 1 (by decide)) (R.ca a ha 1 (by decide));have h0:=t0 [];have h1:=to [];have h2:=tl [];rw[ZV]at h0 h1 h2;have vi:=bZ (q:=q) ha;have key:Wp (dX (fun S=>S[q a 1]?=some (.lst ((M.A a).lk.map U.int))) (gNm 3) (cX hZ) ((M.A a).lk.map U.int) [uR (p 0),uI a,uR (q a 0),none] T) fun r=>∃X,r.2.2=T++X/\((fJ M a=true/\r.1=.nx)\/(fJ M a=false/\r.1=.rt (.bl false))):=by
  refine DX (f:=U.int) (I:=fun bs ρ S=>(∀b∈bs,b∈(M.A a).lk)/\fJ M a=!(bs.any fun b=>fe M a b||decide ((M.A a).g<M.ma.getD b.toNat 0))/\∃r X,ρ=[uR (p 0),uI a,uR (q a 0),r]/\S=T++X) ?_ ?_ _ _ _ ⟨fun _ h=>h,rfl,none,[],rfl,by simp⟩
  ·rintro ρ S ⟨_,h,r,X,rfl,rfl⟩;exact⟨tl X,X,rfl,.inl ⟨h,rfl⟩⟩
  ·rintro b bs ρ S ⟨hs,h,r,X,rfl,rfl⟩;refine⟨tl X,.of rfl ?_⟩;obtain⟨b0,b1⟩:=hb b (hs b QU);have eh:=yR (a:=a) (b:=b) (M1.app X) R;have am:=BV (xs:=M.ma) b0 b1;rw[Qw]at eh;rw[ZE]at h;have z0:=t0 (X++nls (hN M q (p 0) a b));have z2:=t2 (X++nls (hN M q (p 0) a b));have zo:=to (X++nls (hN M q (p 0) a b));dsimp only;cases hh:fe M a b with
   |true=>
    rw[hh]at eh h;refine .of (r:=(.rt (.bl false),[uR (p 0),uI a,uR (q a 0),uI b],T++(X++nls (hN M q (p 0) a b)))) ?_ (.inr ⟨_,rfl,_,rfl,.inr ⟨by simpa using h,rfl⟩⟩);rwa[cX,eh]
   |false=>
    rw[hh]at eh h;cases hg:decide ((M.A a).g<M.ma.getD b.toNat 0)with
    |true=>
     rw[hg]at h;refine .of (r:=(.rt (.bl false),[uR (p 0),uI a,uR (q a 0),uI b],T++(X++nls (hN M q (p 0) a b)))) ?_ (.inr ⟨_,rfl,_,rfl,.inr ⟨by simpa using h,rfl⟩⟩);rwa[cX,eh,z0,vM,z2,am,zo,vg,hg]
    |false=>
     rw[hg]at h;refine .of (r:=(.nx,[uR (p 0),uI a,uR (q a 0),uI b],T++(X++nls (hN M q (p 0) a b)))) ?_ (.inl ⟨rfl,fun b hb=>hs b (QX _ hb),by simpa using h,_,_,rfl,rfl⟩);rwa[cX,eh,z0,vM,z2,am,zo,vg,hg]
 obtain⟨⟨out,ρ',S'⟩,e,X,e1,e2⟩:=key;dsimp only at e1 e2;subst e1;refine⟨X,?_⟩;have hi:iTp (cOp fIx (ak 2) (cC (.str "looked"))) [uR (p 0),uI a,uR (q a 0),none] T=some ((M.A a).lk.map U.int,fun S=>S[q a 1]?=some (.lst ((M.A a).lk.map U.int)),T):=By (by rwa[h1,vl]) h2;have ef:og (iTp (cOp fIx (ak 2) (cC (.str "looked")))) (gNm 3) (cX hZ) [uR (p 0),uI a,uR (q a 0),none] T=some (out,ρ',T++X):=by
  unfold og;rw[hi];exact e
 unfold jH;rw[rg];unfold fk;rcases e2 with⟨e2,rfl⟩|⟨e2,rfl⟩
 ·rw[e2];rwa[h0,vT,t3,vi,ef]
 ·rw[e2];rwa[h0,vT,t3,vi,ef]
end
section
variable{j n:Nat}{pos:Pl->Option Nat}{c:Pl->O}{T:Sto}{M:Mo}{p:Nat->Nat}{q:Int->Nat->Nat}{a b:Int}{o:O}{v w:At}{u:U}
theorem Mr.t0(R:Mr j pos c M p q)(M1:Mm pos c T):T[p 0]?=some (.dic (mD M.ck p)):=M1.get (R.pk 0 (by decide)) (R.ck 0 (by decide))
theorem Mr.t1(R:Mr j pos c M p q)(M1:Mm pos c T):T[p 1]?=some (.lst (M.bx.map U.int)):=M1.get (R.pk 1 (by decide)) (R.ck 1 (by decide))
theorem Mr.t2(R:Mr j pos c M p q)(M1:Mm pos c T):T[p 2]?=some (.lst (M.ma.map U.int)):=M1.get (R.pk 2 (by decide)) (R.ck 2 (by decide))
theorem Mr.t3(R:Mr j pos c M p q)(M1:Mm pos c T):T[p 3]?=some (.dic (M.ids.map fun a=>(.inl a,.ref (q a 0)))):=M1.get (R.pk 3 (by decide)) (R.ck 3 (by decide))
theorem Mr.t4(R:Mr j pos c M p q)(M1:Mm pos c T):T[p 4]?=some (.lst M.lg):=M1.get (R.pk 4 (by decide)) (R.ck 4 (by decide))
theorem Mr.ao(R:Mr j pos c M p q)(M1:Mm pos c T)(ha:a∈M.ids):T[q a 0]?=some (.dic (aD (M.A a).g (M.A a).st (M.A a).op (q a 1) (q a 2) (q a 3))):=M1.get (R.pa a ha 0 (by decide)) (R.ca a ha 0 (by decide))
theorem Mr.al(R:Mr j pos c M p q)(M1:Mm pos c T)(ha:a∈M.ids):T[q a 1]?=some (.lst ((M.A a).lk.map U.int)):=M1.get (R.pa a ha 1 (by decide)) (R.ca a ha 1 (by decide))
theorem Mr.ap(R:Mr j pos c M p q)(M1:Mm pos c T)(ha:a∈M.ids):T[q a 2]?=some (.dic (dI (M.A a).pu)):=M1.get (R.pa a ha 2 (by decide)) (R.ca a ha 2 (by decide))
theorem Mr.af(R:Mr j pos c M p q)(M1:Mm pos c T)(ha:a∈M.ids):T[q a 3]?=some (.lst ((M.A a).lf.map U.int)):=M1.get (R.pa a ha 3 (by decide)) (R.ca a ha 3 (by decide))
theorem Mr.say(R:Mr j pos c M p q)(lg:List U):Mr j pos (aM c (.k j 4) (.lst lg)) { M with lg:=lg } p q:=R.uk 4 rfl rfl fun f hf=>by
 match f,hf with
 |0,_=>rfl
 |1,_=>rfl
 |2,_=>rfl
 |3,_=>rfl
 |4,_=>rfl
theorem Mr.sO(R:Mr j pos c M p q)(g st:Int)(op:Bool):Mr j pos (aM c (.a j a 0) (.dic (aD g st op (q a 1) (q a 2) (q a 3)))) (M.up a { M.A a with g:=g,st:=st,op:=op }) p q:=R.ua 0 fun f hf=>by
 match f,hf with
 |0,_=>rfl
 |1,_=>rfl
 |2,_=>rfl
 |3,_=>rfl
def Mo.say(M:Mo)(e:U):Mo:={ M with lg:=M.lg++[e] }
def Bk(M:Mo)(a:Int)(w:Str):Mo:=(M.up a { M.A a with op:=false }).say (.tup [.str w,.int a])
def kZ:Fn:=fnU 4 4 fu
theorem kh{w:Str}(M1:Mm pos c T)(R:Mr j pos c M p q)(ha:a∈M.ids)(hl:M.lg.length<=9000):Wp (kZ [.ref (p 0),.int a,.str w,u] T) fun r=>r.1=u/\Nm j pos c p (Bk M a w) r.2:=by
 have t0:=R.t0 M1;have t3:=R.t3 M1;have to:=R.ao M1 ha;have vi:=bZ (q:=q) ha;have M2:=M1.set (R.pa a ha 0 (by decide)) (.dic (aD (M.A a).g (M.A a).st false (q a 1) (q a 2) (q a 3)));have R2:=R.sO (a:=a) (M.A a).g (M.A a).st false;have s0:=R2.t0 M2;have s4:=R2.t4 M2;have hL:M.lg.length<LIM:=by unfold LIM;omega
 refine⟨(u,_),?_,rfl,pos,_,q,M2.set (R2.pk 4 (by decide)) (.lst (M.lg++[.tup [.str w,.int a]])),R2.say _,(Fm.refl.ua a 0).uk 4⟩;unfold kZ;rw[rl];rwa[fu,t0,vT,t3,vi,to,lA,if_true,wo,s0,vL,s4,Mo.up,e8 hL]
def qC(M:Mo)(a b:Int):Mo:=M.up a { M.A a with g:=if (M.A a).g<M.ma.getD b.toNat 0 then M.ck else(M.A a).g,lk:=(M.A a).lk++[b] }
def mC(M:Mo)(a b:Int):U×Mo:=match bq (M.A a).pu b with
 |some v=>(.tup [.str "number",.int v],M.say (.tup [.str "look",.int a,.int b,.int v]))
 |none=>if (fe M a b||(decide ((M.A a).g<M.ma.getD b.toNat 0)&&!fJ M a))=true then(.tup [.str "falls"],Bk M a "fall")else(.tup [.str "number",.int (M.bx.getD b.toNat 0)],(qC M a b).say (.tup [.str "look",.int a,.int b,.int (M.bx.getD b.toNat 0)]))
def tW:Fn:=fnU 5 3 (eV hZ jH kZ)
structure Mw(M:Mo)(n:Nat):Prop where
 lb:M.bx.length=n
 lm:M.ma.length=n
 few:n<=900
 lk:∀a∈M.ids,(M.A a).lk.length<=900/\∀b∈(M.A a).lk,0<=b/\b<n
 pu:∀a∈M.ids,(M.A a).pu.length<64/\((M.A a).pu.map (·.1)).Nodup
theorem Bc(M1:Mm pos c T)(R:Mr j pos c M p q)(W:Mw M n)(ha:a∈M.ids)(b0:0<=b)(b1:b<n)(hl:M.lg.length<=9000)(hk:(M.A a).lk.length<=800):Wp (tW [.ref (p 0),.int a,.int b] T) fun r=>r.1=(mC M a b).1/\Nm j pos c p (mC M a b).2 r.2:=by
 have t0:∀X,(T++X)[p 0]?=_:=fun X=>R.t0 (M1.app X);have t1:=R.t1 M1;have t2:∀X,(T++X)[p 2]?=_:=fun X=>R.t2 (M1.app X);have t3:=R.t3 M1;have t4:=R.t4 M1;have to:∀X,(T++X)[q a 0]?=_:=fun X=>R.ao (M1.app X) ha;have tp:=R.ap M1 ha;have vi:=bZ (q:=q) ha;have ab:=BV (xs:=M.bx) b0 (by rw[W.lb];exact b1);have am:=BV (xs:=M.ma) b0 (by rw[W.lm];exact b1);have hL:M.lg.length<LIM:=by unfold LIM;omega
 have z0:=t0 [];have zo:=to [];rw[ZV]at z0 zo;unfold tW mC;rw[tF];cases hv:bq (M.A a).pu b with
 |some v=>
  refine⟨(_,_),?_,rfl,pos,_,q,M1.set (R.pk 4 (by decide)) (.lst (M.lg++[.tup [.str "look",.int a,.int b,.int v]])),R.say _,Fm.refl.uk 4⟩;rwa[eV,z0,vT,t3,vi,vB,t1,ab,zo,vp,tp,g9,hv,ZF,ZU,Qh,if_false,vL,t4,e8 hL]
 |none=>
  have eh:=yR (a:=a) (b:=b) M1 R;generalize nls (hN M q (p 0) a b)=X1 at eh;obtain⟨X2,es⟩:=um (M1.app X1) R ha (W.lk a ha).1 (by rw[W.lm];exact(W.lk a ha).2);rw[Qw]at es;have y0:=t0 X1;have y2:=t2 X1;have yo:=to X1;dsimp only;have tst:∃X,(cOr (aU (cCB hZ (ah (ak 0) (ah (ak 1) (ah (ak 2) aN))))) (C3 (aU (cOp fGt (cOp fIx (cOp fIx (ak 0) (cC (.str "marks"))) (ak 2)) (cOp fIx (ak 3) (cC (.str "glance"))))) (wI (aU (cCB jH (ah (ak 0) (ah (ak 1) aN))))))) [uR (p 0),uI a,uI b,uR (q a 0),uI (M.bx.getD b.toNat 0)] T=some ((fe M a b||(decide ((M.A a).g<M.ma.getD b.toNat 0)&&!fJ M a)),T++X):=by
   cases h1:fe M a b with
   |true=>rw[h1]at eh;exact⟨X1,by rwa[eh,Bool.true_or]⟩
   |false=>
    rw[h1]at eh;cases h2:decide ((M.A a).g<M.ma.getD b.toNat 0)with
    |false=>exact⟨X1,by rwa[eh,y0,vM,y2,am,yo,vg,h2,Ze,Bool.false_and]⟩
    |true=>
     cases h3:fJ M a with
     |true=>rw[h3]at es;exact⟨X1++X2,by rwa[eh,y0,vM,y2,am,yo,vg,h2,es,Ze,Bool.true_and,Zw]⟩
     |false=>rw[h3]at es;exact⟨X1++X2,by rwa[eh,y0,vM,y2,am,yo,vg,h2,es,Ze,Bool.true_and,Bool.not_false]⟩
  obtain⟨X,et⟩:=tst;have M2:=M1.app X;have x0:=t0 X;have x2:=t2 X;have xo:=to X;have x3:=R.t3 M2;have xl:=R.al M2 ha;have x4:=R.t4 M2;unfold eV;rw[bS (ρ':=[uR (p 0),uI a,uI b,uR (q a 0),none]) (S':=T) (by rwa[z0,vT,t3,vi])];rw[bS (ρ':=[uR (p 0),uI a,uI b,uR (q a 0),uI (M.bx.getD b.toNat 0)]) (S':=T) (by rwa[z0,vB,t1,ab])];have ei:∀{c1 c2:CS},eW (aU (cOp (fIn false) (ak 2) (cOp fIx (ak 3) (cC (.str "puts"))))) c1 c2 [uR (p 0),uI a,uI b,uR (q a 0),uI (M.bx.getD b.toNat 0)] T=c2 [uR (p 0),uI a,uI b,uR (q a 0),uI (M.bx.getD b.toNat 0)] T:=fun{c1 c2}=>by
   rwa[zo,vp,tp,g9,hv,Option.map_none,Option.isSome_none,Qh,if_false]
  cases hb:(fe M a b||(decide ((M.A a).g<M.ma.getD b.toNat 0)&&!fJ M a))with
  |true=>
   rw[hb]at et;rw[if_pos rfl];obtain⟨⟨u1,T1⟩,e4,rfl,N⟩:=kh (w:="fall") (u:=.tup [.str "falls"]) M2 R ha hl;refine⟨(_,T1),?_,rfl,N⟩;rw[qb,ei,kB,et];rwa[e4]
  |false=>
   rw[hb]at et;rw[if_neg Q6];have hK:((M.A a).lk.map U.int).length<LIM:=by unfold LIM;rw[Q8];omega
   have mL:(M.A a).lk.map U.int++[.int b]=((M.A a).lk++[b]).map U.int:=by rw[Zg];rfl
   by_cases hg:(M.A a).g<M.ma.getD b.toNat 0
   ·have hd:decide ((M.A a).g<M.ma.getD b.toNat 0)=true:=decide_eq_true hg;have M3:=M2.set (R.pa a ha 0 (by decide)) (.dic (aD M.ck (M.A a).st (M.A a).op (q a 1) (q a 2) (q a 3)));have R3:=R.sO (a:=a) M.ck (M.A a).st (M.A a).op;have s0:=R3.t0 M3;have s4:=R3.t4 M3;have so:=R3.ao M3 ha;have sl:=R3.al M3 ha;rw[gG]at so sl;have M4:=M3.set (R3.pa a ha 1 (by decide)) (.lst (((M.A a).lk++[b]).map U.int));have R4:Mr j pos (aM (aM c (.a j a 0) (.dic (aD M.ck (M.A a).st (M.A a).op (q a 1) (q a 2) (q a 3)))) (.a j a 1) (.lst (((M.A a).lk++[b]).map U.int))) (qC M a b) p q:=by
     have:=R3.ua (a:=a) (v:={ M.A a with g:=M.ck,lk:=(M.A a).lk++[b] }) (o:=.lst (((M.A a).lk++[b]).map U.int)) 1 fun f hf=>by
      rw[gG];match f,hf with
      |0,_=>rfl
      |1,_=>rfl
      |2,_=>rfl
      |3,_=>rfl
     rw[LY]at this;unfold qC;rw[if_pos hg];exact this
    have w0:=R4.t0 M4;have w4:=R4.t4 M4;refine⟨(_,_),?_,rfl,pos,_,q,M4.set (R4.pk 4 (by decide)) (.lst (M.lg++[.tup [.str "look",.int a,.int b,.int (M.bx.getD b.toNat 0)]])),R4.say _,((Fm.refl.ua a 0).ua a 1).uk 4⟩;rw[bS (ρ':=[uR (p 0),uI a,uI b,uR (q a 0),uI (M.bx.getD b.toNat 0)]) (S':=((T++X).set (q a 0) (.dic (aD M.ck (M.A a).st (M.A a).op (q a 1) (q a 2) (q a 3)))).set (q a 1) (.lst (((M.A a).lk++[b]).map U.int))) (by
     rw[ei,kB,et];rwa[x0,vM,x2,am,xo,vg,hd,vC,lA,if_true,wg,so,vl,sl,e8 hK,mL])]
    rwa[w0,vL,w4,qC,Mo.up,e8 hL]
   ·have hd:decide ((M.A a).g<M.ma.getD b.toNat 0)=false:=decide_eq_false hg;have M4:=M2.set (R.pa a ha 1 (by decide)) (.lst (((M.A a).lk++[b]).map U.int));have R4:Mr j pos (aM c (.a j a 1) (.lst (((M.A a).lk++[b]).map U.int))) (qC M a b) p q:=by
     have:=R.ua (a:=a) (v:={ M.A a with lk:=(M.A a).lk++[b] }) (o:=.lst (((M.A a).lk++[b]).map U.int)) 1 fun f hf=>by
      match f,hf with
      |0,_=>rfl
      |1,_=>rfl
      |2,_=>rfl
      |3,_=>rfl
     unfold qC;rw[if_neg hg];exact this
    have w0:=R4.t0 M4;have w4:=R4.t4 M4;refine⟨(_,_),?_,rfl,pos,_,q,M4.set (R4.pk 4 (by decide)) (.lst (M.lg++[.tup [.str "look",.int a,.int b,.int (M.bx.getD b.toNat 0)]])),R4.say _,(Fm.refl.ua a 1).uk 4⟩;rw[bS (ρ':=[uR (p 0),uI a,uI b,uR (q a 0),uI (M.bx.getD b.toNat 0)]) (S':=(T++X).set (q a 1) (.lst (((M.A a).lk++[b]).map U.int))) (by
     rw[ei,kB,et];rwa[x0,vM,x2,am,xo,vg,hd,vl,xl,e8 hK,mL])]
    rwa[w0,vL,w4,qC,Mo.up,e8 hL]
end
theorem IV{S:Sto}{ci el:CE}{caps:List Nat}{ρ:Rho}{ld:Nat}{l:List (Int×Int)}{f:Int->Bool}{h:Int->Nat}{r:Rho}(hi:ci ρ S=some (.ref ld,S))(hd:S[ld]?=some (.dic (dI l)))(hr:rV 1 caps ρ=none::r)(hl:l.length<=900)
  (he:∀ep ys n,∀e∈l,el (uI e.1::r) (S.set ld (.fdc ep (dI l))++(.lst ys::nls n))=some (.bl (f e.1),S.set ld (.fdc ep (dI l))++(.lst ys::nls (n+h e.1)))) :
  fW ci (gNm 0) el 1 caps ρ S=some (.ref S.length,S++(.lst (l.map fun e=>.bl (f e.1))::nls ((l.map fun e=>h e.1).foldl (· + ·) 0))):=by
 have lk:ld<S.length:=(Q9.mp hd).1;unfold fW oe;rw[hi,QZ];simp only[hd];refine nS fun ep=>?_;have ek:∀X:Sto,(S.set ld (.fdc ep (dI l))++X)[ld]?=some (.fdc ep (dI l)):=fun X=>aT (by rw[Z7,if_pos rfl,if_pos lk]);have key:∀(ks:List (Int×Int)) (ys:List U) (n:Nat) (r0:Option U),(∀e∈ks,e∈l)->ys.length+ks.length<=9999->gI (fun S'=>S'[ld]?=some (.fdc ep (dI l))) (gNm 0) el S.length ((dI ks).map fun p=>kU p.1) (r0::r) (S.set ld (.fdc ep (dI l))++(.lst ys::nls n))=some (S.set ld (.fdc ep (dI l))++(.lst (ys++ks.map fun e=>.bl (f e.1))::nls ((ks.map fun e=>h e.1).foldl (· + ·) n))):=by
  intro ks;induction ks with
  |nil=>intro ys n r0 _ _;rw[ZY,ZV];exact kj (ek _)
  |cons e ks ih=>
   intro ys n r0 hm hn;rw[QV]at hn;have g:(S.set ld (.fdc ep (dI l))++(O.lst ys::nls (n+h e.1)))[S.length]?=some (.lst ys):=by
    have:=ga0 (S:=S.set ld (.fdc ep (dI l))) (X:=O.lst ys::nls (n+h e.1));rw[Qt]at this;rw[this];rfl
   refine(iU (ρ0:=uI e.1::r) (S0:=S.set ld (.fdc ep (dI l))++(.lst ys::nls n)) (S1:=S.set ld (.fdc ep (dI l))++(.lst ys::nls (n+h e.1))) (x:=.bl (f e.1)) (ys:=ys) (ek _) rfl (he ep ys n e (hm e QU)) g (by unfold LIM;omega)).trans ?_;have:=gs0 (S:=S.set ld (.fdc ep (dI l))) (X:=O.lst ys::nls (n+h e.1)) (o:=.lst (ys++[.bl (f e.1)]));rw[Qt]at this;rw[this];show gI _ _ _ _ ((dI ks).map _) _ (S.set ld (.fdc ep (dI l))++(.lst (ys++[.bl (f e.1)])::nls (n+h e.1)))=_;rw[ih (ys++[U.bl (f e.1)]) (n+h e.1) _ (fun q hq=>hm q (QX _ hq)) (by simp;omega),Qw];rfl
 have k0:=key l [] 0 none (fun p h=>h) (by simp;omega);rw[show nls 0=[]from rfl,Qs]at k0;rw[hr,k0,QZ];simp only[ek];rw[Zy _ _ (by rw[Qt];exact lk),jO hd]
section
variable{j n:Nat}{pos:Pl->Option Nat}{c c':Pl->O}{T:Sto}{M:Mo}{p:Nat->Nat}{q:Int->Nat->Nat}{a b:Int}{w:At}{u:U}
def lI(M:Mo)(a:Int):Str×Mo:=
 if (M.A a).pu=[]then("done",Bk M a "done")else
 if (!fJ M a||((M.A a).pu.map (·.1)).any (fe M a))=true then("falls",Bk M a "fall")else
 ("taken",{ M.up a { M.A a with st:=M.ck+1,lf:=c9 ((M.A a).pu.map (·.1)) } with ck:=M.ck+1 })
def tV:Fn:=fnU 3 2 (fU kZ jH hZ)
theorem AE(M1:Mm pos c T)(R:Mr j pos c M p q)(ha:a∈M.ids)(hl:(M.A a).pu.length<=900):∃X,cCB wQ (ah (fW (cOp fIx (ak 2) (cC (.str "puts"))) (gNm 0) (cCB hZ (ah (ak 1) (ah (ak 2) (ah (ak 0) aN)))) 1 [0,1]) aN) [uR (p 0),uI a,uR (q a 0)] T=some (.bl (((M.A a).pu.map (·.1)).any (fe M a)),T++X):=by
 have to:=R.ao M1 ha;have tp:=R.ap M1 ha;have e:=IV (S:=T) (ci:=cOp fIx (ak 2) (cC (.str "puts"))) (el:=cCB hZ (ah (ak 1) (ah (ak 2) (ah (ak 0) aN)))) (caps:=[0,1]) (ρ:=[uR (p 0),uI a,uR (q a 0)]) (r:=[uR (p 0),uI a]) (f:=fe M a) (h:=fun b=>hN M q (p 0) a b) (by rwa[to,vp]) tp rfl hl (fun ep ys n e he=>by
  have N:=(M1.set (R.pa a ha 2 (by decide)) (.fdc ep (dI (M.A a).pu))).app (.lst ys::nls n);have hr:=u7 (a:=a) (b:=e.1) N R.pk (fun f hf=>(aJ (by simp)).trans (R.ck f hf)) R.pa (fun x hx hxa f hf=>(aJ (by simp[hxa])).trans (R.ca x hx f hf));have ea:T.set (q a 2) (O.fdc ep (dI (M.A a).pu))++(O.lst ys::nls n)++nls (hN M q (p 0) a e.1)=T.set (q a 2) (O.fdc ep (dI (M.A a).pu))++(O.lst ys::nls (n+hN M q (p 0) a e.1)):=by
   rw[Qw,ZH,List.replicate_append_replicate]
  rw[ea]at hr;rwa[hr])
 refine⟨O.lst ((M.A a).pu.map fun e=>.bl (fe M a e.1))::nls (((M.A a).pu.map fun e=>hN M q (p 0) a e.1).foldl (· + ·) 0),?_⟩;have ga:(T++(O.lst ((M.A a).pu.map fun e=>.bl (fe M a e.1))::nls (((M.A a).pu.map fun e=>hN M q (p 0) a e.1).foldl (· + ·) 0)))[T.length]?=some (.lst ((M.A a).pu.map fun e=>.bl (fe M a e.1))):=by rw[ga0];rfl
 have ha:=any_map (f:=fun e:Int×Int=>fe M a e.1) ga;rw[show(M.A a).pu.any (fun e=>fe M a e.1)=((M.A a).pu.map (·.1)).any (fe M a)from by rw[List.any_map];rfl]at ha;rwa[e,ha]
theorem Mr.left(R:Mr j pos c M p q)(M1:Mm pos c T)(ha:a∈M.ids)(l:List Int):∃c' q',Mm (eK pos (.a j a 3) T.length) c' ((T++[O.lst (l.map U.int)]).set (q a 0) (.dic (aD (M.A a).g (M.A a).st (M.A a).op (q a 1) (q a 2) T.length)))/\Mr j (eK pos (.a j a 3) T.length) c' (M.up a { M.A a with lf:=l }) p q'/\Fm j pos c (eK pos (.a j a 3) T.length) c':=by
 have M2:=M1.new (.a j a 3) (.lst (l.map U.int)) [];have M3:=M2.set (s:=.a j a 0) (p:=q a 0) (by rw[fS (by simp)];exact R.pa a ha 0 (by decide)) (.dic (aD (M.A a).g (M.A a).st (M.A a).op (q a 1) (q a 2) T.length));refine⟨_,fun x f=>if x=a/\f=3 then T.length else q x f,M3,⟨fun f hf=>by rw[fS (by simp)];exact R.pk f hf,fun f hf=>?_,fun x hx f hf=>?_,fun x hx f hf=>?_⟩,((Fm.refl.upd (s:=.a j a 3) rfl).upd (s:=.a j a 0) rfl).pn rfl⟩
 ·rw[aJ (by simp),aJ (by simp),R.ck f hf];match f,hf with
  |0,_=>rfl
  |1,_=>rfl
  |2,_=>rfl
  |3,_=>show O.dic _=O.dic _;simp[Mo.up]
  |4,_=>rfl
 ·by_cases e:x=a/\f=3
  ·obtain⟨rfl,rfl⟩:=e;simp[eK]
  ·rw[fS (fun z=>by cases z;exact e ⟨rfl,rfl⟩),if_neg e];exact R.pa x hx f hf
 ·by_cases e:x=a
  ·subst e;rw[gG];match f,hf with
   |0,_=>rw[bQ];simp[mA]
   |1,_=>rw[aJ (by simp),aJ (by simp),R.ca x hx 1 (by decide)];rfl
   |2,_=>rw[aJ (by simp),aJ (by simp),R.ca x hx 2 (by decide)];rfl
   |3,_=>rw[aJ (by simp),bQ];rfl
  ·have h1:(M.up a { M.A a with lf:=l }).A x=M.A x:=if_neg e;have h2:(fun f=>if x=a/\f=3 then T.length else q x f)=q x:=by funext f;rw[if_neg (fun z=>e z.1)]
   rw[h1,h2,aJ (by simp[e]),aJ (by simp[e])];exact R.ca x hx f hf
theorem Mr.clk(R:Mr j pos c M p q)(x:Int):Mr j pos (aM c (.k j 0) (.dic (mD x p))) { M with ck:=x } p q:=R.uk 0 rfl rfl fun f hf=>by
 match f,hf with
 |0,_=>rfl
 |1,_=>rfl
 |2,_=>rfl
 |3,_=>rfl
 |4,_=>rfl
theorem A8(M1:Mm pos c T)(R:Mr j pos c M p q)(W:Mw M n)(ha:a∈M.ids)(hl:M.lg.length<=9000):Wp (tV [.ref (p 0),.int a] T) fun r=>r.1=.str (lI M a).1/\Nm j pos c p (lI M a).2 r.2:=by
 have t0:=R.t0 M1;have t3:=R.t3 M1;have to:=R.ao M1 ha;have tp:=R.ap M1 ha;have vi:=bZ (q:=q) ha;have pl:=(W.pu a ha).1;unfold tV lI;rw[tD];unfold fU;rw[bS (ρ':=[uR (p 0),uI a,uR (q a 0)]) (S':=T) (by rwa[t0,vT,t3,vi])];have eE:IP (.ref (q a 2)) (.ref T.length) (T++[.dic []])=some (.bl (decide ((M.A a).pu=[])),T++[.dic []]):=by
  have h1:=aT (r:=[O.dic []]) tp;have h2:(T++[O.dic []])[T.length]?=some (.dic []):=by rw[ga0];rfl
  simp only[IP,h1,h2];congr 3;have:(dI (M.A a).pu).length=(M.A a).pu.length:=by unfold dI;rw[Q8]
  rw[this,decide_eq_decide];exact ZG
 by_cases hp:(M.A a).pu=[]
 ·rw[if_pos hp];rw[decide_eq_true hp]at eE;obtain⟨⟨u1,T1⟩,e2,rfl,N⟩:=kh (w:="done") (u:=.str "done") (M1.app [.dic []]) R ha hl;refine⟨(_,_),?_,rfl,N⟩;rwa[to,vp,eE,e2]
 ·rw[if_neg hp];rw[decide_eq_false hp]at eE;rw[bS (ρ':=[uR (p 0),uI a,uR (q a 0)]) (S':=T++[.dic []]) (by rwa[to,vp,eE])];generalize hTT:T++[O.dic []]=T0;have N0:Mm pos c T0:=by rw[<-hTT];exact M1.app _
  obtain⟨X1,e1⟩:=um N0 R ha (W.lk a ha).1 (by rw[W.lm];exact(W.lk a ha).2);obtain⟨X2,e2⟩:=AE (N0.app X1) R ha (by omega);rw[Qw]at e2;have tst:∃X,(cOr (wI (aU (cCB jH (ah (ak 0) (ah (ak 1) aN))))) (aU (cCB wQ (ah (fW (cOp fIx (ak 2) (cC (.str "puts"))) (gNm 0) (cCB hZ (ah (ak 1) (ah (ak 2) (ah (ak 0) aN)))) 1 [0,1]) aN)))) [uR (p 0),uI a,uR (q a 0)] T0=some ((!fJ M a||((M.A a).pu.map (·.1)).any (fe M a)),T0++X):=by
   cases h1:fJ M a with
   |false=>rw[h1]at e1;exact⟨X1,by rwa[e1,Bool.not_false,Bool.true_or]⟩
   |true=>
    rw[h1]at e1;have ec:wI (aU (cCB jH (ah (ak 0) (ah (ak 1) aN)))) [uR (p 0),uI a,uR (q a 0)] T0=some (false,T0++X1):=by rwa[e1]
    refine⟨X1++X2,?_⟩;rw[LI,ec,QZ];show(aU _) _ (T0++X1)=_;rw[t8,e2];rfl
  obtain⟨X,et⟩:=tst;have N1:=N0.app X;cases hb:(!fJ M a||((M.A a).pu.map (·.1)).any (fe M a))with
  |true=>
   rw[if_pos rfl];rw[hb]at et;obtain⟨⟨u1,T1⟩,e4,rfl,N⟩:=kh (w:="fall") (u:=.str "falls") N1 R ha hl;refine⟨(_,_),?_,rfl,N⟩;rw[qb,kB,et];rwa[e4]
  |false=>
   rw[if_neg Q6];rw[hb]at et;rw[bS (ρ':=[uR (p 0),uI a,uR (q a 0)]) (S':=T0++X) (by rw[kB,et];rfl)];have s0:=R.t0 N1;have N2:=N1.set (R.pk 0 (by decide)) (.dic (mD (M.ck+1) p));have R2:=R.clk (M.ck+1);have y0:=R2.t0 N2;have yo:=R2.ao N2 ha;rw[bS (ρ':=[uR (p 0),uI a,uR (q a 0)]) (S':=(T0++X).set (p 0) (.dic (mD (M.ck+1) p))) (by rwa[s0,vC,lM,if_true,wC])];have N3:=N2.set (R2.pa a ha 0 (by decide)) (.dic (aD (M.A a).g (M.ck+1) (M.A a).op (q a 1) (q a 2) (q a 3)));have R3:=R2.sO (a:=a) (M.A a).g (M.ck+1) (M.A a).op;have zo:=R3.ao N3 ha;have zp:=R3.ap N3 ha;rw[gG]at zo zp;rw[bS (ρ':=[uR (p 0),uI a,uR (q a 0)]) (S':=((T0++X).set (p 0) (.dic (mD (M.ck+1) p))).set (q a 0) (.dic (aD (M.A a).g (M.ck+1) (M.A a).op (q a 1) (q a 2) (q a 3)))) (by rwa[y0,vC,yo,lA,if_true,ws])];generalize hT3:((T0++X).set (p 0) (.dic (mD (M.ck+1) p))).set (q a 0) (.dic (aD (M.A a).g (M.ck+1) (M.A a).op (q a 1) (q a 2) (q a 3)))=T3 at N3 zo zp;have es:iT [.ref (q a 2)] T3=some (.ref T3.length,T3++[.lst ((c9 ((M.A a).pu.map (·.1))).map U.int)]):=by
    have hlt:((M.A a).pu.map (·.1)).length<64:=by rw[Q8];exact pl
    simp only[iT,zp,sR,QZ,hlt,if_true]
   obtain⟨c',q',N4,R4,F4⟩:=R3.left N3 ha (c9 ((M.A a).pu.map (·.1)));rw[gG,LY]at R4;rw[gG]at N4;have zo':=aT (r:=[O.lst ((c9 ((M.A a).pu.map (·.1))).map U.int)]) zo;refine⟨(.str "taken",_),?_,rfl,_,c',q',N4,R4,((Fm.refl.uk 0).ua a 0).trans F4⟩;rwa[zo,vp,es,zo',lA,if_true,wf]
end
section
variable{j n:Nat}{pos pos':Pl->Option Nat}{c c':Pl->O}{T:Sto}{M M':Mo}{p:Nat->Nat}{q:Int->Nat->Nat}{a b:Int}{v w:At}{u:U}
def gH(M:Mo)(a:Int):Str×Mo:=match (M.A a).lf with
 |[]=>("",M)
 |b::r=>
  let M':Mo:={ M.up a { M.A a with lf:=r } with bx:=M.bx.set b.toNat ((bq (M.A a).pu b).getD 0),ma:=M.ma.set b.toNat (M.A a).st }
  if r=[]then("done",Bk M' a "done")else("written",M')
def pY:Fn:=fnU 4 2 (fh kZ)
theorem yh{r:List Int}(M1:Mm pos c T)(R:Mr j pos c M p q)(W:Mw M n)(ha:a∈M.ids)(hun:(M.A a).lf=b::r)(b0:0<=b)(b1:b<n)(hb:(bq (M.A a).pu b).isSome=true)(hr:r.length<=900)(hl:M.lg.length<=9000):Wp (pY [.ref (p 0),.int a] T) fun s=>s.1=.str (gH M a).1/\Nm j pos c p (gH M a).2 s.2:=by
 obtain⟨v,hv⟩:=ZQ.mp hb;have t0:=R.t0 M1;have t3:=R.t3 M1;have to:=R.ao M1 ha;have tu:=R.af M1 ha;have vi:=bZ (q:=q) ha;rw[hun,QF]at tu;have M2:=M1.set (R.pa a ha 3 (by decide)) (.lst (r.map U.int));have R2:Mr j pos (aM c (.a j a 3) (.lst (r.map U.int))) (M.up a { M.A a with lf:=r }) p q:=R.ua 3 fun f hf=>by
  match f,hf with
  |0,_=>rfl
  |1,_=>rfl
  |2,_=>rfl
  |3,_=>rfl
 have s0:=R2.t0 M2;have s1:=R2.t1 M2;have so:=R2.ao M2 ha;have sp:=R2.ap M2 ha;rw[gG]at so sp;have M3:=M2.set (R2.pk 1 (by decide)) (.lst ((M.bx.set b.toNat v).map U.int));have R3:Mr j pos (aM (aM c (.a j a 3) (.lst (r.map U.int))) (.k j 1) (.lst ((M.bx.set b.toNat v).map U.int))) { M.up a { M.A a with lf:=r } with bx:=M.bx.set b.toNat v } p q:=R2.uk 1 rfl rfl fun f hf=>by
  match f,hf with
  |0,_=>rfl
  |1,_=>rfl
  |2,_=>rfl
  |3,_=>rfl
  |4,_=>rfl
 have u0:=R3.t0 M3;have u2:=R3.t2 M3;have uo:=R3.ao M3 ha;have M4:=M3.set (R3.pk 2 (by decide)) (.lst ((M.ma.set b.toNat (M.A a).st).map U.int));have R4:Mr j pos (aM (aM (aM c (.a j a 3) (.lst (r.map U.int))) (.k j 1) (.lst ((M.bx.set b.toNat v).map U.int))) (.k j 2) (.lst ((M.ma.set b.toNat (M.A a).st).map U.int))) { M.up a { M.A a with lf:=r } with bx:=M.bx.set b.toNat v,ma:=M.ma.set b.toNat (M.A a).st } p q:=R3.uk 2 rfl rfl fun f hf=>by
  match f,hf with
  |0,_=>rfl
  |1,_=>rfl
  |2,_=>rfl
  |3,_=>rfl
  |4,_=>rfl
 have wo:=R4.ao M4 ha;have wf:=R4.af M4 ha;have eA:(M.up a { M.A a with lf:=r }).A a={ M.A a with lf:=r }:=gG;simp only[eA]at uo wo wf;have hL1:(U.int b::r.map U.int).length<=LIM:=by unfold LIM;simp;omega
 have er:(U.int b::r.map U.int).eraseIdx (Int.toNat 0)=r.map U.int:=rfl;have i1:=Ju (xs:=M.bx) b0 (by rw[W.lb];exact b1);have i2:=Ju (xs:=M.ma) b0 (by rw[W.lm];exact b1);have m1:∀(xs:List Int) (v:Int) (i:Nat),(xs.map U.int).set i (.int v)=(xs.set i v).map U.int:=fun xs v i=>by rw[List.map_set]
 have em:gH M a=if r=[]then(("done":Str),Bk ({ M.up a { M.A a with lf:=r } with bx:=M.bx.set b.toNat v,ma:=M.ma.set b.toNat (M.A a).st }:Mo) a "done")else(("written":Str),({ M.up a { M.A a with lf:=r } with bx:=M.bx.set b.toNat v,ma:=M.ma.set b.toNat (M.A a).st }:Mo)):=by
  unfold gH;rw[hun];dsimp only;rw[hv];rfl
 rw[em];unfold pY;rw[q5];unfold fh;rw[bS (ρ':=[uR (p 0),uI a,uR (q a 0),none]) (S':=T) (by rwa[t0,vT,t3,vi])];rw[bS (ρ':=[uR (p 0),uI a,uR (q a 0),uI b]) (S':=T.set (q a 3) (.lst (r.map U.int))) (by rwa[to,vf,tu,wX,ub (Int.le_refl 0) (by simp) hL1 rfl,er])];rw[bS (ρ':=[uR (p 0),uI a,uR (q a 0),uI b]) (S':=(T.set (q a 3) (.lst (r.map U.int))).set (p 1) (.lst ((M.bx.set b.toNat v).map U.int))) (by rwa[so,vp,sp,g9,hv,ZF,s0,vB,s1,Mo.up,i1,m1])];rw[bS (ρ':=[uR (p 0),uI a,uR (q a 0),uI b]) (S':=((T.set (q a 3) (.lst (r.map U.int))).set (p 1) (.lst ((M.bx.set b.toNat v).map U.int))).set (p 2) (.lst ((M.ma.set b.toNat (M.A a).st).map U.int))) (by rwa[uo,vs,u0,vM,u2,Mo.up,i2,m1])];generalize hT3:((T.set (q a 3) (.lst (r.map U.int))).set (p 1) (.lst ((M.bx.set b.toNat v).map U.int))).set (p 2) (.lst ((M.ma.set b.toNat (M.A a).st).map U.int))=T3 at *;have eq:=kb true (S:=T3++[.lst []]) (l:=q a 3) (l':=T3.length) (ns:=r) (ms:=[]) (aT wf) (by rw[ga0];rfl);simp only[if_true]at eq;by_cases h:r=[]
 ·rw[if_pos h];rw[show(!decide (r=[]))=false from by rw[decide_eq_true h];rfl]at eq;obtain⟨⟨u1,T4⟩,e4,rfl,pos',c',q',M5,R5,F5⟩:=kh (w:="done") (u:=.str "done") (M4.app [.lst []]) R4 ha hl;refine⟨(_,T4),?_,rfl,pos',c',q',M5,R5,(((Fm.refl (j:=j) (pos:=pos) (c:=c)).ua a 3).uk 1).uk 2 |>.trans F5⟩;rwa[wo,vf,eq,e4]
 ·rw[if_neg h];rw[show(!decide (r=[]))=true from by rw[decide_eq_false h];rfl]at eq;refine⟨(_,T3++[.lst []]),?_,rfl,pos,_,q,M4.app _,R4,((Fm.refl.ua a 3).uk 1).uk 2⟩;rwa[wo,vf,eq]
inductive Kv where
 |k (k:Kl)|fl (a:Int)
def Kv.uu:Kv->U
 |.k x=>x.u
 |.fl a=>.tup [.str "fall",.int a]
def L0(M:Mo)(a b v:Int):Mo:=(M.up a { M.A a with pu:=eM (M.A a).pu b v }).say (.tup [.str "put",.int a,.int b,.int v])
def iR(M:Mo)(a:Int):Mo:={ M with ids:=M.ids++[a],A:=fun x=>if x=a then⟨M.ck,[],[],[],-1,true⟩else M.A x,lg:=M.lg++[.tup [.str "begin",.int a]] }
def oQ(M:Mo):Kv->U×Mo
 |.k (.bg a)=>(.non,iR M a)
 |.k (.lk a b)=>mC M a b
 |.k (.pt a b v)=>(.non,L0 M a b v)
 |.k (.tk a)=>(.str (lI M a).1,(lI M a).2)
 |.k (.wr a)=>(.str (gH M a).1,(gH M a).2)
 |.fl a=>(.non,Bk M a "fall")
def JD(M:Mo)(n:Nat):Kv->Prop
 |.k (.bg a)=>a∉M.ids
 |.k (.lk a b)=>(a∈M.ids/\(M.A a).op=true/\(M.A a).st<0)/\0<=b/\b<n
 |.k (.pt a b _)=>(a∈M.ids/\(M.A a).op=true/\(M.A a).st<0)/\0<=b/\b<n
 |.k (.tk a)=>a∈M.ids/\(M.A a).op=true/\(M.A a).st<0
 |.k (.wr a)=>(a∈M.ids/\(M.A a).op=true/\0<=(M.A a).st)/\∃b r,(M.A a).lf=b::r/\0<=b/\b<n/\(bq (M.A a).pu b).isSome=true/\r.length<=900
 |.fl a=>a∈M.ids/\(M.A a).op=true/\(M.A a).st<0
def p4:Fn:=fnU 4 2 (cm tW tV pY kZ)
theorem swK(a0:Option U)(x y:U)(r:List U)(R:Rho)(T:Sto):FE (IW (ak 1) none (some (cC (.int 2)))) (gTp [2,3]) (a0::some (.tup (x::y::r))::none::none::R) T=some (.nx,a0::some (.tup (x::y::r))::some x::some y::R,T):=by
 have e:BI (x::y::r) none (some 2)=[x,y]:=by
  have hs:HT.sIx (x::y::r).length (x::y::r).length (some ((2:Nat):Int))=2:=by rw[HT.sIx_nat,QV,QV];omega
  unfold BI;rw[show(2:Int)=((2:Nat):Int)from rfl,hs,HT.sIx_none];rfl
 have e2:IW (ak 1) none (some (cC (.int 2))) (a0::some (.tup (x::y::r))::none::none::R) T=some (.tup [x,y],T):=by
  show some (U.tup (BI (x::y::r) none (some 2)),T)=_;rw[e]
 rw[GF,e2];rfl
end
section
variable{j n:Nat}{pos:Pl->Option Nat}{c:Pl->O}{T:Sto}{M:Mo}{p:Nat->Nat}{q:Int->Nat->Nat}{a b:Int}{o:O}{w:At}{u:U}
def bgE:CE:=wJ [((cC (.str "glance")),(cOp fIx (ak 0) (cC (.str "clock")))),((cC (.str "looked")),(km aN)),((cC (.str "puts")),nN),((cC (.str "left")),(km aN)),((cC (.str "stamp")),(Jz (cC (.int 1)))),((cC (.str "open")),(cC (.bl true)))]
theorem IX{p0:Nat}{ck:Int}{r:Rho}(h:T[p0]?=some (.dic (mD ck p))):bgE (uR p0::r) T=some (.ref T.length,T++[.dic (aD ck (-1) true (T.length+1) (T.length+2) (T.length+3)),.lst [],.dic [],.lst []]):=by
 have l1:∀o:O,(T++[o]).length=T.length+1:=fun o=>by rw[QC];rfl
 have l2:∀o o':O,(T++[o,o']).length=T.length+2:=fun o o'=>by rw[QC];rfl
 have l3:∀o o' o2:O,(T++[o,o',o2]).length=T.length+3:=fun o o' o2=>by rw[QC];rfl
 have h':=aT (r:=[O.dic []]) h;have ge:(T++[O.dic [],O.lst [],O.dic [],O.lst []])[T.length]?=some (.dic []):=by rw[ga0];rfl
 have em:nY [(.inr "glance",.int ck),(.inr "looked",.ref (T.length+1)),(.inr "puts",.ref (T.length+2)),(.inr "left",.ref (T.length+3)),(.inr "stamp",.int (-1)),(.inr "open",.bl true)]=aD ck (-1) true (T.length+1) (T.length+2) (T.length+3):=rfl;have gs:=gs0 (S:=T) (X:=[O.dic [],O.lst [],O.dic [],O.lst []]) (o:=.dic (aD ck (-1) true (T.length+1) (T.length+2) (T.length+3)));have ng:∀(ρ:Rho) (S:Sto),Jz (cC (.int 1)) ρ S=some (.int (-1),S):=fun _ _=>rfl;unfold bgE;rwa[h',ng,vC,l1,l2,l3,ge,em,gs]
theorem yk(M1:Mm pos c T)(R:Mr j pos c M p q)(ha:a∉M.ids):Nm j pos c p (iR M a) (((T++[O.dic (aD M.ck (-1) true (T.length+1) (T.length+2) (T.length+3)),O.lst [],O.dic [],O.lst []]).set (p 3) (O.dic (eM (M.ids.map fun a=>((.inl a:Key),U.ref (q a 0))) (.inl a) (.ref T.length)))).set (p 4) (O.lst (M.lg++[U.tup [.str "begin",.int a]]))):=by
 generalize ho0:O.dic (aD M.ck (-1) true (T.length+1) (T.length+2) (T.length+3))=o0;have N1:=M1.new (.a j a 0) o0 [];have N2:=N1.new (.a j a 1) (.lst []) [];have N3:=N2.new (.a j a 2) (.dic []) [];have N4:=N3.new (.a j a 3) (.lst []) [];have z1:(T++[o0]).length=T.length+1:=by simp
 have z2:(T++[o0]++[O.lst []]).length=T.length+2:=by simp
 have z3:(T++[o0]++[O.lst []]++[O.dic []]).length=T.length+3:=by simp
 rw[z1,z2,z3]at N4;have eT:T++[o0]++[O.lst []]++[O.dic []]++[O.lst []]=T++[o0,.lst [],.dic [],.lst []]:=by simp
 rw[eT]at N4;generalize hpos:eK (eK (eK (eK pos (.a j a 0) T.length) (.a j a 1) (T.length+1)) (.a j a 2) (T.length+2)) (.a j a 3) (T.length+3)=pos4 at N4;generalize hcc:aM (aM (aM (aM c (.a j a 0) o0) (.a j a 1) (.lst [])) (.a j a 2) (.dic [])) (.a j a 3) (.lst [])=c4 at N4;have pk:∀f,pos4 (.k j f)=pos (.k j f):=fun f=>by rw[<-hpos];simp[eK]
 have pb:∀x,x≠a->∀f,pos4 (.a j x f)=pos (.a j x f):=fun x hx f=>by rw[<-hpos];simp[eK,hx]
 have ck:∀f,c4 (.k j f)=c (.k j f):=fun f=>by rw[<-hcc];simp[aM]
 have cb:∀x,x≠a->∀f,c4 (.a j x f)=c (.a j x f):=fun x hx f=>by rw[<-hcc];simp[aM,hx]
 have ne:∀x∈M.ids,x≠a:=fun x hx e=>ha (by rw[<-e];exact hx);have N5:=N4.set (s:=.k j 3) (p:=p 3) (by rw[pk];exact R.pk 3 (by decide)) (.dic (eM (M.ids.map fun a=>((.inl a:Key),U.ref (q a 0))) (.inl a) (.ref T.length)));have N6:=N5.set (s:=.k j 4) (p:=p 4) (by rw[pk];exact R.pk 4 (by decide)) (.lst (M.lg++[.tup [.str "begin",.int a]]));have ep:eM (M.ids.map fun a=>((.inl a:Key),U.ref (q a 0))) (.inl a) (.ref T.length)=M.ids.map (fun a=>((.inl a:Key),U.ref (q a 0)))++[(.inl a,.ref T.length)]:=uE fun h=>by
  rw[Qu]at h;obtain⟨x,hx,e⟩:=Qn.mp h;exact ne x hx (Sum.inl.inj e)
 refine⟨pos4,_,fun x f=>if x=a then T.length+f else q x f,N6,⟨fun f hf=>by rw[pk];exact R.pk f hf,fun f hf=>?_,fun x hx f hf=>?_,fun x hx f hf=>?_⟩,fun s hs=>?_⟩
 ·match f,hf with
  |0,_=>rw[aJ (by simp),aJ (by simp),ck,R.ck 0 (by decide)];rfl
  |1,_=>rw[aJ (by simp),aJ (by simp),ck,R.ck 1 (by decide)];rfl
  |2,_=>rw[aJ (by simp),aJ (by simp),ck,R.ck 2 (by decide)];rfl
  |3,_=>
   rw[aJ (by simp),bQ,ep];show _=O.dic ((M.ids++[a]).map _);rw[Zg];congr 2
   ·exact ZX fun x hx=>by dsimp only;rw[if_neg (ne x hx)]
   ·simp
  |4,_=>rw[bQ];rfl
 ·rcases Qe.mp hx with hx|hx
  ·rw[pb x (ne x hx),if_neg (ne x hx)];exact R.pa x hx f hf
  ·rw[Qy.mp hx,if_pos rfl,<-hpos];match f,hf with
   |0,_=>simp[eK]
   |1,_=>simp[eK]
   |2,_=>simp[eK]
   |3,_=>simp[eK]
 ·rw[aJ (by simp),aJ (by simp)];rcases Qe.mp hx with hx|hx
  ·have h1:(iR M a).A x=M.A x:=if_neg (ne x hx);have h2:(fun f=>if x=a then T.length+f else q x f)=q x:=by funext f;rw[if_neg (ne x hx)]
   rw[cb x (ne x hx),h1,h2];exact R.ca x hx f hf
  ·have h1:(iR M a).A a=⟨M.ck,[],[],[],-1,true⟩:=if_pos rfl;rw[Qy.mp hx,<-hcc,h1];match f,hf with
   |0,_=>simp[aM,mA,<-ho0]
   |1,_=>simp[aM,mA]
   |2,_=>simp[aM,mA,dI]
   |3,_=>simp[aM,mA]
 ·rw[<-hpos,<-hcc];cases s with
  |k i f=>have:i≠j:=hs;simp[eK,aM,this]
  |a i x f=>have:i≠j:=hs;simp[eK,aM,this]
  |x m i=>simp[eK,aM]
def Mu:decide (("look":Str)="begin")=false:=by decide +kernel
def Mt:decide (("put":Str)="begin")=false:=by decide +kernel
def Ms:decide (("put":Str)="look")=false:=by decide +kernel
def Nh:decide (("put":Str)="take")=false:=by decide +kernel
def Ng:decide (("put":Str)="write")=false:=by decide +kernel
def Ni:decide (("put":Str)="fall")=false:=by decide +kernel
def Mq:decide (("take":Str)="begin")=false:=by decide +kernel
def Mp:decide (("take":Str)="look")=false:=by decide +kernel
def Nf:decide (("take":Str)="put")=false:=by decide +kernel
def Nd:decide (("take":Str)="write")=false:=by decide +kernel
def Mn:decide (("write":Str)="begin")=false:=by decide +kernel
def Ml:decide (("write":Str)="look")=false:=by decide +kernel
def Na:decide (("write":Str)="put")=false:=by decide +kernel
def Mj:decide (("write":Str)="take")=false:=by decide +kernel
def Nj:decide (("look":Str)="write")=false:=by decide +kernel
def Mz:decide (("fall":Str)="begin")=false:=by decide +kernel
def My:decide (("fall":Str)="look")=false:=by decide +kernel
def Nl:decide (("fall":Str)="put")=false:=by decide +kernel
def Mx:decide (("fall":Str)="take")=false:=by decide +kernel
def Mv:decide (("fall":Str)="write")=false:=by decide +kernel
theorem Bf{k:Kv}(M1:Mm pos c T)(R:Mr j pos c M p q)(W:Mw M n)(hl:M.lg.length<=9000)(hi:M.ids.length<=900)(hk:∀a∈M.ids,(M.A a).lk.length<=800)(h:JD M n k):Wp (p4 [.ref (p 0),k.uu] T) fun r=>r.1=(oQ M k).1/\Nm j pos c p (oQ M k).2 r.2:=by
 have t0:=R.t0 M1;have t3:=R.t3 M1;have hL:M.lg.length<LIM:=by unfold LIM;omega
 have n0:∀{x:Int},x<0->decide (0<=x)=false:=fun h=>decide_eq_false (by omega);unfold p4;cases k with
 |fl a=>
  obtain⟨ha,op,st⟩:=h;have to:=R.ao M1 ha;have vi:=bZ (q:=q) ha;rw[op]at to;obtain⟨⟨u,T1⟩,e,rfl,N⟩:=kh (w:="fall") (u:=.non) M1 R ha hl;refine⟨(_,T1),?_,rfl,N⟩;rw[eQ];unfold cm;simp only[Kv.uu,Kl.u];rw[bS (swK _ _ _ _ _ _)];rwa[Mz,t0,vT,t3,vi,ZU,Zw,if_true,to,vo,vs,n0 st,Mv,My,Mx,e];rfl
 |k k=>
  cases k with
  |bg a=>
   have vi:=kE (q:=q) h;have eb:=IX (p:=p) (ck:=M.ck) (r:=[some (.tup [.str "begin",.int a]),some (.str "begin"),uI a]) t0;unfold bgE at eb;have hK:(M.ids.map fun a=>((.inl a:Key),U.ref (q a 0))).length<LIM:=by unfold LIM;rw[Q8];omega
   have g0:=aT (r:=[O.dic (aD M.ck (-1) true (T.length+1) (T.length+2) (T.length+3)),.lst [],.dic [],.lst []]) t0;have g3:=aT (r:=[O.dic (aD M.ck (-1) true (T.length+1) (T.length+2) (T.length+3)),.lst [],.dic [],.lst []]) t3;have N0:=M1.app [O.dic (aD M.ck (-1) true (T.length+1) (T.length+2) (T.length+3)),.lst [],.dic [],.lst []];have N1:=N0.set (R.pk 3 (by decide)) (.dic (eM (M.ids.map fun a=>((.inl a:Key),U.ref (q a 0))) (.inl a) (.ref T.length)));have y0:=N1.get (R.pk 0 (by decide)) ((aJ (by simp)).trans (R.ck 0 (by decide)));have y4:=N1.get (R.pk 4 (by decide)) ((aJ (by simp)).trans (R.ck 4 (by decide)));refine⟨(.non,_),?_,rfl,yk M1 R h⟩;rw[eQ];unfold cm;simp only[Kv.uu,Kl.u];rw[bS (swK _ _ _ _ _ _)];rwa[t0,vT,t3,vi,Option.isSome_none,Qh,if_false,eb,g0,g3,hK,if_true,y0,mK,vL,y4,e8 hL]
  |lk a b=>
   obtain⟨⟨ha,op,st⟩,b0,b1⟩:=h;have to:=R.ao M1 ha;have vi:=bZ (q:=q) ha;rw[op]at to;obtain⟨⟨u,T1⟩,e,rfl,N⟩:=Bc M1 R W ha b0 b1 hl (hk a ha);refine⟨(_,T1),?_,rfl,N⟩;rw[eQ];unfold cm;simp only[Kv.uu,Kl.u];rw[bS (swK _ _ _ _ _ _)];rwa[Mu,t0,vT,t3,vi,ZU,Zw,if_true,to,vo,vs,n0 st,Nj,e];rfl
  |pt a b x=>
   obtain⟨⟨ha,op,st⟩,b0,b1⟩:=h;have to:=R.ao M1 ha;have tp:=R.ap M1 ha;have vi:=bZ (q:=q) ha;have to':=to;rw[op]at to;have hP:(dI (M.A a).pu).length<LIM:=by unfold LIM dI;rw[Q8];have:=(W.pu a ha).1;omega
   have N1:=M1.set (R.pa a ha 2 (by decide)) (.dic (dI (eM (M.A a).pu b x)));have R1:Mr j pos (aM c (.a j a 2) (.dic (dI (eM (M.A a).pu b x)))) (M.up a { M.A a with pu:=eM (M.A a).pu b x }) p q:=R.ua 2 fun f hf=>by
    match f,hf with
    |0,_=>rfl
    |1,_=>rfl
    |2,_=>rfl
    |3,_=>rfl
   have y0:=R1.t0 N1;have y4:=R1.t4 N1;refine⟨(.non,_),?_,rfl,pos,_,q,N1.set (R1.pk 4 (by decide)) (.lst (M.lg++[.tup [.str "put",.int a,.int b,.int x]])),R1.say _,(Fm.refl.ua a 2).uk 4⟩;rw[eQ];unfold cm;simp only[Kv.uu,Kl.u];rw[bS (swK _ _ _ _ _ _)];rwa[Mt,t0,vT,t3,vi,ZU,Zw,if_true,to,vo,vs,n0 st,Ng,Ms,Nh,Ni,vp,tp,hP,xU,y0,vL,y4,Mo.up,e8 hL]
  |tk a=>
   obtain⟨ha,op,st⟩:=h;have to:=R.ao M1 ha;have vi:=bZ (q:=q) ha;rw[op]at to;obtain⟨⟨u,T1⟩,e,rfl,N⟩:=A8 M1 R W ha hl;refine⟨(_,T1),?_,rfl,N⟩;rw[eQ];unfold cm;simp only[Kv.uu,Kl.u];rw[bS (swK _ _ _ _ _ _)];rwa[Mq,t0,vT,t3,vi,ZU,Zw,if_true,to,vo,vs,n0 st,Nd,Mp,e];rfl
  |wr a=>
   obtain⟨⟨ha,op,st⟩,b,r,hf,b0,b1,hb,hr⟩:=h;have to:=R.ao M1 ha;have vi:=bZ (q:=q) ha;have p0:decide (0<=(M.A a).st)=true:=decide_eq_true st;rw[op]at to;obtain⟨⟨u,T1⟩,e,rfl,N⟩:=yh M1 R W ha hf b0 b1 hb hr hl;refine⟨(_,T1),?_,rfl,N⟩;rw[eQ];unfold cm;simp only[Kv.uu,Kl.u];rw[bS (swK _ _ _ _ _ _)];rwa[Mn,t0,vT,t3,vi,ZU,Zw,if_true,to,vo,vs,p0,Ml,Mj,e];rfl
end
section
variable{i j:Nat}{pos:Pl->Option Nat}{c:Pl->O}{T:Sto}{M:Mo}{p:Nat->Nat}{q:Int->Nat->Nat}{a:Int}
def kK(M:Mo)(e:Int×Nat):List Int:=if 0<=(M.A e.1).st then[(M.A e.1).st,0,(e.2:Int),e.1]else[(M.A e.1).g,1,(e.2:Int),e.1]
def mGb(M:Mo)(e:Int×Nat):O:=.lst [.tup [.int (M.A e.1).g,.int 1,.int e.2,.int e.1],.tup [.int (M.A e.1).st,.int 0,.int e.2,.int e.1]]
def qB(M:Mo):List Int:=(kF (M.ids.zipIdx.map (kK M))).map fun r=>r.getD 3 0
def HU(q:Int->Nat->Nat)(p0 L:Nat):List (Int×Nat)->Rho->Rho
 |[],ρ=>ρ
 |e::l,_=>HU q p0 L l [uR p0,uR L,uI e.2,uI e.1,uR (q e.1 0)]
theorem uJ{Y:Sto}{t:O}{L p0:Nat}(h0:Y[p0]?=some (.dic (mD M.ck p)))(h3:Y[p 3]?=some t)(ht:∀(a:Int) S,a∈M.ids->kIx (.int a) S (some t)=some (.ref (q a 0),S))(ha:∀a∈M.ids,Y[q a 0]?=some (.dic (aD (M.A a).g (M.A a).st (M.A a).op (q a 1) (q a 2) (q a 3))))(hL:L=Y.length)(ok:Sto->Prop)(hok:∀X,ok (Y++X)) :
  ∀(l:List (Int×Nat)) (rs:List U) (G:Sto) (r2 r3 r4:Option U),(∀e∈l,e.1∈M.ids)->rs.length+l.length<=9000->dX ok (gTp [2,3]) dF (l.map fun e=>.tup [.int e.2,.int e.1]) [uR p0,uR L,r2,r3,r4] (Y++(.lst rs::G))=some (.nx,HU q p0 L l [uR p0,uR L,r2,r3,r4],Y++(.lst (rs++l.map fun e=>rwU (kK M e))::(G++l.map (mGb M))))
 |[],rs,G,r2,r3,r4,_,_=>by rw[ZY,ZY,ZY,ZV,ZV];exact gi (hok _)
 |e::l,rs,G,r2,r3,r4,hm,hn=>by
  rw[QV]at hn;have he:=hm e QU;have ih:=uJ h0 h3 ht ha hL ok hok l (rs++[rwU (kK M e)]) (G++[mGb M e]) (uI e.2) (uI e.1) (uR (q e.1 0)) (fun x hx=>hm x (QX _ hx)) (by simp;omega);have g0:∀X,(Y++X)[p0]?=some (.dic (mD M.ck p)):=fun X=>aT h0;have g3:∀X,(Y++X)[p 3]?=some t:=fun X=>aT h3;have go:∀X,(Y++X)[q e.1 0]?=_:=fun X=>aT (ha e.1 he);have hi:=ht e.1 (Y++(.lst rs::G)) he;have gl:(Y++(O.lst rs::(G++[mGb M e])))[L]?=some (.lst rs):=by rw[hL,ga0];rfl
  have gl0:(Y++(O.lst rs::G))[L]?=some (.lst rs):=by rw[hL,ga0];rfl
  have gs:(Y++(O.lst rs::(G++[mGb M e]))).set L (.lst (rs++[rwU (kK M e)]))=Y++(O.lst (rs++[rwU (kK M e)])::(G++[mGb M e])):=by rw[hL,gs0];rfl
  have gn:(Y++(O.lst rs::(G++[mGb M e])))[(Y++(O.lst rs::G)).length]?=some (mGb M e):=by
   have:Y++(O.lst rs::(G++[mGb M e]))=(Y++(O.lst rs::G))++[mGb M e]:=by simp
   rw[this,ga0];rfl
  have hR:rs.length<LIM:=by unfold LIM;omega
  refine(gX (ρ1:=[uR p0,uR L,uI e.2,uI e.1,uR (q e.1 0)]) (S1:=Y++(O.lst (rs++[rwU (kK M e)])::(G++[mGb M e]))) (hok _) rfl ?_).trans (ih.trans ?_)
  ·rw[<-gs];by_cases h:0<=(M.A e.1).st
   ·have hd:decide (0<=(M.A e.1).st)=true:=decide_eq_true h;have er:rwU (kK M e)=.tup [.int (M.A e.1).st,.int 0,.int e.2,.int e.1]:=by unfold kK;rw[if_pos h];rfl
    have ix:∀S,kIx (.int 1) S (some (mGb M e))=some (.tup [.int (M.A e.1).st,.int 0,.int e.2,.int e.1],S):=fun S=>rfl;rw[er];unfold mGb at gl gn ix ⊢;rwa[dF,g0,vT,g3,hi,go,vg,vs,hd,if_true,gl0,gn,ix,gl,e8 hR]
   ·have hd:decide (0<=(M.A e.1).st)=false:=decide_eq_false h;have er:rwU (kK M e)=.tup [.int (M.A e.1).g,.int 1,.int e.2,.int e.1]:=by unfold kK;rw[if_neg h];rfl
    have ix:∀S,kIx (.int 0) S (some (mGb M e))=some (.tup [.int (M.A e.1).g,.int 1,.int e.2,.int e.1],S):=fun S=>rfl;rw[er];unfold mGb at gl gn ix ⊢;rwa[dF,g0,vT,g3,hi,go,vg,vs,hd,Qh,if_false,gl0,gn,ix,gl,e8 hR]
  ·simp only[QF,Qw,ZH,Qs];rfl
theorem Hf(M:Mo):(M.ids.zipIdx.map (kK M)).Nodup:=by
 have h:((M.ids.zipIdx.map (kK M)).map fun r=>r.getD 2 0).Nodup:=by
  have:(M.ids.zipIdx.map (kK M)).map (fun r=>r.getD 2 0)=(Qa M.ids.length).map fun i:Nat=>(i:Int):=by
   rw[Qu,List.range_eq_range',<-List.zipIdx_map_snd 0 M.ids,Qu];refine ZX fun e _=>?_;show(kK M e).getD 2 0=_;unfold kK;split<;>rfl
  rw[this];exact List.pairwise_map.mpr (List.nodup_range.imp fun h e=>h (Int.ofNat.inj e))
 exact(List.pairwise_map.mp h).imp fun hne e=>hne (by rw[e])
def sN(A:At):Int×Int:=if 0<=A.st then(A.st,0)else(A.g,1)
theorem oP(M:Mo)(e:Int×Nat):kK M e=[(sN (M.A e.1)).1,(sN (M.A e.1)).2,(e.2:Int),e.1]:=by
 unfold kK sN;split<;>rfl
theorem ow(M:Mo):kF (M.ids.zipIdx.map (kK M))=(rW (M.ids.map fun a=>sN (M.A a))).map fun i=>kK M (M.ids.getD i 0,i):=by
 have pm:=fc (M.ids.map fun a=>sN (M.A a));rw[Q8]at pm;have nd:(rW (M.ids.map fun a=>sN (M.A a))).Nodup:=pm.nodup_iff.mpr List.nodup_range;have lt:∀i∈rW (M.ids.map fun a=>sN (M.A a)),i<M.ids.length:=fun i hi=>ZJ.mp (pm.mem_iff.mp hi);have gk:∀i,i<M.ids.length->(M.ids.map fun a=>sN (M.A a)).getD i (0,0)=sN (M.A (M.ids.getD i 0)):=fun i hi=>by
  rw[Qv,Qr,Q7 hi,Qv,Q7 hi];rfl
 refine ux ?_ fun x=>?_
 ·rw[List.pairwise_map];refine((uK _).and nd).imp_of_mem fun{i k} hi hk h=>?_;obtain⟨h1,h2⟩:=h;have li:=gk i (lt i hi);have lk:=gk k (lt k hk);rw[oP,oP];unfold ltS ltK ltP at h1;rw[li,lk]at h1;simp only[ltR];simp only[Bool.or_eq_false_iff,Bool.and_eq_false_iff,Bool.not_eq_false',decide_eq_false_iff_not,decide_eq_true_eq]at h1;have e4:((i:Nat):Int)≠(k:Int):=fun e=>h2 (by omega);by_cases e1:(sN (M.A (M.ids.getD i 0))).1=(sN (M.A (M.ids.getD k 0))).1
  ·rw[if_pos e1];by_cases e2:(sN (M.A (M.ids.getD i 0))).2=(sN (M.A (M.ids.getD k 0))).2
   ·rw[if_pos e2,if_neg e4];exact decide_eq_true (by omega)
   ·rw[if_neg e2];exact decide_eq_true (by omega)
  ·rw[if_neg e1];exact decide_eq_true (by omega)
 ·constructor
  ·intro h;obtain⟨i,hi,rfl⟩:=Qn.mp h;refine Qn.mpr ⟨(M.ids.getD i 0,i),?_,rfl⟩;rw[List.mk_mem_zipIdx_iff_getElem?,Q7 (lt i hi),Qv,Q7 (lt i hi)];rfl
  ·intro h;obtain⟨⟨a,i⟩,hi,rfl⟩:=Qn.mp h;rw[List.mk_mem_zipIdx_iff_getElem?]at hi;refine Qn.mpr ⟨i,pm.mem_iff.mpr (ZJ.mpr (Q9.mp hi).1),?_⟩;rw[Qv,hi];rfl
theorem yl(M:Mo):qB M=nh (M.ids.map fun a=>sN (M.A a)) M.ids:=by
 unfold qB nh;rw[ow,Qu];refine ZX fun i _=>?_;show(kK M _).getD 3 0=_;rw[oP];rfl
def lW:Fn:=fnU 5 1 fq
theorem yi(M1:Mm pos c T)(R:Mr j pos c M p q)(h64:M.ids.length<64):∃X l,lW [.ref (p 0)] T=some (.ref l,T++X)/\(T++X)[l]?=some (.lst ((qB M).map U.int)):=by
 have t0:=R.t0 M1;have N:=M1.app [.lst []];have y0:=R.t0 N;have y3:=R.t3 N;have l3:=(Q9.mp (R.t3 M1)).1;have hi:cOp fIx (ak 0) (cC (.str "tries")) [uR (p 0),uR T.length,none,none,none] (T++[.lst []])=some (.ref (p 3),T++[.lst []]):=by rwa[y0,vT]
 have ek:tm ((M.ids.map fun a=>((.inl a:Key),U.ref (q a 0))).map fun e=>kU e.1)=M.ids.zipIdx.map fun e=>.tup [.int e.2,.int e.1]:=by
  rw[CN];unfold tm;rw[List.zipIdx_map,Qu];rfl
 generalize hrs:(M.ids.zipIdx.map fun e=>rwU (kK M e))=rs;generalize hG:M.ids.zipIdx.map (mGb M)=G;have ef:zq (cOp fIx (ak 0) (cC (.str "tries"))) (gTp [2,3]) dF [uR (p 0),uR T.length,none,none,none] (T++[.lst []])=some (.nx,HU q (p 0) T.length M.ids.zipIdx [uR (p 0),uR T.length,none,none,none],T++(.lst rs::G)):=by
  unfold zq;rw[hi,QZ];simp only[y3,ek];refine nS fun ep=>?_;have M2:=M1.set (R.pk 3 (by decide)) (.fdc ep (M.ids.map fun a=>(.inl a,.ref (q a 0))));have e3:(T.set (p 3) (O.fdc ep (M.ids.map fun a=>(.inl a,.ref (q a 0)))))[p 3]?=some (.fdc ep (M.ids.map fun a=>(.inl a,.ref (q a 0)))):=by rw[Z7,if_pos rfl,if_pos l3]
  have key:=uJ (M:=M) (q:=q) (p:=p) (L:=T.length) (p0:=p 0) (ok:=fun S'=>S'[p 3]?=some (.fdc ep (M.ids.map fun a=>(.inl a,.ref (q a 0))))) (M2.get (R.pk 0 (by decide)) ((aJ (by simp)).trans (R.ck 0 (by decide)))) e3 (fun a S ha=>by rw[zT,zS,QZ,bZ ha];rfl) (fun a ha=>M2.get (R.pa a ha 0 (by decide)) ((aJ (by simp)).trans (R.ca a ha 0 (by decide)))) (by rw[Qt]) (fun X=>aT e3) M.ids.zipIdx [] [] none none none (fun e he=>(List.mem_zipIdx he).2.2▸Zb _) (by simp;omega);rw[Zy _ _ l3,key,QZ,Qs,Qs,hrs,hG];have e4:(T.set (p 3) (O.fdc ep (M.ids.map fun a=>(.inl a,.ref (q a 0))))++(.lst rs::G))[p 3]?=some (.fdc ep (M.ids.map fun a=>(.inl a,.ref (q a 0)))):=aT e3;simp only[e4];rw[Zy _ _ (by rw[Qt];exact l3),jO (R.t3 M1)]
 have hρ:∃r2 r3 r4,HU q (p 0) T.length M.ids.zipIdx [uR (p 0),uR T.length,none,none,none]=[uR (p 0),uR T.length,r2,r3,r4]:=by
  have:∀(l:List (Int×Nat)) (x y z:Option U),∃r2 r3 r4,HU q (p 0) T.length l [uR (p 0),uR T.length,x,y,z]=[uR (p 0),uR T.length,r2,r3,r4]:=by
   intro l;induction l with
   |nil=>intro x y z;exact⟨x,y,z,rfl⟩
   |cons e l ih=>intro x y z;exact ih _ _ _
  exact this _ _ _ _
 obtain⟨r2,r3,r4,hρ⟩:=hρ;rw[hρ]at ef;have gl:(T++(O.lst rs::G))[T.length]?=some (.lst rs):=by rw[ga0];rfl
 have eR:sE rs=some (M.ids.zipIdx.map (kK M)):=by rw[<-hrs,<-qq,Qu];rfl
 have es:ja [.ref T.length] (T++(O.lst rs::G))=some (.ref (T++(O.lst rs::G)).length,T++(O.lst rs::G)++[.lst ((kF (M.ids.zipIdx.map (kK M))).map rwU)]):=by
  unfold ja;simp only[gl,eR,QZ];rw[if_pos];refine⟨fun r hr=>?_,Hf M,by simp;omega⟩;obtain⟨e,_,rfl⟩:=Qn.mp hr;unfold kK;split<;>simp
 have hS:∀r∈kF (M.ids.zipIdx.map (kK M)),r.length=4:=fun r hr=>by
  rw[ow]at hr;obtain⟨i,_,rfl⟩:=Qn.mp hr;rw[oP];rfl
 have ls:(kF (M.ids.zipIdx.map (kK M))).length<=9000:=by
  rw[ow,Q8,(fc _).length_eq,List.length_range,Q8];omega
 unfold qB;generalize kF (M.ids.zipIdx.map (kK M))=sr at es hS ls;have gsr:(T++(O.lst rs::G)++[O.lst (sr.map rwU)])[(T++(O.lst rs::G)).length]?=some (.lst (sr.map rwU)):=by rw[ga0];rfl
 have ei:iTp (cCB ja (ah (ak 1) aN)) [uR (p 0),uR T.length,r2,r3,r4] (T++(O.lst rs::G))=some (sr.map rwU,fun S=>S[(T++(O.lst rs::G)).length]?=some (.lst (sr.map rwU)),T++(O.lst rs::G)++[O.lst (sr.map rwU)]):=By (by
  rw[Jh,uc];exact es) gsr
 obtain⟨⟨u,T2⟩,e2,e2',G2,e2''⟩:=DY (ce:=cOp fIx (ak 0) (cC (.int 3))) (caps:=[]) (ρ:=[uR (p 0),uR T.length,r2,r3,r4]) (cs:=[]) (xs:=sr) (f:=rwU) (v:=fun r=>.int (r.getD 3 0)) (Q:=fun r=>r.1=.ref (T++(O.lst rs::G)++[O.lst (sr.map rwU)]).length/\∃G2,r.2=T++(O.lst rs::G)++[O.lst (sr.map rwU)]++(.lst (sr.map fun r=>.int (r.getD 3 0))::G2)) ei (fun X=>aT gsr) ls rfl (fun r hr X=>by
  refine .of (r:=(.int (r.getD 3 0),T++(O.lst rs::G)++[O.lst (sr.map rwU)]++X)) ?_ ⟨rfl,[],by simp⟩;have l4:=hS r hr;match r,l4 with
  |[_,_,_,_],_=>rfl) (fun X=>⟨rfl,X,rfl⟩)
 dsimp only at e2' e2'';subst e2' e2'';refine⟨(O.lst rs::G)++[O.lst (sr.map rwU)]++(.lst (sr.map fun r=>.int (r.getD 3 0))::G2),(T++(O.lst rs::G)++[O.lst (sr.map rwU)]).length,?_,?_⟩
 ·unfold lW;rw[rh];unfold fq;rw[bS (ρ':=[uR (p 0),uR T.length,none,none,none]) (S':=T++[.lst []]) (by rwa[]),bS ef,Gh,e2];simp only[<-Qw];rfl
 ·have:T++((O.lst rs::G)++[O.lst (sr.map rwU)]++(.lst (sr.map fun r=>.int (r.getD 3 0))::G2))=(T++(O.lst rs::G)++[O.lst (sr.map rwU)])++(.lst (sr.map fun r=>.int (r.getD 3 0))::G2):=by simp
  rw[this,ga0,Qu];rfl
end
structure Sa(A:Ac)(B:At):Prop where
 g:B.g=A.g
 pu:B.pu=A.pu
 op:B.op=A.op
 lf:B.lf=A.un
 lk:∀b:Int,b∈B.lk↔b∈A.lk
 st:(A.st=none/\B.st<0/\A.un=[])\/∃t,A.st=some t/\B.st=t/\0<=t
structure Sm(K:Kc)(M:Mo):Prop where
 bx:M.bx=K.bx
 ma:M.ma=K.ma
 ck:M.ck=K.tk
 ids:M.ids=K.ids
 lg:M.lg=K.ev
 tk:0<=K.tk
 A:∀a∈K.ids,Sa (K.A a) (M.A a)
 ho:∀b o:Int,bq K.ho b=some o↔o∈K.ids/\(K.A o).un≠[]/\(bq (K.A o).pu b).isSome=true
section
variable{K:Kc}{M:Mo}{n:Nat}{a b x:Int}{w:Str}{v:Ac}{v':At}
theorem o9(S:Sm K M):fe M a b=!decide ((bq K.ho b).getD a=a):=by
 rw[ZK,Za,decide_eq_false_iff_not];unfold fe Bj;rw[S.ids,Zz];constructor
 ·rintro⟨o,ho,h⟩;simp only[Zx,Za,decide_eq_false_iff_not]at h;obtain⟨h1,h2,h3⟩:=h;have:=S.A o ho;rw[this.lf]at h2;rw[this.pu]at h3;rw[(S.ho b o).mpr ⟨ho,h2,h3⟩];exact h1
 ·intro h;cases hv:bq K.ho b with
  |none=>rw[hv]at h;exact absurd rfl h
  |some o=>
   rw[hv]at h;obtain⟨ho,h2,h3⟩:=(S.ho b o).mp hv;have:=S.A o ho;refine⟨o,ho,?_⟩;simp only[Zx,Za,decide_eq_false_iff_not];exact⟨h,by rw[this.lf];exact h2,by rw[this.pu];exact h3⟩
theorem uq(S:Sm K M)(ha:a∈K.ids):fJ M a=!(brd K a (K.A a).lk||zL K a):=by
 unfold fJ brd zL;congr 1;have:=S.A a ha;rw[ZK,Bool.or_eq_true,Zz,Zz,Zz,S.ma,this.g];constructor
 ·rintro⟨b,hb,h⟩;rw[Bool.or_eq_true,o9 S]at h;exact h.imp (fun h=>⟨b,(this.lk b).mp hb,h⟩) fun h=>⟨b,(this.lk b).mp hb,h⟩
 ·rintro(⟨b,hb,h⟩|⟨b,hb,h⟩)
  ·exact⟨b,(this.lk b).mpr hb,by rw[o9 S,h];rfl⟩
  ·exact⟨b,(this.lk b).mpr hb,by rw[h,Bool.or_true]⟩
theorem Sm.say(S:Sm K M)(e:U):Sm (K.say e) (M.say e):=⟨S.bx,S.ma,S.ck,S.ids,by show M.lg++[e]=K.ev++[e];rw[S.lg],S.tk,S.A,S.ho⟩
theorem Sm.up(S:Sm K M)(ha:a∈K.ids)(h:Sa v v')(hu:v.un=[]↔(K.A a).un=[])(hp:v.un≠[]->v.pu=(K.A a).pu):Sm (K.up a v) (M.up a v'):=by
 refine⟨S.bx,S.ma,S.ck,S.ids,S.lg,S.tk,fun y hy=>?_,fun b o=>?_⟩
 ·by_cases e:y=a
  ·subst e;rw[gC,gG];exact h
  ·rw[show(K.up a v).A y=K.A y from if_neg e,show(M.up a v').A y=M.A y from if_neg e];exact S.A y hy
 ·show bq K.ho b=some o↔o∈K.ids/\((K.up a v).A o).un≠[]/\(bq ((K.up a v).A o).pu b).isSome=true;rw[S.ho];by_cases e:o=a
  ·subst e;rw[gC];refine and_congr_right fun _=>?_;constructor
   ·rintro⟨h1,h2⟩;have z:v.un≠[]:=fun z=>h1 (hu.mp z);exact⟨z,by rw[hp z];exact h2⟩
   ·rintro⟨h1,h2⟩;exact⟨fun z=>h1 (hu.mpr z),by rw[<-hp h1];exact h2⟩
  ·rw[show(K.up a v).A o=K.A o from if_neg e]
theorem Sm.end(S:Sm K M)(ha:a∈K.ids)(w:Str):Sm (K.end a w) (Bk M a w):=by
 have h:=S.A a ha;exact(S.up ha (v:={ K.A a with op:=false }) (v':={ M.A a with op:=false }) ⟨h.g,h.pu,rfl,h.lf,h.lk,h.st⟩ Iff.rfl fun _=>rfl).say _
theorem Be{l:List Int}{b x:Int}:x∈rY l b↔x∈l\/x=b:=by
 unfold rY;split
 ·rename_i h;constructor
  ·exact .inl
  ·rintro(z|rfl)
   ·exact z
   ·simpa using h
 ·rw[Qe,Qy]
theorem Sm.look(S:Sm K M)(ha:a∈K.ids)(st:(K.A a).st=none):(mC M a b).1=(je K a b).1/\Sm (je K a b).2 (mC M a b).2:=by
 have h:=S.A a ha;unfold mC je;rw[h.pu];cases hv:bq (K.A a).pu b with
 |some v=>exact⟨rfl,S.say _⟩
 |none=>
  dsimp only;have ew:(fe M a b||(decide ((M.A a).g<M.ma.getD b.toNat 0)&&!fJ M a))=DU K a b:=by
   unfold DU;rw[o9 S,uq S ha,h.g,S.ma,Bool.not_not];congr 1
   ·unfold brd;rw[ZE,List.any_nil,Bool.or_false]
   ·congr 1;rw[ZK,Za,decide_eq_true_eq,decide_eq_false_iff_not];omega
  rw[ew];cases DU K a b with
  |true=>rw[if_pos rfl,if_pos rfl];exact⟨rfl,S.end ha _⟩
  |false=>
   rw[if_neg Q6,if_neg Q6,S.bx];refine⟨rfl,Sm.say ?_ _⟩;unfold qC Kc.anew;refine S.up ha ⟨?_,h.pu,h.op,h.lf,fun y=>?_,h.st⟩ Iff.rfl fun _=>rfl
   ·show(if _ then _ else _)=if _ then _ else _
    rw[h.g,S.ma,S.ck]
   ·show y∈(M.A a).lk++[b]↔y∈rY (K.A a).lk b;rw[Be,Qe,Qy,h.lk]
theorem Cc(S:Sm K M)(ha:a∈K.ids)(st:(K.A a).st=none):(K.A a).un=[]:=by
 rcases(S.A a ha).st with h|⟨t,h,_⟩
 ·exact h.2.2
 ·rw[st]at h;cases h
theorem Sm.put(S:Sm K M)(ha:a∈K.ids)(st:(K.A a).st=none):Sm (Jr K a b x) (L0 M a b x):=by
 have h:=S.A a ha;have hu:=Cc S ha st;refine Sm.say (S.up ha (v:={ K.A a with pu:=eM (K.A a).pu b x }) (v':={ M.A a with pu:=eM (M.A a).pu b x }) ⟨h.g,?_,h.op,h.lf,h.lk,h.st⟩ Iff.rfl fun z=>absurd hu z) _;show eM _ b x=eM _ b x;rw[h.pu]
theorem Sm.begin(S:Sm K M)(ha:a∉K.ids):Sm (dR K a) (iR M a):=by
 have ne:∀y∈K.ids,y≠a:=fun y hy e=>ha (by rw[<-e];exact hy);refine⟨S.bx,S.ma,S.ck,by show M.ids++[a]=K.ids++[a];rw[S.ids],by show M.lg++_=K.ev++_;rw[S.lg],S.tk,fun y hy=>?_,fun b o=>?_⟩
 ·rcases Qe.mp hy with h|h
  ·rw[show(dR K a).A y=K.A y from if_neg (ne y h),show(iR M a).A y=M.A y from if_neg (ne y h)];exact S.A y h
  ·rw[Qy.mp h,show(dR K a).A a=a0 K.tk from if_pos rfl,show(iR M a).A a=⟨M.ck,[],[],[],-1,true⟩from if_pos rfl];exact⟨S.ck,rfl,rfl,rfl,fun b=>Iff.rfl,.inl ⟨rfl,by show(-1:Int)<0;omega,rfl⟩⟩
 ·show bq K.ho b=some o↔o∈K.ids++[a]/\_;rw[S.ho,Qe,Qy];constructor
  ·rintro⟨h1,h2,h3⟩;exact⟨.inl h1,by rw[show(dR K a).A o=K.A o from if_neg (ne o h1)];exact⟨h2,h3⟩⟩
  ·rintro⟨h1|rfl,h2,h3⟩
   ·rw[show(dR K a).A o=K.A o from if_neg (ne o h1)]at h2 h3;exact⟨h1,h2,h3⟩
   ·rw[show(dR K o).A o=a0 K.tk from if_pos rfl]at h2;exact absurd rfl h2
theorem sk{l:List (Int×Int)}{b:Int}:(bq l b).isSome=true↔b∈l.map (·.1):=
 ⟨fun h=>Classical.byContradiction fun z=>(by rw[l7.mpr z]at h;cases h),om⟩
theorem Sm.take(S:Sm K M)(ha:a∈K.ids)(st:(K.A a).st=none):(lI M a).1=(jd K a).1/\Sm (jd K a).2 (lI M a).2:=by
 have h:=S.A a ha;have hu:=Cc S ha st;unfold lI jd;rw[h.pu];by_cases hp:(K.A a).pu=[]
 ·rw[if_pos hp,if_pos hp];exact⟨rfl,S.end ha _⟩
 rw[if_neg hp,if_neg hp];have eb:(!fJ M a||((K.A a).pu.map (·.1)).any (fe M a))=(brd K a (K.A a).lk||(brd K a ((K.A a).pu.map (·.1))||zL K a)):=by
  have:((K.A a).pu.map (·.1)).any (fe M a)=brd K a ((K.A a).pu.map (·.1)):=by
   unfold brd;congr 1;funext b;exact o9 S
  rw[uq S ha,Bool.not_not,this];cases brd K a (K.A a).lk<;>cases zL K a<;>cases brd K a ((K.A a).pu.map (·.1))<;>rfl
 rw[eb];cases hb:(brd K a (K.A a).lk||(brd K a ((K.A a).pu.map (·.1))||zL K a))with
 |true=>rw[if_pos rfl,if_pos rfl];exact⟨rfl,S.end ha _⟩
 |false=>
  rw[if_neg Q6,if_neg Q6];refine⟨rfl,S.bx,S.ma,by show M.ck+1=K.tk+1;rw[S.ck],S.ids,S.lg,by show 0<=K.tk+1;have:=S.tk;omega,fun y hy=>?_,fun d o=>?_⟩
  ·by_cases e:y=a
   ·subst e;show Sa ((K.up y _).A y) ((M.up y _).A y);rw[gC,gG];exact⟨h.g,h.pu,h.op,rfl,h.lk,.inr ⟨K.tk+1,rfl,by show M.ck+1=K.tk+1;rw[S.ck],by have:=S.tk;omega⟩⟩
   ·show Sa ((K.up a _).A y) ((M.up a _).A y);rw[show(K.up a _).A y=K.A y from if_neg e,show(M.up a _).A y=M.A y from if_neg e];exact S.A y hy
  ·have free:∀d∈(K.A a).pu.map (·.1),(bq K.ho d).getD a=a:=fun d hd=>by
    have hb2:brd K a ((K.A a).pu.map (·.1))=false:=by
     cases z:brd K a ((K.A a).pu.map (·.1))with
     |false=>rfl
     |true=>rw[z]at hb;simp at hb
    unfold brd at hb2;have:=List.any_eq_false.mp hb2 d hd;simpa using this
   have pm:=i8 ((K.A a).pu.map (·.1));show bq (wt a (c9 ((K.A a).pu.map (·.1))) K.ho) d=some o↔o∈K.ids/\((K.up a _).A o).un≠[]/\(bq ((K.up a _).A o).pu d).isSome=true;rw[lQ];simp only[pm.mem_iff];by_cases e:o=a
   ·subst e;rw[gC];by_cases hd:d∈(K.A o).pu.map (·.1)
    ·rw[if_pos hd];refine⟨fun _=>⟨ha,fun z=>?_,sk.mpr hd⟩,fun _=>rfl⟩;have z':c9 ((K.A o).pu.map (·.1))=[]:=z;rw[z']at pm;exact absurd (pm.mem_iff.mpr hd) (by simp)
    ·rw[if_neg hd];constructor
     ·intro z;exact absurd hu ((S.ho d o).mp z).2.1
     ·rintro⟨_,_,z⟩;exact absurd (sk.mp z) hd
   ·rw[show(K.up a _).A o=K.A o from if_neg e];by_cases hd:d∈(K.A a).pu.map (·.1)
    ·rw[if_pos hd];constructor
     ·intro z;exact absurd (Option.some.inj z).symm e
     ·intro z;have:=free d hd;rw[(S.ho d o).mpr z]at this;exact absurd this e
    ·rw[if_neg hd];exact S.ho d o
theorem y8{l:List (Int×Int)}{b d:Int}(h:d=b\/bq l d=none):bq (ib l b) d=none:=by
 rw[l7]at h ⊢;intro z;obtain⟨e,he,rfl⟩:=Qn.mp z;unfold ib at he;rw[List.mem_filter]at he;rcases h with h|h
 ·simpa [h] using he.2
 ·exact h (Qn.mpr ⟨e,he.1,rfl⟩)
theorem nR:∀(bs:List Int) (ho:List (Int×Int)) (d:Int),(d∈bs\/bq ho d=none)->bq (dW bs ho) d=none
 |[],ho,d,h=>h.resolve_left (by simp)
 |b::bs,ho,d,h=>nR bs (ib ho b) d (by
  by_cases e:d∈bs
  ·exact .inl e
  ·refine .inr (y8 (h.imp (fun z=>?_) id));exact(Qq.mp z).resolve_right e)
theorem Sm.write(S:Sm K M)(I:Ki K n)(ha:a∈K.ids)(op:(K.A a).op=true)(st:(K.A a).st.isSome=true):(gH M a).1=(fg K a).1/\Sm (fg K a).2 (gH M a).2:=by
 have h:=S.A a ha;have t:=I.tak a ha op st;obtain⟨tt,ht⟩:=ZQ.mp st;obtain⟨t',h1,h2,h3⟩:∃t,(K.A a).st=some t/\(M.A a).st=t/\0<=t:=by
  rcases h.st with z|z
  ·rw[z.1]at ht;cases ht
  ·exact z
 unfold gH fg;rw[h.lf];cases hu:(K.A a).un with
 |nil=>exact absurd hu t.un
 |cons b r=>
  dsimp only;have e1:M.bx.set b.toNat ((bq (M.A a).pu b).getD 0)=K.bx.set b.toNat ((bq (K.A a).pu b).getD 0):=by rw[h.pu,S.bx]
  have e2:M.ma.set b.toNat (M.A a).st=K.ma.set b.toNat ((K.A a).st.getD 0):=by rw[S.ma,h1,h2];rfl
  rw[e1,e2];have J:∀(x y:List Int) (K:Kc) (M:Mo),Sm K M->Sm { K with bx:=x,ma:=y } { M with bx:=x,ma:=y }:=fun x y K M S=>⟨rfl,rfl,S.ck,S.ids,S.lg,S.tk,S.A,S.ho⟩;by_cases hr:r=[]
  ·rw[if_pos hr,if_pos hr];refine⟨rfl,?_⟩;have S1:Sm { K.up a { K.A a with un:=r } with ho:=dW ((K.A a).pu.map (·.1)) K.ho } (M.up a { M.A a with lf:=r }):=by
    refine⟨S.bx,S.ma,S.ck,S.ids,S.lg,S.tk,fun y hy=>?_,fun d o=>?_⟩
    ·by_cases e:y=a
     ·subst e;show Sa ((K.up y _).A y) ((M.up y _).A y);rw[gC,gG];exact⟨h.g,h.pu,h.op,rfl,h.lk,.inr ⟨t',h1,h2,h3⟩⟩
     ·show Sa ((K.up a _).A y) ((M.up a _).A y);rw[show(K.up a _).A y=K.A y from if_neg e,show(M.up a _).A y=M.A y from if_neg e];exact S.A y hy
    ·show bq (dW ((K.A a).pu.map (·.1)) K.ho) d=some o↔o∈K.ids/\((K.up a _).A o).un≠[]/\(bq ((K.up a _).A o).pu d).isSome=true;by_cases hd:d∈(K.A a).pu.map (·.1)
     ·rw[nR _ _ d (.inl hd)];refine⟨(fun z=>nomatch z),fun⟨z1,z2,z3⟩=>?_⟩;by_cases e:o=a
      ·subst e;rw[gC]at z2;exact absurd hr z2
      ·rw[show(K.up a _).A o=K.A o from if_neg e]at z2 z3;have e1:=(S.ho d o).mpr ⟨z1,z2,z3⟩;have e2:=t.hld d hd;rw[e1]at e2;exact absurd (Option.some.inj e2) e
     ·rw[lZ _ _ d hd,S.ho];by_cases e:o=a
      ·subst e;rw[gC];constructor
       ·rintro⟨_,_,z⟩;exact absurd (sk.mp z) hd
       ·rintro⟨_,z,_⟩;exact absurd hr z
      ·rw[show(K.up a _).A o=K.A o from if_neg e]
   have S2:=J (K.bx.set b.toNat ((bq (K.A a).pu b).getD 0)) (K.ma.set b.toNat ((K.A a).st.getD 0)) _ _ S1;have S3:=S2.end (a:=a) ha "done";exact S3
  ·rw[if_neg hr,if_neg hr];refine⟨rfl,J _ _ _ _ (S.up ha ⟨h.g,h.pu,h.op,rfl,h.lk,.inr ⟨t',h1,h2,h3⟩⟩ ?_ fun _=>rfl)⟩;show r=[]↔(K.A a).un=[];rw[hu];exact⟨fun z=>absurd z hr,(fun z=>nomatch z)⟩
end
section
variable{cK cA:Cl}{j n m:Nat}{pos:Pl->Option Nat}{c:Pl->O}{T:Sto}{K:Kc}{M:Mo}{p:Nat->Nat}{q:Int->Nat->Nat}{a b:Int}{k:Kv}
def jM(K:Kc):Kv->U×Kc
 |.k x=>yH K x
 |.fl a=>(.non,K.end a "fall")
def VOk(K:Kc)(n:Nat):Kv->Prop
 |.k x=>MB K n x
 |.fl a=>a∈K.ids/\(K.A a).op=true/\(K.A a).st=none
theorem D0(I:Ki K n)(h:VOk K n k):Ki (jM K k).2 n:=by
 cases k with
 |k x=>exact I.call h
 |fl a=>exact I.end h.1 _
theorem D8(B:Kb K m):Kb (jM K k).2 (m+1):=by
 cases k with
 |k x=>exact B.call
 |fl a=>exact y6 B
theorem LJ:AnU (jM K k).1:=by
 cases k with
 |k x=>exact LA
 |fl a=>exact .no
def tY(cK cA:Cl):Fn:=fnU 2 2 (eI (g7 cK cA) (jr cK cA) cK)
theorem Br(M:Mm pos c T)(R:Kr cK cA j pos c K p q)(ha:a∈K.ids)(op:(K.A a).op=true)(st:(K.A a).st=none)(hl:K.ev.length<=9000):Wp (tY cK cA [.ref (p 0),.int a] T) fun r=>r.1=.non/\Nx cK cA j pos c p (K.end a "fall") r.2:=by
 have t0:=M.get (R.pk 0 (by decide)) R.c0;have f:=lS M R ha op st;obtain⟨⟨u,T1⟩,e,rfl,N⟩:=mJ (w:="fall") M R ha hl;refine⟨(.non,T1),?_,rfl,N⟩;unfold tY;rw[pJ];rwa[eI,t0,f,e]
theorem n6{w z:Str}{x0 x1:Option U}{R:Rho}{ca cb:CS}{S:Sto}:eW (aU (cOp fEq (ak 2) (cC (.str z)))) ca cb (x0::x1::some (.str w)::R) S=if decide (w=z)=true then ca (x0::x1::some (.str w)::R) S else cb (x0::x1::some (.str w)::R) S:=by
 have tw:aU (cOp fEq (ak 2) (cC (.str z))) (x0::x1::some (.str w)::R) S=some (decide (w=z),S):=rfl;rw[kB,tw];cases decide (w=z)<;>rfl
def p8(cK cA:Cl):Fn:=fnU 7 2 (bL (tZ cK cA) (zF cK cA) (zG cK cA) (tX cK cA) (p5 cK cA) (tY cK cA) cK)
theorem BW(hns:cA.ns.length=6)(M:Mm pos c T)(R:Kr cK cA j pos c K p q)(I:Ki K n)(B:Kb K m)(hm:m<=1000)(h:VOk K n k):Wp (p8 cK cA [.ref (p 0),k.uu] T) fun r=>r.1=(jM K k).1/\Nx cK cA j pos c p (jM K k).2 r.2:=by
 have t0:=M.get (R.pk 0 (by decide)) R.c0;have b1:=B.ev;have b2:=B.tk;have b3:=B.ids;have b4:=I.hol;unfold p8;cases k with
 |fl a=>
  obtain⟨ha,op,st⟩:=h;obtain⟨⟨u,T1⟩,e,rfl,N⟩:=Br M R ha op st (by omega);refine⟨(_,T1),?_,rfl,N⟩;rw[dS];unfold bL;simp only[Kv.uu];rw[bS (swK _ _ _ _ _ _)];rw[bS (ρ':=[uR (p 0),some (.tup [.str "fall",.int a]),some (.str "fall"),uI a,some .non,none,none]) (S':=T) rfl,bS (ρ':=[uR (p 0),some (.tup [.str "fall",.int a]),some (.str "fall"),uI a,some .non,some .non,none]) (S':=T) rfl];rw[bS (ρ':=[uR (p 0),some (.tup [.str "fall",.int a]),some (.str "fall"),uI a,some .non,some .non,none]) (S':=T1) (by rw[n6,Mz,if_neg Q6,n6,My,if_neg Q6,n6,Nl,if_neg Q6,n6,Mx,if_neg Q6,n6,Mv,if_neg Q6];rwa[t0,e])];rfl
 |k k=>
  cases k with
  |bg a=>
   obtain⟨⟨u,T1⟩,e,rfl,N⟩:=BU hns M R h (by omega) (by omega);refine⟨(_,T1),?_,rfl,N⟩;rw[dS];unfold bL;simp only[Kv.uu,Kl.u];rw[bS (swK _ _ _ _ _ _)];rw[bS (ρ':=[uR (p 0),some (.tup [.str "begin",.int a]),some (.str "begin"),uI a,some .non,none,none]) (S':=T) rfl,bS (ρ':=[uR (p 0),some (.tup [.str "begin",.int a]),some (.str "begin"),uI a,some .non,some .non,none]) (S':=T) rfl];rw[bS (ρ':=[uR (p 0),some (.tup [.str "begin",.int a]),some (.str "begin"),uI a,some .non,some .non,none]) (S':=T1) (by rw[n6,decide_eq_true rfl,if_pos rfl];rwa[t0,e])];rfl
  |lk a b=>
   obtain⟨⟨ha,op,st⟩,b0,b1'⟩:=h;obtain⟨⟨u,T1⟩,e,rfl,N⟩:=E3 M R I.w ha op st b0 b1' (by omega);refine⟨(_,T1),?_,rfl,N⟩;rw[dS];unfold bL;simp only[Kv.uu,Kl.u];rw[bS (swK _ _ _ _ _ _)];rw[bS (ρ':=[uR (p 0),some (.tup [.str "look",.int a,.int b]),some (.str "look"),uI a,some .non,none,none]) (S':=T) rfl,bS (ρ':=[uR (p 0),some (.tup [.str "look",.int a,.int b]),some (.str "look"),uI a,some .non,some .non,none]) (S':=T) rfl];rw[bS (ρ':=[uR (p 0),some (.tup [.str "look",.int a,.int b]),some (.str "look"),uI a,some (je K a b).1,some .non,none]) (S':=T1) (by rw[n6,Mu,if_neg Q6,n6,decide_eq_true rfl,if_pos rfl];rwa[t0,e])];rfl
  |pt a b v=>
   obtain⟨⟨ha,op,st⟩,b0,b1'⟩:=h;obtain⟨⟨u,T1⟩,e,rfl,N⟩:=E9 (b:=b) (v:=v) M R I.w ha op st (by omega);refine⟨(_,T1),?_,rfl,N⟩;rw[dS];unfold bL;simp only[Kv.uu,Kl.u];rw[bS (swK _ _ _ _ _ _)];rw[bS (ρ':=[uR (p 0),some (.tup [.str "put",.int a,.int b,.int v]),some (.str "put"),uI a,some .non,none,none]) (S':=T) rfl,bS (ρ':=[uR (p 0),some (.tup [.str "put",.int a,.int b,.int v]),some (.str "put"),uI a,some .non,some .non,none]) (S':=T) rfl];rw[bS (ρ':=[uR (p 0),some (.tup [.str "put",.int a,.int b,.int v]),some (.str "put"),uI a,some .non,some .non,none]) (S':=T1) (by rw[n6,Mt,if_neg Q6,n6,Ms,if_neg Q6,n6,decide_eq_true rfl,if_pos rfl];rwa[t0,e])];rfl
  |tk a=>
   obtain⟨ha,op,st⟩:=h;obtain⟨⟨u,T1⟩,e,rfl,N⟩:=Bp M R I.w ha op st (by omega) (by omega);refine⟨(_,T1),?_,rfl,N⟩;rw[dS];unfold bL;simp only[Kv.uu,Kl.u];rw[bS (swK _ _ _ _ _ _)];rw[bS (ρ':=[uR (p 0),some (.tup [.str "take",.int a]),some (.str "take"),uI a,some .non,none,none]) (S':=T) rfl,bS (ρ':=[uR (p 0),some (.tup [.str "take",.int a]),some (.str "take"),uI a,some .non,some .non,none]) (S':=T) rfl];rw[bS (ρ':=[uR (p 0),some (.tup [.str "take",.int a]),some (.str "take"),uI a,some (.str (jd K a).1),some .non,none]) (S':=T1) (by rw[n6,Mq,if_neg Q6,n6,Mp,if_neg Q6,n6,Nf,if_neg Q6,n6,decide_eq_true rfl,if_pos rfl];rwa[t0,e])];rfl
  |wr a=>
   obtain⟨ha,op,st⟩:=h;have t:=I.tak a ha op st;obtain⟨tt,ht⟩:=ZQ.mp st;cases hu:(K.A a).un with
   |nil=>exact absurd hu t.un
   |cons b r=>
    have hb:b∈(K.A a).pu.map (·.1):=t.sub b (by rw[hu];exact QU);obtain⟨b0,b1'⟩:=I.pub a ha b hb;have fw:=t.few;rw[hu,QV]at fw;obtain⟨⟨u,T1⟩,e,rfl,N⟩:=zU M R I.w ha op ht hu b0 b1' (om hb) (by omega) (fun _ d hd=>by rw[t.hld d hd];rfl) (by omega);refine⟨(_,T1),?_,rfl,N⟩;rw[dS];unfold bL;simp only[Kv.uu,Kl.u];rw[bS (swK _ _ _ _ _ _)];rw[bS (ρ':=[uR (p 0),some (.tup [.str "write",.int a]),some (.str "write"),uI a,some .non,none,none]) (S':=T) rfl,bS (ρ':=[uR (p 0),some (.tup [.str "write",.int a]),some (.str "write"),uI a,some .non,some .non,none]) (S':=T) rfl];rw[bS (ρ':=[uR (p 0),some (.tup [.str "write",.int a]),some (.str "write"),uI a,some (.str (fg K a).1),some .non,none]) (S':=T1) (by rw[n6,Mn,if_neg Q6,n6,Ml,if_neg Q6,n6,Na,if_neg Q6,n6,Mj,if_neg Q6,n6,decide_eq_true rfl,if_pos rfl];rwa[t0,e])];rfl
def DOk(M:Mo)(n:Nat):Kv->Prop
 |.k (.wr a)=>a∈M.ids/\(M.A a).op=true/\0<=(M.A a).st
 |k=>JD M n k
theorem Ef(S:Sm K M)(ha:a∈K.ids)(h:(M.A a).st<0):(K.A a).st=none:=by
 rcases(S.A a ha).st with z|⟨t,z1,z2,z3⟩
 ·exact z.1
 ·omega
theorem Ee(S:Sm K M)(ha:a∈K.ids)(h:0<=(M.A a).st):(K.A a).st.isSome=true:=by
 rcases(S.A a ha).st with z|⟨t,z1,z2,z3⟩
 ·omega
 ·rw[z1];rfl
theorem Jm(S:Sm K M)(h:a∈M.ids/\(M.A a).op=true/\(M.A a).st<0):a∈K.ids/\(K.A a).op=true/\(K.A a).st=none:=by
 obtain⟨h1,h2,h3⟩:=h;rw[S.ids]at h1;exact⟨h1,by rw[<-(S.A a h1).op];exact h2,Ef S h1 h3⟩
theorem LK(S:Sm K M)(h:a∈M.ids/\(M.A a).op=true/\0<=(M.A a).st):a∈K.ids/\(K.A a).op=true/\(K.A a).st.isSome=true:=by
 obtain⟨h1,h2,h3⟩:=h;rw[S.ids]at h1;exact⟨h1,by rw[<-(S.A a h1).op];exact h2,Ee S h1 h3⟩
theorem DOk.v(S:Sm K M)(h:DOk M n k):VOk K n k:=by
 cases k with
 |fl a=>exact Jm S h
 |k k=>
  cases k with
  |bg a=>have h':a∉M.ids:=h;rw[S.ids]at h';exact h'
  |lk a b=>exact⟨Jm S h.1,h.2⟩
  |pt a b v=>exact⟨Jm S h.1,h.2⟩
  |tk a=>exact Jm S h
  |wr a=>exact LK S h
theorem DOk.mv(S:Sm K M)(I:Ki K n)(h:DOk M n k):JD M n k:=by
 cases k with
 |fl a=>exact h
 |k k=>
  cases k with
  |wr a=>
   obtain⟨ha,op,st⟩:=LK S h;have t:=I.tak a ha op st;refine⟨h,?_⟩;cases hu:(K.A a).un with
   |nil=>exact absurd hu t.un
   |cons b r=>
    have hb:b∈(K.A a).pu.map (·.1):=t.sub b (by rw[hu];exact QU);obtain⟨b0,b1⟩:=I.pub a ha b hb;have fw:=t.few;rw[hu,QV]at fw;have z:=S.A a ha;exact⟨b,r,by rw[z.lf,hu],b0,b1,by rw[z.pu];exact om hb,by omega⟩
  |bg a=>exact h
  |lk a b=>exact h
  |pt a b v=>exact h
  |tk a=>exact h
theorem Sm.call(S:Sm K M)(I:Ki K n)(h:VOk K n k):(oQ M k).1=(jM K k).1/\Sm (jM K k).2 (oQ M k).2:=by
 cases k with
 |fl a=>exact⟨rfl,S.end h.1 _⟩
 |k k=>
  cases k with
  |bg a=>exact⟨rfl,S.begin h⟩
  |lk a b=>exact S.look h.1.1 h.1.2.2
  |pt a b v=>exact⟨rfl,S.put h.1.1 h.1.2.2⟩
  |tk a=>have z:=S.take h.1 h.2.2;exact⟨by show U.str _=U.str _;rw[z.1],z.2⟩
  |wr a=>have z:=S.write I h.1 h.2.1 h.2.2;exact⟨by show U.str _=U.str _;rw[z.1],z.2⟩
def Lb(M:Mo)(m:Nat):Prop:=∀a∈M.ids,(M.A a).lk.length<=m
theorem Lb.up{v:At}(L:Lb M m)(h:v.lk.length<=m+1):Lb (M.up a v) (m+1):=fun y hy=>by
 by_cases e:y=a
 ·subst e;rw[gG];exact h
 ·rw[show(M.up a v).A y=M.A y from if_neg e];have:=L y hy;omega
theorem Lb.end(L:Lb M m)(w:Str)(ha:a∈M.ids):Lb (Bk M a w) (m+1):=Lb.up L (by have:=L a ha;show(M.A a).lk.length<=_;omega)
def Lb.su(L:Lb M m):Lb M (m+1):=fun y hy=>by have:=L y hy;omega
theorem Lb.call(L:Lb M m)(h:JD M n k):Lb (oQ M k).2 (m+1):=by
 cases k with
 |fl a=>exact L.end _ h.1
 |k k=>
  cases k with
  |bg a=>
   intro y hy;have hy':y∈M.ids++[a]:=hy;by_cases e:y=a
   ·subst e;show((iR M y).A y).lk.length<=_;rw[show(iR M y).A y=⟨M.ck,[],[],[],-1,true⟩from if_pos rfl];exact ZZ _
   ·show((iR M a).A y).lk.length<=_;rw[show(iR M a).A y=M.A y from if_neg e];have:=L y ((Qe.mp hy').resolve_right (by simpa using e));omega
  |lk a b=>
   have l:=L a h.1.1;show Lb (mC M a b).2 _;unfold mC;split
   ·exact L.su
   ·split
    ·exact L.end _ h.1.1
    ·exact Lb.up L (by show((M.A a).lk++[b]).length<=_;rw[QC];exact Nat.add_le_add_right l 1)
  |pt a b v=>exact Lb.up L (by have:=L a h.1.1;show(M.A a).lk.length<=_;omega)
  |tk a=>
   have l:=L a h.1;show Lb (lI M a).2 _;unfold lI;split
   ·exact L.end _ h.1
   ·split
    ·exact L.end _ h.1
    ·exact Lb.up L (by show(M.A a).lk.length<=_;omega)
  |wr a=>
   have l:=L a h.1.1;show Lb (gH M a).2 _;unfold gH;split
   ·exact L.su
   ·dsimp only;have L1:∀(x y:List Int) (r:List Int),Lb ({ M.up a { M.A a with lf:=r } with bx:=x,ma:=y }:Mo) m:=fun x y r z hz=>by
     show((M.up a _).A z).lk.length<=_;by_cases e:z=a
     ·subst e;rw[gG];exact l
     ·rw[show(M.up a _).A z=M.A z from if_neg e];exact L z hz
    split
    ·exact(L1 _ _ _).end _ h.1.1
    ·exact(L1 _ _ _).su
theorem Sm.mw(S:Sm K M)(I:Ki K n)(L:Lb M m)(hm:m<=800):Mw M n:=⟨by rw[S.bx];exact I.lb,by rw[S.ma];exact I.lm,by have:=I.few;omega,fun a ha=>⟨by have:=L a ha;omega,fun b hb=>by rw[S.ids]at ha;exact I.lkb a ha b (((S.A a ha).lk b).mp hb)⟩,fun a ha=>by rw[S.ids]at ha;rw[(S.A a ha).pu];exact⟨(I.w.pu a ha).1,I.pun a ha⟩⟩
theorem Sm.ord(S:Sm K M):qB M=gm K:=by
 rw[yl];unfold gm;rw[S.ids];congr 1;refine ZX fun a ha=>?_;have z:=S.A a ha;unfold sN CK;rcases z.st with h|⟨t,h1,h2,h3⟩
 ·rw[h.1,if_neg (by omega),z.g]
 ·rw[h1,if_pos (by omega),h2]
end
end OL
namespace OQ
open PySem PySem.Spec PyProof.Rows L2 OG OP
section
variable{k:Kl}{u:U}
def evW:List Str:=["begin","look","put","done","fall"]
inductive EvL:U->Prop where
 |two (w:Str) (h:w∈evW) (a:Int):EvL (.tup [.str w,.int a])
 |four (w:Str) (h:w∈evW) (a b v:Int):EvL (.tup [.str w,.int a,.int b,.int v])
theorem CU{w:Str}(h:w∈evW):(PyData.str w).canLay0=true:=by
 have:evW.all (fun w=>(PyData.str w).canLay0)=true:=by decide +kernel
 exact List.all_eq_true.mp this w h
theorem EvL.lay(h:EvL u)(S:Sto):Lay 1 S u:=by
 cases h with
 |two w h a=>exact⟨.tuple [.str w,.int a],.tup (.cons (.str _) (.cons (.int _) .nil)),by have:=CU h;simp[PyData.canLay0,PyData.canLayAll0]at this ⊢;exact this,by simp[PyData.depth,PyData.depthAll]⟩
 |four w h a b v=>exact⟨.tuple [.str w,.int a,.int b,.int v],.tup (.cons (.str _) (.cons (.int _) (.cons (.int _) (.cons (.int _) .nil)))),by have:=CU h;simp[PyData.canLay0,PyData.canLayAll0]at this ⊢;exact this,by simp[PyData.depth,PyData.depthAll]⟩
theorem AnU.lay(h:AnU u)(S:Sto):Lay 1 S u:=by
 cases h with
 |no=>exact⟨.none,.non,by simp[PyData.canLay0],by simp[PyData.depth]⟩
 |nu v=>exact⟨_,.tup (.cons (.str _) (.cons (.int _) .nil)),(E5 lyn).1,by simp[PyData.depth,PyData.depthAll]⟩
 |fa=>exact⟨_,.tup (.cons (.str _) .nil),(E4 (ly (by decide))).1,by simp[PyData.depth,PyData.depthAll]⟩
 |wd w h=>exact⟨_,.str _,ly h,by simp[PyData.depth]⟩
theorem j1{K:Kc}{e:U}(h:∀x∈K.ev,EvL x)(he:EvL e):∀x∈K.ev++[e],EvL x:=fun x hx=>by
 rcases Qe.mp hx with z|z
 ·exact h x z
 ·rw[Qy.mp z];exact he
theorem Fv{K:Kc}(h:∀x∈K.ev,EvL x):∀x∈(yH K k).2.ev,EvL x:=by
 cases k with
 |bg a=>exact j1 h (.two _ (by decide) _)
 |lk a b=>
  show ∀x∈(je K a b).2.ev,EvL x;unfold je;split
  ·exact j1 h (.four _ (by decide) _ _ _)
  ·split
   ·exact j1 h (.two _ (by decide) _)
   ·exact j1 h (.four _ (by decide) _ _ _)
 |pt a b v=>exact j1 h (.four _ (by decide) _ _ _)
 |tk a=>
  show ∀x∈(jd K a).2.ev,EvL x;unfold jd;split
  ·exact j1 h (.two _ (by decide) _)
  ·split
   ·exact j1 h (.two _ (by decide) _)
   ·exact h
 |wr a=>
  show ∀x∈(fg K a).2.ev,EvL x;unfold fg;split
  ·exact h
  ·dsimp only;split
   ·exact j1 (K:=K) h (.two _ (by decide) _)
   ·exact h
end
theorem Ki.new{st:List Int}{n:Nat}(h:st.length=n)(hn:n<64):Ki (wm st) n:=
 ⟨h,by simp[wm,h],hn,List.nodup_nil,fun _ h=>(nomatch h),fun _ h=>(nomatch h),fun _ h=>(nomatch h),fun _ h=>(nomatch h),fun _ h=>(nomatch h),by simp[wm]⟩
def Kb.new{st:List Int}:Kb (wm st) 0:=⟨QQ _,by simp[wm],QQ _⟩
section
variable{pos:Pl->Option Nat}{c:Pl->O}{T:Sto}{l:Nat}{o:O}
theorem Mm.setF(M:Mm pos c T)(h:∀s,pos s≠some l):Mm pos c (T.set l o):=⟨fun s p hp=>by rw[Qb (fun e=>h s (by rw[e];exact hp))];exact M.at_ s p hp,M.inj⟩
end
end OQ
namespace OL
open PySem PySem.Spec PyProof.Rows L2 OG OP OQ
section
variable{c:Pl->O}
theorem D9{s:Pl}{o:O}(h:c s=o):aM c s o=c:=by
 funext s';by_cases e:s'=s
 ·subst e;rw[bQ,h]
 ·rw[aJ e]
theorem Ao{s:Pl}{o o':O}:aM (aM c s o) s o'=aM c s o':=by
 funext s';by_cases e:s'=s
 ·subst e;rw[bQ,bQ]
 ·rw[aJ e,aJ e,aJ e]
end
section
variable{pos:Pl->Option Nat}{c:Pl->O}{T S:Sto}{lw:Nat}
def Ws(pos:Pl->Option Nat)(c:Pl->O)(S:Sto):Prop:=∃z,Mm pos (aM c (.x 9 0) (.lst [.int z])) S
def Ws.app(W:Ws pos c S)(X:Sto):Ws pos c (S++X):=let ⟨z,M⟩:=W;⟨z,M.app X⟩
theorem Ws.sip{mm:Int}(W:Ws pos c S)(hw:pos (.x 9 0)=some lw)(h0:0<mm)(h1:mm<2^60):∃d S',nO [.ref lw,.int mm] S=some (.int d,S')/\Ws pos c S'/\0<=d/\d<mm/\(∀l,l≠lw->S'[l]?=S[l]?)/\S'.length=S.length:=by
 obtain⟨z,M⟩:=W;obtain⟨d,z',e,M',d0,d1⟩:=MR M hw bQ h0 h1;rw[Ao]at M';exact⟨d,_,e,⟨z',M'⟩,d0,d1,fun l h=>Qb h.symm,Qt ..⟩
def Ws.lt(W:Ws pos c S)(hw:pos (.x 9 0)=some lw):lw<S.length:=let ⟨z,M⟩:=W;M.lt hw
theorem vm{w:Int}{l:Nat}(hw:pos (.x 9 0)=some lw)(w0:0<w)(w1:w<2^60)(hl:∀s,pos s≠some l):∀(xs:List Nat) (ys:List Int) (r0:Option U) (S:Sto),Ws pos c S->S[l]?=some (.lst (ys.map U.int))->ys.length+xs.length<=900->
  ∃(vs:List Int) (S':Sto),gI (fun _=>True) (gNm 0) (cCB nO (ah (ak 1) (ah (ak 2) aN))) l (xs.map fun i:Nat=>U.int (i:Int)) [r0,some (.ref lw),some (.int w)] S=some S'/\Ws pos c S'/\S'[l]?=some (.lst (vs.map U.int))/\vs.length=ys.length+xs.length
 |[],ys,r0,S,W,h,_=>⟨ys,S,kj trivial,W,h,rfl⟩
 |x::xs,ys,r0,S,W,h,hn=>by
  rw[QV]at hn;obtain⟨d,S1,e,W1,_,_,k1,l1⟩:=W.sip hw w0 w1;have nl:l≠lw:=fun z=>hl _ (by rw[z];exact hw);have lt:l<S1.length:=by rw[l1];exact(Q9.mp h).1
  have W2:Ws pos c (S1.set l (.lst ((ys++[d]).map U.int))):=let ⟨z,M⟩:=W1;⟨z,M.setF hl⟩
  obtain⟨vs,S',e',W',g',lv⟩:=vm hw w0 w1 hl xs (ys++[d]) (some (.int x)) _ W2 (by rw[Z7,if_pos rfl,if_pos lt]) (by simp;omega);refine⟨vs,S',(iU (ρ0:=[some (.int x),some (.ref lw),some (.int w)]) (S0:=S) (S1:=S1) (x:=.int d) (ys:=ys.map U.int) trivial rfl (by rwa[e]) (by rw[k1 l nl];exact h) (by unfold LIM;rw[Q8];omega)).trans ?_,W',g',by rw[lv];simp;omega⟩;rw[show ys.map U.int++[U.int d]=(ys++[d]).map U.int by simp];exact e'
def lX:Fn:=fnU 3 1 (fi nO)
theorem ym(W:Ws pos c T)(hw:pos (.x 9 0)=some lw)(hlt:∀s p,pos s=some p->p<T.length):Wp (lX [.ref lw] T) fun r=>∃(ni w:Int) (st:List Int),r.1=.tup [.tup [.int ni,.int w],.tup (st.map U.int)]/\1<=ni/\ni<=6/\1<=w/\w<=1000/\st.length=ni.toNat/\Ws pos c r.2/\T.length<=r.2.length:=by
 have lwT:=W.lt hw;obtain⟨d1,S1,e1,W1,d10,d11,k1,l1⟩:=(W.app [.lst [.int 2,.int 3,.int 6]]).sip (mm:=3) hw (by decide) (by decide);have g1:S1[T.length]?=some (.lst [.int 2,.int 3,.int 6]):=by rw[k1 _ (Nat.ne_of_gt lwT),ga0];rfl
 have a1:∃v:Int,atI [U.int 2,.int 3,.int 6] d1=some (.int v)/\1<=v/\v<=6:=by
  have:d1=0\/d1=1\/d1=2:=by omega
  rcases this with rfl|rfl|rfl
  ·exact⟨2,rfl,by decide,by decide⟩
  ·exact⟨3,rfl,by decide,by decide⟩
  ·exact⟨6,rfl,by decide,by decide⟩
 obtain⟨v1,a1,v10,v11⟩:=a1;obtain⟨d2,S2,e2,W2,d20,d21,k2,l2⟩:=W1.sip (mm:=v1) hw (by omega) (by omega);unfold lX;rw[ra];unfold fi;rw[bS (ρ':=[some (.ref lw),some (.int (1+d2)),none]) (S':=S2) (by rwa[e1,g1,a1,e2])];obtain⟨d3,S3,e3,W3,d30,d31,k3,l3⟩:=(W2.app [.lst [.int 2,.int 3,.int 7,.int 1000]]).sip (mm:=4) hw (by decide) (by decide);have g3:S3[S2.length]?=some (.lst [.int 2,.int 3,.int 7,.int 1000]):=by rw[k3 _ (Nat.ne_of_gt (W2.lt hw)),ga0];rfl
 have a3:∃v:Int,atI [U.int 2,.int 3,.int 7,.int 1000] d3=some (.int v)/\1<=v/\v<=1000:=by
  have:d3=0\/d3=1\/d3=2\/d3=3:=by omega
  rcases this with rfl|rfl|rfl|rfl
  ·exact⟨2,rfl,by decide,by decide⟩
  ·exact⟨3,rfl,by decide,by decide⟩
  ·exact⟨7,rfl,by decide,by decide⟩
  ·exact⟨1000,rfl,by decide,by decide⟩
 obtain⟨w,a3,w0,w1⟩:=a3;rw[bS (ρ':=[some (.ref lw),some (.int (1+d2)),some (.int w)]) (S':=S3) (by rwa[e3,g3,a3])];obtain⟨ni,eni⟩:∃ni,ni=1+d2:=⟨_,rfl⟩;rw[<-eni];have T3:T.length<=S3.length:=by rw[l3,QC,l2,l1,QC];omega
 have hl3:∀s,pos s≠some S3.length:=fun s z=>by have:=hlt s _ z;omega
 have hi:cZ (ah (ak 1) aN) [some (.ref lw),some (.int ni),some (.int w)] S3=some ((Qa ni.toNat).map fun i:Nat=>U.int (i:Int),fun _=>True,S3):=by
  rw[mN (n:=ni) (S1:=S3) rfl (by omega) (by omega),qu]
 obtain⟨vs,S4,e4,W4,g4,lv⟩:=vm (w:=w) (l:=S3.length) hw (by omega) (by omega) hl3 (Qa ni.toNat) [] none (S3++[.lst []]) (W3.app _) (by rw[ga0];rfl) (by simp;omega);have ec:gK (cZ (ah (ak 1) aN)) (gNm 0) (cCB nO (ah (ak 1) (ah (ak 2) aN))) 1 [0,2] [some (.ref lw),some (.int ni),some (.int w)] S3=some (.ref S3.length,S4):=by
  unfold gK;rw[hi,QZ];show Option.bind (gI (fun _=>True) (gNm 0) (cCB nO (ah (ak 1) (ah (ak 2) aN))) S3.length _ [none,some (.ref lw),some (.int w)] _) _=_;rw[e4];rfl
 refine⟨(.tup [.tup [.int ni,.int w],.tup (vs.map U.int)],S4),?_,ni,w,vs,rfl,by omega,by omega,w0,w1,by rw[lv];simp,W4,?_⟩
 ·rwa[ec,g4]
 ·have:=(Q9.mp g4).1;dsimp only;omega
end
section
variable{j n m:Nat}{pos pos':Pl->Option Nat}{c c':Pl->O}{T S:Sto}{M:Mo}{p:Nat->Nat}{q:Int->Nat->Nat}{a b:Int}{lw lg:Nat}{go:List Int}
def pZ:Fn:=fnU 1 1 ft
def pMo(L:Nat):Nat->Nat
 |0=>L
 |1=>L+1
 |2=>L+3
 |3=>L+4
 |_=>L+5
def m0(st:List Int):Mo:=⟨st,QY st.length 0,0,[],fun _=>⟨0,[],[],[],-1,true⟩,[]⟩
theorem Bb{st:List Int}(hl:st.length<=900):pZ [.tup (st.map U.int)] T=some (.ref T.length,T++[.dic (mD 0 (pMo T.length)),.lst (st.map U.int),.lst [.int 0],.lst ((QY st.length (0:Int)).map U.int),.dic [],.lst []]):=by
 unfold pZ;rw[rj];obtain⟨us,hus⟩:∃us,us=st.map U.int:=⟨_,rfl⟩;have lus:us.length=st.length:=by rw[hus,Q8]
 obtain⟨rs,hrs⟩:∃rs,rs=(QY st.length (0:Int)).map U.int:=⟨_,rfl⟩;rw[<-hus,<-hrs];have mul:∀o1 o2:O,qZ (.ref (T.length+2)) (.int us.length) (T++[o1,o2,.lst [.int 0]])=some (.ref (T.length+3),T++[o1,o2,.lst [.int 0],.lst rs]):=fun o1 o2=>by
  have g1:(T++[o1,o2,O.lst [U.int 0]])[T.length+2]?=some (.lst [.int 0]):=by rw[ga];rfl
  have g2:(0:Int)<=us.length/\(us.length:Int)<=100000/\[U.int 0].length*(us.length:Int).toNat<=LIM:=by
   refine⟨by omega,by omega,?_⟩;unfold LIM;rw[List.length_singleton];omega
  simp only[qZ,g1];rw[if_pos g2,hrs,List.map_replicate,lus];simp only[ZD,List.flatten_replicate_singleton,QC,QV,Zh,Qw,ZH,Qs]
 have l1:∀o:O,(T++[o]).length=T.length+1:=fun o=>by rw[QC];rfl
 have l2:∀o o':O,(T++[o,o']).length=T.length+2:=fun o o'=>by rw[QC];rfl
 have l4:∀o o' o2 o3:O,(T++[o,o',o2,o3]).length=T.length+4:=fun o o' o2 o3=>by rw[QC];rfl
 have l5:∀o o' o2 o3 o4:O,(T++[o,o',o2,o3,o4]).length=T.length+5:=fun o o' o2 o3 o4=>by rw[QC];rfl
 have ge:∀X,(T++(O.dic []::X))[T.length]?=some (.dic []):=fun X=>by rw[ga0];rfl
 have em:nY [(.inr "boxes",.ref (T.length+1)),(.inr "marks",.ref (T.length+3)),(.inr "clock",.int 0),(.inr "tries",.ref (T.length+4)),(.inr "log",.ref (T.length+5))]=mD 0 (pMo T.length):=rfl;have gs:∀X,(T++(O.dic []::X)).set T.length (.dic (mD 0 (pMo T.length)))=T++(.dic (mD 0 (pMo T.length))::X):=fun X=>by rw[gs0];rfl
 rwa[ft,mul,l1,l2,l4,l5,ge,em,gs]
theorem Ba{st:List Int}(M1:Mm pos c T):∃pos' c',Mm pos' c' (T++[.dic (mD 0 (pMo T.length)),.lst (st.map U.int),.lst [.int 0],.lst ((QY st.length (0:Int)).map U.int),.dic [],.lst []])/\Mr j pos' c' (m0 st) (pMo T.length) (fun _ _=>0)/\Fm j pos c pos' c':=by
 have N1:=M1.new (.k j 0) (.dic (mD 0 (pMo T.length))) [];have N2:=(N1.new (.k j 1) (.lst (st.map U.int)) [.lst [.int 0]]);have N3:=N2.new (.k j 2) (.lst ((QY st.length (0:Int)).map U.int)) [];have N4:=N3.new (.k j 3) (.dic []) [];have N5:=N4.new (.k j 4) (.lst []) [];have eT:T++[O.dic (mD 0 (pMo T.length))]++[O.lst (st.map U.int),O.lst [.int 0]]++[O.lst ((QY st.length (0:Int)).map U.int)]++[O.dic []]++[O.lst []]=T++[.dic (mD 0 (pMo T.length)),.lst (st.map U.int),.lst [.int 0],.lst ((QY st.length (0:Int)).map U.int),.dic [],.lst []]:=by simp
 rw[eT]at N5;refine⟨_,_,N5,⟨fun f hf=>?_,fun f hf=>?_,fun a h=>(nomatch h),fun a h=>(nomatch h)⟩,fun s hs=>?_⟩
 ·match f,hf with
  |0,_=>simp[eK,pMo]
  |1,_=>simp[eK,pMo]
  |2,_=>simp[eK,pMo]
  |3,_=>simp[eK,pMo]
  |4,_=>simp[eK,pMo]
 ·match f,hf with
  |0,_=>simp[aM,mK,m0]
  |1,_=>simp[aM,mK,m0]
  |2,_=>simp[aM,mK,m0]
  |3,_=>simp[aM,mK,m0]
  |4,_=>simp[aM,mK,m0]
 ·cases s with
  |k i f=>have:i≠j:=hs;simp[eK,aM,this]
  |a i x f=>simp[eK,aM]
  |x m i=>simp[eK,aM]
def idN(m:Nat):Int:=(m:Int)*3 % 7
def idL(m:Nat):List Int:=(Qa m).map idN
def Fo:∀m,m<7->idN m∉idL m:=by decide
def IF:idL (m+1)=idL m++[idN m]:=by unfold idL;rw[List.range_succ,Zg];rfl
structure Dv(pos:Pl->Option Nat)(c:Pl->O)(lg:Nat)(go:List Int)(S:Sto):Prop where
 m:Ws pos c S
 g:S[lg]?=some (.lst (go.map U.int))
def Dv.app(D:Dv pos c lg go S)(X:Sto):Dv pos c lg go (S++X):=⟨D.m.app X,aT D.g⟩
theorem Dv.sip{mm:Int}(D:Dv pos c lg go S)(hw:pos (.x 9 0)=some lw)(hg:lg≠lw)(h0:0<mm)(h1:mm<2^60):∃d S',nO [.ref lw,.int mm] S=some (.int d,S')/\Dv pos c lg go S'/\0<=d/\d<mm:=by
 obtain⟨d,S',e,W,d0,d1,k,_⟩:=D.m.sip hw h0 h1;exact⟨d,S',e,⟨W,by rw[k lg hg];exact D.g⟩,d0,d1⟩
def opT(M:Mo):Key×U->Bool
 |(.inl x,_)=>(M.A x).op
 |_=>false
def p7:Fn:=fnU 9 4 (cy nO)
def DrC(M:Mo)(n m:Nat)(pos:Pl->Option Nat)(c:Pl->O)(r:U×Sto):Prop:=
 (r.1=.non\/∃k:Kv,r.1=k.uu/\DOk M n k/\∃m',m'<=7/\(oQ M k).2.ids=idL m')/\Ws pos c r.2
theorem BM{k:Kl}(h:∀a,k≠.bg a):(oQ M (.k k)).2.ids=M.ids:=by
 cases k with
 |bg a=>exact absurd rfl (h a)
 |lk a b=>
  show(mC M a b).2.ids=_;unfold mC;split
  ·rfl
  ·split<;>rfl
 |pt a b v=>rfl
 |tk a=>
  show(lI M a).2.ids=_;unfold lI;split
  ·rfl
  ·split<;>rfl
 |wr a=>
  show(gH M a).2.ids=_;unfold gH;split
  ·rfl
  ·dsimp only;split<;>rfl
theorem BH{z w:Int}(M1:Mm pos c T)(R:Mr j pos c M p q)(hw:pos (.x 9 0)=some lw)(cw:c (.x 9 0)=.lst [.int z])(hids:M.ids=idL m)(hm:m<=7)(ni:Int)(hni:ni.toNat=n)(n0:1<=ni)(n1:ni<=60)(w0:1<=w)(w1:w<2^60) :
  Wp (p7 [.ref lw,.tup [.int ni,.int w],.ref (p 0),.int 7] T) (DrC M n m pos c):=by
 have t0:=R.t0 M1;have t3:=R.t3 M1;have l3:=(Q9.mp t3).1;have lid:(M.ids.map fun a=>((.inl a:Key),U.ref (q a 0))).length=m:=by rw[Q8,hids];simp[idL]
 obtain⟨mi,hmi⟩:∃mi:Int,mi=(m:Int):=⟨_,rfl⟩;have lidi:(((M.ids.map fun a=>((.inl a:Key),U.ref (q a 0))).length:Nat):Int)=mi:=by rw[lid,hmi]
 obtain⟨go,ego⟩:∃go:List Int,go=M.ids.filter fun x=>(M.A x).op:=⟨_,rfl⟩;have hgo:∀x∈go,x∈M.ids/\(M.A x).op=true:=fun x hx=>by
  rw[ego]at hx;exact List.mem_filter.mp hx
 have ec:ko (cOp fIx (ak 2) (cC (.str "tries"))) (gNm 0) (aU (cOp fIx (cOp fIx (cOp fIx (ak 1) (cC (.str "tries"))) (ak 0)) (cC (.str "open")))) (ak 0) 1 [2] [uR lw,some (.tup [.int ni,.int w]),uR (p 0),uI 7,none,none,none,none,none] T=some (.ref T.length,T++[.lst (go.map U.int)]):=by
  have:=wH (S:=T) (ci:=cOp fIx (ak 2) (cC (.str "tries"))) (el:=ak 0) (ct:=aU (cOp fIx (cOp fIx (cOp fIx (ak 1) (cC (.str "tries"))) (ak 0)) (cC (.str "open")))) (caps:=[2]) (ρ:=[uR lw,some (.tup [.int ni,.int w]),uR (p 0),uI 7,none,none,none,none,none]) (ld:=p 3) (kus:=M.ids.map fun a=>(.inl a,.ref (q a 0))) (t:=opT M) (v:=fun e=>kU e.1) (r:=[uR (p 0)]) (by rwa[t0,vT]) t3 rfl (by rw[lid];omega) (fun ep ys e he=>by
   obtain⟨x,hx,rfl⟩:=Qn.mp he;have N:=(M1.set (R.pk 3 (by decide)) (.fdc ep (M.ids.map fun a=>(.inl a,.ref (q a 0))))).app [.lst ys];have g0:(T.set (p 3) (.fdc ep (M.ids.map fun a=>(.inl a,.ref (q a 0))))++[O.lst ys])[p 0]?=some (.dic (mD M.ck p)):=N.get (R.pk 0 (by decide)) ((aJ (by simp)).trans (R.ck 0 (by decide)));have g3:=N.get (R.pk 3 (by decide)) bQ;have go:(T.set (p 3) (.fdc ep (M.ids.map fun a=>(.inl a,.ref (q a 0))))++[O.lst ys])[q x 0]?=some (.dic (aD (M.A x).g (M.A x).st (M.A x).op (q x 1) (q x 2) (q x 3))):=N.get (R.pa x hx 0 (by decide)) ((aJ (by simp)).trans (R.ca x hx 0 (by decide)));have vi:=bZ (q:=q) hx;show aU (cOp fIx (cOp fIx (cOp fIx (ak 1) (cC (.str "tries"))) (ak 0)) (cC (.str "open"))) [uI x,uR (p 0)] _=_;rwa[g0,vT,g3,zT,vi,go,vo,opT]) (fun e he Y=>rfl)
  rw[this];have eg:((M.ids.map fun a=>((.inl a:Key),U.ref (q a 0))).filter (opT M)).map (fun e=>kU e.1)=go.map U.int:=by
   rw[List.filter_map,Qu,ego];rfl
  rw[eg]
 have hlw:=M1.lt hw;have hlg:T.length≠lw:=Nat.ne_of_gt hlw;have D1:Dv pos c T.length go (T++[.lst (go.map U.int)]):=⟨⟨z,by rw[D9 cw];exact M1.app _⟩,by rw[ga0];rfl⟩;obtain⟨S1,eS1⟩:∃S1,S1=T++[O.lst (go.map U.int)]:=⟨_,rfl⟩;rw[<-eS1]at D1 ec;have rd:∀{S},Dv pos c T.length go S->∃N:Pl->O,Mm pos N S/\Mr j pos N M p q:=fun{S} D=>by
  obtain⟨z,N⟩:=D.m;exact⟨_,N,R.fx Fx.upd⟩
 have eq0:∀S,Dv pos c T.length go S->m9 false (.ref T.length) (.ref S.length) (S++[.lst []])=some (.bl (decide (go=[])),S++[.lst []]):=fun S D=>by
  have:=kb false (S:=S++[.lst []]) (l:=T.length) (l':=S.length) (ns:=go) (ms:=[]) (aT D.g) (by rw[ga0];rfl);rw[if_neg Q6]at this;exact this
 unfold p7;rw[kN];unfold cy;rw[bS (ρ':=[uR lw,some (.tup [.int ni,.int w]),uR (p 0),uI 7,uR T.length,none,none,none,none]) (S':=S1) (by rwa[ec])];obtain⟨c1,N1,R1⟩:=rd D1;have a0:=R1.t0 N1;have a3:=R1.t3 N1;rw[bS (ρ':=[uR lw,some (.tup [.int ni,.int w]),uR (p 0),uI 7,uR T.length,uI mi,none,none,none]) (S':=S1) (by rwa[a0,vT,a3,lidi])];have tst:∃b S2,(C3 (aU (cOp fLt (ak 5) (ak 3))) (cOr (aU (cOp (m9 false) (ak 4) (km aN))) (aU (cOp fEq (cCB nO (ah (ak 0) (ah (cC (.int 5)) aN))) (cC (.int 0)))))) [uR lw,some (.tup [.int ni,.int w]),uR (p 0),uI 7,uR T.length,uI mi,none,none,none] S1=some (b,S2)/\Dv pos c T.length go S2/\(b=true->m<7):=by
  by_cases h6:m<7
  ·have z6:decide (mi<7)=true:=decide_eq_true (by omega);have q:=eq0 _ D1;by_cases hg:go=[]
   ·rw[decide_eq_true hg]at q;exact⟨true,_,by rwa[z6,q],D1.app [.lst []],fun _=>h6⟩
   ·rw[decide_eq_false hg]at q;obtain⟨d,S',e,D',_,_⟩:=(D1.app [.lst []]).sip (mm:=5) hw hlg (by decide) (by decide);exact⟨decide (d=0),S',by rwa[z6,q,e],D',fun _=>h6⟩
  ·have z6:decide (mi<7)=false:=decide_eq_false (by omega);exact⟨false,_,by rwa[z6],D1,fun h=>nomatch h⟩
 obtain⟨b,S2,et,D2,hb⟩:=tst;cases b with
 |true=>
  have h7:=hb rfl;refine⟨((Kl.bg (idN m)).u,S2),?_,.inr ⟨.k (.bg (idN m)),rfl,?_,m+1,by omega,?_⟩,D2.m⟩
  ·have mm:nF (.int mi) (.int 3) S2=some (.int (mi*3),S2):=qc (.inr (by decide));have md:tj (.int (mi*3)) (.int 7) S2=some (.int (mi*3 % 7),S2):=wY (by decide);rw[qb,kB,et];have ei:idN m=mi*3 % 7:=by rw[hmi];rfl
   rwa[mm,md,Kl.u,ei]
  ·show idN m∉M.ids;rw[hids];exact Fo m h7
  ·show M.ids++[idN m]=_;rw[hids,IF]
 |false=>
  rw[bS (ρ':=[uR lw,some (.tup [.int ni,.int w]),uR (p 0),uI 7,uR T.length,uI mi,none,none,none]) (S':=S2) (by rw[kB,et];rfl)];have q2:=eq0 _ D2;by_cases hg:go=[]
  ·rw[decide_eq_true hg]at q2;refine⟨(.non,S2++[.lst []]),?_,.inl rfl,(D2.app [.lst []]).m⟩;rwa[q2]
  ·rw[decide_eq_false hg]at q2;rw[bS (ρ':=[uR lw,some (.tup [.int ni,.int w]),uR (p 0),uI 7,uR T.length,uI mi,none,none,none]) (S':=S2++[.lst []]) (by rwa[q2])];have D3:=D2.app [.lst []];have gl:=List.length_pos_iff.mpr hg;have gl6:go.length<=7:=by
    rw[ego];refine Qp (List.length_filter_le _ _) ?_;rw[hids];simp[idL];exact hm
   obtain⟨d4,S4,e4,D4,d40,d41⟩:=D3.sip (mm:=(go.length:Nat)) hw hlg (by omega) (by omega);have a4:=BV (xs:=go) d40 d41;obtain⟨a,ea⟩:∃a,a=go.getD d4.toNat 0:=⟨_,rfl⟩;rw[<-ea]at a4;have ha:a∈go:=by
    have hi:d4.toNat<go.length:=by omega
    rw[ea,Qv,Q7 hi];exact Zb hi
   obtain⟨hai,hao⟩:=hgo a ha;have g3:=D3.g;have g4:=D4.g;rw[bS (ρ':=[uR lw,some (.tup [.int ni,.int w]),uR (p 0),uI 7,uR T.length,uI mi,uI a,none,none]) (S':=S4) (by rwa[g3,Q8,e4,g4,a4])];obtain⟨d5,S5,e5,D5,d50,d51⟩:=D4.sip (mm:=ni) hw hlg (by omega) (by omega);have i0:atI [U.int ni,.int w] 0=some (.int ni):=rfl;have i1:atI [U.int ni,.int w] 1=some (.int w):=rfl;rw[bS (ρ':=[uR lw,some (.tup [.int ni,.int w]),uR (p 0),uI 7,uR T.length,uI mi,uI a,uI d5,none]) (S':=S5) (by rwa[i0,e5])];obtain⟨c5,N5,R5⟩:=rd D5;have b0:=R5.t0 N5;have b3:=R5.t3 N5;have bo:=R5.ao N5 hai;have vi:=bZ (q:=q) hai;have same:∀k:Kl,(∀a,k≠.bg a)->∃m',m'<=7/\(oQ M (.k k)).2.ids=idL m':=fun k hk=>⟨m,hm,by rw[BM hk,hids]⟩;by_cases ht:0<=(M.A a).st
   ·have zt:decide (0<=(M.A a).st)=true:=decide_eq_true ht;refine⟨((Kl.wr a).u,S5),?_,.inr ⟨.k (.wr a),rfl,⟨hai,hao,ht⟩,same _ (fun _ z=>nomatch z)⟩,D5.m⟩;rwa[b0,vT,b3,vi,bo,vs,zt,Kl.u]
   ·have zt:decide (0<=(M.A a).st)=false:=decide_eq_false ht;have on:a∈M.ids/\(M.A a).op=true/\(M.A a).st<0:=⟨hai,hao,by omega⟩;rw[bS (ρ':=[uR lw,some (.tup [.int ni,.int w]),uR (p 0),uI 7,uR T.length,uI mi,uI a,uI d5,none]) (S':=S5) (by rwa[b0,vT,b3,vi,bo,vs,zt])];obtain⟨d6,S6,e6,D6,d60,d61⟩:=D5.sip (mm:=16) hw hlg (by decide) (by decide);rw[bS (ρ':=[uR lw,some (.tup [.int ni,.int w]),uR (p 0),uI 7,uR T.length,uI mi,uI a,uI d5,uI d6]) (S':=S6) (by rwa[e6])];by_cases h1:d6<7
    ·have z1:decide (d6<7)=true:=decide_eq_true h1;refine⟨((Kl.lk a d5).u,S6),?_,.inr ⟨.k (.lk a d5),rfl,⟨on,d50,by omega⟩,same _ (fun _ z=>nomatch z)⟩,D6.m⟩;rwa[z1,Kl.u]
    ·have z1:decide (d6<7)=false:=decide_eq_false h1;rw[bS (ρ':=[uR lw,some (.tup [.int ni,.int w]),uR (p 0),uI 7,uR T.length,uI mi,uI a,uI d5,uI d6]) (S':=S6) (by rwa[z1])];by_cases h2:d6<11
     ·have z2:decide (d6<11)=true:=decide_eq_true h2;obtain⟨d7,S7,e7,D7,d70,d71⟩:=D6.sip (mm:=w) hw hlg (by omega) w1;refine⟨((Kl.pt a d5 d7).u,S7),?_,.inr ⟨.k (.pt a d5 d7),rfl,⟨on,d50,by omega⟩,same _ (fun _ z=>nomatch z)⟩,D7.m⟩;rwa[z2,i1,e7,Kl.u]
     ·have z2:decide (d6<11)=false:=decide_eq_false h2;rw[bS (ρ':=[uR lw,some (.tup [.int ni,.int w]),uR (p 0),uI 7,uR T.length,uI mi,uI a,uI d5,uI d6]) (S':=S6) (by rwa[z2])];have gL:(S6++[O.lst [.tup [.str "take",.int a],.tup [.str "fall",.int a]]])[S6.length]?=some (.lst [.tup [.str "take",.int a],.tup [.str "fall",.int a]]):=by rw[ga0];rfl
      have D7:=D6.app [O.lst [.tup [.str "take",.int a],.tup [.str "fall",.int a]]];by_cases h3:d6=15
      ·have z3:decide (d6=15)=true:=decide_eq_true h3;have ix:atI [U.tup [.str "take",.int a],.tup [.str "fall",.int a]] 1=some (.tup [.str "fall",.int a]):=rfl;refine⟨((Kv.fl a).uu,S6++[O.lst [.tup [.str "take",.int a],.tup [.str "fall",.int a]]]),?_,.inr ⟨.fl a,rfl,on,m,hm,hids⟩,D7.m⟩;rwa[z3,if_true,gL,ix,Kv.uu]
      ·have z3:decide (d6=15)=false:=decide_eq_false h3;have ix:atI [U.tup [.str "take",.int a],.tup [.str "fall",.int a]] 0=some (.tup [.str "take",.int a]):=rfl;refine⟨((Kl.tk a).u,S6++[O.lst [.tup [.str "take",.int a],.tup [.str "fall",.int a]]]),?_,.inr ⟨.k (.tk a),rfl,on,same _ (fun _ z=>nomatch z)⟩,D7.m⟩;rwa[z3,Qh,if_false,gL,ix,Kl.u]
end
section
variable{cK cA:Cl}{i j n l:Nat}{pos:Pl->Option Nat}{c:Pl->O}{T S:Sto}{K:Kc}{M:Mo}{pk p:Nat->Nat}{qk q:Int->Nat->Nat}{zO:O}
theorem Cm{x:Nat}{o:O}:∀{T X:Sto},T.length<=x->∃X',(T++X).set x o=T++X':=fun{T X} h=>⟨X.set (x-T.length) o,List.set_append_right _ _ h⟩
def kx:Fn:=fnU 1 1 fj
def lV(cK cA:Cl)(zO:O):Fn:=fnU 6 2 (eC kx lW (mZ cK) (vE cK) (jb cK) (vF cK) (lY cK cA zO) cK)
def stB(cK cA:Cl)(zO:O):CS:=fX kx lW (mZ cK) (vE cK) (jb cK) (vF cK) (lY cK cA zO) cK
theorem Hb{r2 r3 r4 r5:Option U}{X:Sto}(M1:Mm pos c T)(Rk:Kr cK cA i pos c K pk qk)(R:Mr j pos c M p q)(Z:Sm K M)(hz:T[l]?=some zO)(h64:K.ids.length<64)(ev:∀x∈K.ev,EvL x)(he:K.ev.length<=9000):Wp (stB cK cA zO [uR (pk 0),uR (p 0),r2,r3,r4,r5] (T++X)) fun r=>r.1=.nx/\∃r4' r5' X',r.2=([uR (pk 0),uR (p 0),r2,r3,r4',r5'],T++X'):=by
 have N0:=M1.app X;have k0:=N0.get (Rk.pk 0 (by decide)) Rk.c0;have e1:=Fc N0 Rk;have N1:=N0.app [.lst K.ev];have k1:=N1.get (Rk.pk 0 (by decide)) Rk.c0;have e2:=yA (z:=zO) (l:=l) N1 Rk (aT (aT hz)) h64;have N2:=N1.app [.lst ((gm K).map U.int)];have g0:=R.t0 N2;have g4:=R.t4 N2;rw[Z.lg]at g4;obtain⟨T2,eT2⟩:∃T2,T2=T++X++[O.lst K.ev]++[O.lst ((gm K).map U.int)]:=⟨_,rfl⟩;have y1:T2[(T++X).length]?=some (.lst K.ev):=by rw[eT2];exact aT (by rw[ga0];rfl)
 have y2:T2[(T++X++[O.lst K.ev]).length]?=some (.lst ((gm K).map U.int)):=by rw[eT2,ga0];rfl
 rw[<-eT2]at g0 g4 N2 e2;have s1:m9 true (.ref (T++X).length) (.ref (p 4)) T2=some (.bl false,T2):=kq.ne (kq.lst y1 g4 (hV.all fun u hu=>(ev u hu).lay _)) (by decide);obtain⟨X3,l3,e3,y3⟩:=yi N2 R (by rw[Z.ids];exact h64);rw[Z.ord]at y3;have s2:m9 true (.ref (T++X++[O.lst K.ev]).length) (.ref l3) (T2++X3)=some (.bl false,T2++X3):=by
  have:=kb true (S:=T2++X3) (aT y2) y3;simpa using this
 have z1:(T2++X3)[(T++X).length]?=some (.lst K.ev):=aT y1;have z2:(T2++X3)[(T++X++[O.lst K.ev]).length]?=some (.lst ((gm K).map U.int)):=aT y2;have hL:K.ev.length<LIM:=by unfold LIM;omega
 have lo:((gm K).map U.int).length<LIM:=by
  unfold LIM gm nh;rw[Q8,Q8,(fc _).length_eq,List.length_range,Q8];omega
 obtain⟨a1,ha1⟩:∃a1,a1=(T++X).length:=⟨_,rfl⟩;obtain⟨a2,ha2⟩:∃a2,a2=(T++X++[O.lst K.ev]).length:=⟨_,rfl⟩;have l2:a2=a1+1:=by rw[ha2,ha1,QC];rfl
 rw[<-ha1]at e1 s1 z1 y1;rw[<-ha2]at e2 s2 z2 y2;have z3:((T2++X3).set a1 (.lst (K.ev++[.tup [.str "begin",.int 99]])))[a2]?=some (.lst ((gm K).map U.int)):=by rw[Qb (by omega)];exact z2
 have fin:∃X',((T2++X3).set a1 (.lst (K.ev++[.tup [.str "begin",.int 99]]))).set a2 (.lst ((gm K).map U.int++[.int 99]))=T++X':=by
  have hT:T.length<=a1:=by rw[ha1];simp
  have eX:T2++X3=T++(X++([O.lst K.ev]++([O.lst ((gm K).map U.int)]++X3))):=by rw[eT2];simp
  obtain⟨Y1,h1⟩:=Cm (o:=.lst (K.ev++[.tup [.str "begin",.int 99]])) (T:=T) (X:=X++([O.lst K.ev]++([O.lst ((gm K).map U.int)]++X3))) hT;rw[eX,h1];exact Cm (by omega)
 obtain⟨X',hX'⟩:=fin;refine⟨(.nx,[uR (pk 0),uR (p 0),r2,r3,uR a1,uR a2],T++X'),?_,rfl,_,_,X',rfl⟩;rw[<-hX'];unfold stB fX;generalize hS0:T++X=S0 at *;generalize hS1:S0++[O.lst K.ev]=S1 at *;rw[bS (ρ':=[uR (pk 0),uR (p 0),r2,r3,uR a1,r5]) (S':=S1) (by rwa[k0,e1])];rw[bS (ρ':=[uR (pk 0),uR (p 0),r2,r3,uR a1,uR a2]) (S':=T2) (by rwa[k1,e2])];have i1:zM .list (ak 4) [uR (pk 0),uR (p 0),r2,r3,uR a1,uR a2] T2=some (.bl true,T2):=by rwa[tyU,y1,Ck]
 have i2:zM .list (ak 5) [uR (pk 0),uR (p 0),r2,r3,uR a1,uR a2] T2=some (.bl true,T2):=by rwa[tyU,y2,Ck]
 rw[bS (ρ':=[uR (pk 0),uR (p 0),r2,r3,uR a1,uR a2]) (S':=T2) (by rwa[i1,g0,vL,s1,i2])];rw[bS (ρ':=[uR (pk 0),uR (p 0),r2,r3,uR a1,uR a2]) (S':=T2++X3) (by rwa[e3,s2])];rw[bS (ρ':=[uR (pk 0),uR (p 0),r2,r3,uR a1,uR a2]) (S':=(T2++X3).set a1 (.lst (K.ev++[.tup [.str "begin",.int 99]]))) (by rwa[z1,e8 hL])];rwa[z3,e8 lo]
theorem Aj{α:Type}{x:Nat}{xs:List α}{S:Sto}(h:S[x]?=some (.lst ((xs.map fun _=>true).map U.bl))):Wp (FV [.ref x] S) fun r=>r=(.bl true,S):=MQ h (by
 congr 2;simp)
theorem yn{x:Int}:kx [.int x] S=some (.bl true,S):=by
 unfold kx;rw[rb];have t1:tyU (.int x) S=some .int:=rfl;rwa[fj,t1,Ck]
theorem Ax{ma:List Int}:(Qa ma.length).map (fun i=>U.int (ma.getD i 0))=ma.map U.int:=by
 refine List.ext_getElem (by simp) fun i h1 h2=>?_;have h:i<ma.length:=by simpa using h1
 rw[List.getElem_map,List.getElem_range,List.getElem_map,Qv,Q7 h];rfl
theorem xB(M1:Mm pos c T)(Rk:Kr cK cA i pos c K pk qk)(R:Mr j pos c M p q)(Z:Sm K M)(hz:T[l]?=some zO)(h64:K.ids.length<64)(ev:∀x∈K.ev,EvL x)(he:K.ev.length<=9000)(hm:K.ma.length<=900):Wp (lV cK cA zO [.ref (pk 0),.ref (p 0)] T) fun r=>r.1=.bl true/\∃X,r.2=T++X:=by
 have k0:=M1.get (Rk.pk 0 (by decide)) Rk.c0;have g0:=R.t0 M1;have g2:=R.t2 M1;rw[Z.ma]at g2;have lm:(K.ma.map U.int).length=K.ma.length:=Q8 ..;obtain⟨ni,hni⟩:∃ni:Int,ni=(K.ma.length:Int):=⟨_,rfl⟩;have lmi:(((K.ma.map U.int).length:Nat):Int)=ni:=by rw[lm,hni]
 have hr:ah (cCB n9 (ah (cOp fIx (ak 1) (cC (.str "marks"))) aN)) aN [uR (pk 0),uR (p 0),none,none,none,none] T=some ([.int ni],T):=by rwa[g0,vM,g2,lmi]
 have hi:cZ (ah (cCB n9 (ah (cOp fIx (ak 1) (cC (.str "marks"))) aN)) aN) [uR (pk 0),uR (p 0),none,none,none,none] T=some ((Qa K.ma.length).map fun i:Nat=>U.int (i:Int),fun _=>True,T):=by
  rw[mN hr (by omega) (by omega),hni,ZD,qu]
 obtain⟨⟨u,T1⟩,e3,e3'⟩:=DY (ce:=bJ cK (mZ cK) (ak 1) (ah (ak 0) aN)) (caps:=[0]) (cs:=[uR (pk 0)]) (v:=fun i=>.int (K.ma.getD i 0)) (Q:=fun r=>r.1=.ref T.length/\∃G,r.2=T++(.lst (K.ma.map U.int)::G)) hi (fun _=>trivial) (by simp;omega) rfl (fun x hx G=>by
  have k0:=aT (r:=G) k0;have em:=Bq (b:=(x:Int)) (M1.app G) Rk (by omega) (by have:=ZJ.mp hx;omega);rw[ZD]at em;refine .of (r:=(.int (K.ma.getD x 0),T++G)) ?_ ⟨rfl,[],by simp⟩;rwa[k0,em]) (fun G=>⟨rfl,G,by rw[Ax]⟩)
 obtain⟨rfl,G1,rfl⟩:=e3';have N1:=M1.app (.lst (K.ma.map U.int)::G1);have y0:(T++(O.lst (K.ma.map U.int)::G1))[T.length]?=some (.lst (K.ma.map U.int)):=by rw[ga0];rfl
 generalize hS1:T++(O.lst (K.ma.map U.int)::G1)=S1 at *;have k1:=N1.get (Rk.pk 0 (by decide)) Rk.c0;have h0:=R.t0 N1;have h1:=R.t1 N1;have h2:=R.t2 N1;rw[Z.bx]at h1;rw[Z.ma]at h2;rw[Z.ck]at h0;have e1:=Fb N1 Rk;have e2:=yE N1 Rk;have s1:m9 true (.tup (K.bx.map U.int)) (.tup (K.bx.map U.int)) S1=some (.bl false,S1):=kq.ne (.refl Lay.ints) (by decide);have s2:m9 true (.ref T.length) (.ref (p 2)) S1=some (.bl false,S1):=by
  have:=kb true (S:=S1) y0 h2;simpa using this
 have dk:decide (K.tk=K.tk)=true:=decide_eq_true rfl;unfold lV;rw[pE];unfold eC;rw[bS (ρ':=[uR (pk 0),uR (p 0),uR T.length,none,none,none]) (S':=S1) (by rwa[e3])];rw[bS (ρ':=[uR (pk 0),uR (p 0),uR T.length,none,none,none]) (S':=S1) (by rwa[k1,e1,h0,vB,h1,s1,vM,s2,e2,vC,dk,Zw])];have hL:(K.ma.map U.int).length+1<=LIM:=by unfold LIM;rw[lm];omega
 obtain⟨S2,hS2⟩:∃S2,S2=S1++[O.lst [.int K.tk]]:=⟨_,rfl⟩;obtain⟨S3,hS3⟩:∃S3,S3=S2++[O.lst ((K.ma++[K.tk]).map U.int)]:=⟨_,rfl⟩;have w0:S2[T.length]?=some (.lst (K.ma.map U.int)):=by rw[hS2];exact aT y0
 have w1:S2[S1.length]?=some (.lst [.int K.tk]):=by rw[hS2,ga0];rfl
 have w2:S3[S2.length]?=some (.lst ((K.ma++[K.tk]).map U.int)):=by rw[hS3,ga0];rfl
 have ea:p9 (.ref T.length) (.ref S1.length) S2=some (.ref S2.length,S3):=by
  show mR (.ref T.length) (.ref S1.length) S2=_;unfold mR;simp only[w0,w1];rw[if_pos (by simpa using hL),hS3,Zg];rfl
 have ei:iTp (cOp p9 (ak 2) (km (ah (bJ cK (jb cK) (ak 0) aN) aN))) [uR (pk 0),uR (p 0),uR T.length,none,none,none] S1=some ((K.ma++[K.tk]).map U.int,fun S=>S[S2.length]?=some (.lst ((K.ma++[K.tk]).map U.int)),S3):=By (by
  have el:km (ah (bJ cK (jb cK) (ak 0) aN) aN) [uR (pk 0),uR (p 0),uR T.length,none,none,none] S1=some (.ref S1.length,S2):=by rw[hS2];rwa[k1,e2]
  rwa[el,ea]) w2
 obtain⟨⟨u4,S4⟩,e4,e4',G4,e4''⟩:=DY (ce:=cCB kx (ah (ak 0) aN)) (caps:=[]) (cs:=[]) (v:=fun _=>.bl true) (Q:=fun r=>r.1=.ref S3.length/\∃G,r.2=S3++(.lst ((K.ma++[K.tk]).map fun _=>.bl true)::G)) ei (fun X=>aT w2) (by simp;omega) rfl (fun x hx G=>by
  refine .of (r:=(.bl true,S3++G)) ?_ ⟨rfl,[],by simp⟩;have:=yn (x:=x) (S:=S3++G);rwa[this]) (fun G=>⟨rfl,G,rfl⟩)
 dsimp only at e4' e4'';subst e4' e4'';have v4:(S3++(O.lst ((K.ma++[K.tk]).map fun _=>.bl true)::G4))[S3.length]?=some (.lst (((K.ma++[K.tk]).map fun _=>true).map U.bl)):=by rw[ga0,Qu];rfl
 obtain⟨⟨u5,S5⟩,e5,e5'⟩:=Aj v4;cases e5';generalize hS4:S3++(O.lst ((K.ma++[K.tk]).map fun _=>.bl true)::G4)=S4 at *;rw[bS (ρ':=[uR (pk 0),uR (p 0),uR T.length,none,none,none]) (S':=S4) (by rwa[e4,e5])];have eS4:∃X,S4=T++X:=⟨_,by rw[<-hS4,hS3,hS2,<-hS1];simp only[Qw];rfl⟩;obtain⟨X4,rfl⟩:=eS4;have lp:Wp (dX (fun _=>True) (gNm 3) (stB cK cA zO) ([0,1].map fun i:Nat=>U.int (i:Int)) [uR (pk 0),uR (p 0),uR T.length,none,none,none] (T++X4)) fun r=>r.1=.nx/\∃X,r.2.2=T++X:=by
  refine DX (f:=fun i:Nat=>U.int (i:Int)) (I:=fun _ ρ S=>∃r3 r4 r5 X,ρ=[uR (pk 0),uR (p 0),uR T.length,r3,r4,r5]/\S=T++X) ?_ ?_ _ _ _ ⟨none,none,none,X4,rfl,rfl⟩
  ·rintro ρ S ⟨r3,r4,r5,X,rfl,rfl⟩;exact⟨trivial,rfl,X,rfl⟩
  ·rintro x xs ρ S ⟨r3,r4,r5,X,rfl,rfl⟩;refine⟨trivial,.of rfl ?_⟩;refine(Hb (r2:=uR T.length) (r3:=uI x) (r4:=r4) (r5:=r5) (X:=X) M1 Rk R Z hz h64 ev he).mono fun s hs=>.inl ?_;obtain⟨h1,r4',r5',X',h2⟩:=hs;rw[h2];exact⟨h1,_,_,_,X',rfl,rfl⟩
 obtain⟨⟨o,ρ',S6⟩,e6,h6,X6,h7⟩:=lp;dsimp only at h6 h7;subst h6 h7;refine⟨(.bl true,T++X6),?_,rfl,X6,rfl⟩;have ef:og (cZ (ah (cC (.int 2)) aN)) (gNm 3) (stB cK cA zO) [uR (pk 0),uR (p 0),uR T.length,none,none,none] (T++X4)=some (.nx,ρ',T++X6):=by
  have hi2:cZ (ah (cC (.int 2)) aN) [uR (pk 0),uR (p 0),uR T.length,none,none,none] (T++X4)=some ([0,1].map fun i:Nat=>U.int (i:Int),fun _=>True,T++X4):=by
   rw[mN (n:=2) (S1:=T++X4) rfl (by decide) (by decide),qu];rfl
  unfold og;rw[hi2];exact e6
 unfold stB at ef;rwa[ef]
end
theorem E2{ok:Sto->Prop}{gg:CG}{cb:CS}{u:U}{us:List U}{ρ ρ0 ρ1:Rho}{S S0 S1:Sto}(h:ok S)(hg:gg u ρ S=some (ρ0,S0))(hb:cb ρ0 S0=some (.bk,ρ1,S1)):dX ok gg cb (u::us) ρ S=some (.nx,ρ1,S1):=by
 unfold dX;rw[if_pos h,hg,QZ];simp only[hb,QZ]
section
variable{cK cA:Cl}{zO:O}{lw n m:Nat}{pk p:Nat->Nat}{T:Sto}
abbrev fL(cK cA:Cl)(zO:O)(f:Fn->Fn->Fn->Fn->Fn->Fn->Fn->Fn->Cl->CS):CS:=f vD lX pZ p7 p4 (p8 cK cA) (lV cK cA zO) (m7 cK) cK
def Tv(cK cA:Cl)(zO:O)(lw n:Nat)(pk p:Nat->Nat)(m:Nat)(T:Sto):Prop:=∃(pos:Pl->Option Nat) (c:Pl->O) (K:Kc) (M:Mo) (qk q:Int->Nat->Nat) (z:Int) (mm:Nat),Mm pos c T/\pos (.x 9 0)=some lw/\c (.x 9 0)=.lst [.int z]/\pos (.x 0 0)=some 0/\c (.x 0 0)=zO/\Kr cK cA 0 pos c K pk qk/\Mr 7 pos c M p q/\Sm K M/\Ki K n/\Kb K m/\Lb M m/\M.ids=idL mm/\mm<=7/\∀x∈K.ev,EvL x
theorem Mi{K:Kc}{k:Kv}(h:∀x∈K.ev,EvL x):∀x∈(jM K k).2.ev,EvL x:=by
 cases k with
 |k x=>exact Fv h
 |fl a=>exact j1 h (.two _ (by decide) _)
theorem Ea{r0 r1 r4 r7 r8 r9 r10:Option U}{ni w:Int}(hnA:cA.ns.length=6)(H:Tv cK cA zO lw n pk p m T)(hm:m<=100)(hni:ni.toNat=n)(n0:1<=ni)(n1:ni<=60)(w0:1<=w)(w1:w<2^60) :
  Wp (fL cK cA zO mX [r0,r1,uR lw,some (.tup [.int ni,.int w]),r4,uR (pk 0),uR (p 0),r7,r8,r9,r10] T) fun s=>(s.1=.bk\/(s.1=.nx/\Tv cK cA zO lw n pk p (m+1) s.2.2))/\s.2.2[0]?=some zO/\∃r8 r9 r10,s.2.1=[r0,r1,uR lw,some (.tup [.int ni,.int w]),r4,uR (pk 0),uR (p 0),r7,r8,r9,r10]:=by
 obtain⟨pos,c,K,M,qk,q,z,mm,M1,hw,cw,h0,c0,Rk,R,Z,I,B,L,hids,hmm,ev⟩:=H;obtain⟨⟨u,T1⟩,e1,hd,z1,N1⟩:=BH M1 R hw cw hids hmm ni hni n0 n1 w0 w1;dsimp only at hd N1;have Rk1:Kr cK cA 0 pos (aM c (.x 9 0) (.lst [.int z1])) K pk qk:=Rk.fx Fx.upd;have R1:Mr 7 pos (aM c (.x 9 0) (.lst [.int z1])) M p q:=R.fx Fx.upd;have cz:aM c (.x 9 0) (.lst [.int z1]) (.x 0 0)=zO:=(aJ (by simp)).trans c0;unfold fL mX;rw[bS (ρ':=[r0,r1,uR lw,some (.tup [.int ni,.int w]),r4,uR (pk 0),uR (p 0),r7,some u,r9,r10]) (S':=T1) (by rwa[e1])];rcases hd with rfl|⟨k,rfl,dk,m',hm',em'⟩
 ·refine⟨(.bk,[r0,r1,uR lw,some (.tup [.int ni,.int w]),r4,uR (pk 0),uR (p 0),r7,some .non,r9,r10],T1),?_,.inl rfl,N1.get h0 cz,_,_,_,rfl⟩;rwa[wZ,yN];rfl
 ·have b1:=B.ev;have b2:=B.ids;have vk:=dk.v Z;have mv:=dk.mv Z I;obtain⟨a1,a2⟩:=Z.call I vk;obtain⟨⟨u2,T2⟩,e2,rfl,pos2,c2,q2,N2,R2,F2⟩:=Bf N1 R1 (Z.mw I L (by omega)) (by rw[Z.lg];omega) (by rw[Z.ids];omega) (fun a ha=>by have:=L a ha;omega) mv;have Rk2:Kr cK cA 0 pos2 c2 K pk qk:=Rk1.fm F2 (by decide);obtain⟨⟨u3,T3⟩,e3,rfl,pos3,c3,qk3,N3,Rk3,F3⟩:=BW hnA N2 Rk2 I B (by omega) vk;have R3:Mr 7 pos3 c3 (oQ M k).2 p q2:=R2.fm F3 (by decide);have fr:∀i f,pos3 (.x i f)=pos (.x i f)/\c3 (.x i f)=aM c (.x 9 0) (.lst [.int z1]) (.x i f):=fun i f=>by
   obtain⟨f1,f2⟩:=F2 (.x i f) (fun h=>h);obtain⟨f3,f4⟩:=F3 (.x i f) (fun h=>h);exact⟨f3.trans f1,f4.trans f2⟩
  have B3:=D8 (k:=k) B;have I3:=D0 I vk;have e0:T3[0]?=some zO:=N3.get ((fr 0 0).1.trans h0) ((fr 0 0).2.trans cz);have h64:(jM K k).2.ids.length<64:=by rw[<-a2.ids,em'];simp[idL];omega
  obtain⟨⟨u4,T4⟩,e4,rfl,X4,hX⟩:=xB (zO:=zO) (l:=0) N3 Rk3 R3 a2 e0 h64 (Mi ev) (by have:=B3.ev;omega) (by rw[I3.lm];have:=I3.few;omega);dsimp only at hX;subst hX;rw[a1]at e2;have kn:qI k.uu=false:=by
   cases k with
   |fl a=>rfl
   |k x=>cases x<;>rfl
  have s1:m9 true (jM K k).1 (jM K k).1 T3=some (.bl false,T3):=kq.ne (.refl (LJ.lay T3)) (by decide);have ty:∀u:U,AnU u->∃b,∀S,tyU u S=some b:=fun u h=>by
   cases h with
   |no=>exact⟨_,fun _=>rfl⟩
   |nu v=>exact⟨_,fun _=>rfl⟩
   |fa=>exact⟨_,fun _=>rfl⟩
   |wd w h=>exact⟨_,fun _=>rfl⟩
  obtain⟨tt,ht⟩:=ty _ (LJ (K:=K) (k:=k));have dd:∀b:Bool,decide (b=b)=true:=fun b=>decide_eq_true rfl;refine⟨(.nx,[r0,r1,uR lw,some (.tup [.int ni,.int w]),r4,uR (pk 0),uR (p 0),r7,some k.uu,some (jM K k).1,some (jM K k).1],T3++X4),?_,.inr ⟨rfl,pos3,c3,_,_,qk3,q2,z1,m',N3.app X4,(fr 9 0).1.trans hw,(fr 9 0).2.trans bQ,(fr 0 0).1.trans h0,(fr 0 0).2.trans cz,Rk3,R3,a2,I3,B3,L.call mv,em',hm',Mi ev⟩,aT e0,_,_,_,rfl⟩;generalize hk:k.uu=ku at *;generalize hv:(jM K k).1=vu at *;rw[bS (ρ':=[r0,r1,uR lw,some (.tup [.int ni,.int w]),r4,uR (pk 0),uR (p 0),r7,some ku,r9,r10]) (S':=T1) (by rwa[wZ,kn])];rw[bS (ρ':=[r0,r1,uR lw,some (.tup [.int ni,.int w]),r4,uR (pk 0),uR (p 0),r7,some ku,some vu,r10]) (S':=T2) (by rwa[e2])];rw[bS (ρ':=[r0,r1,uR lw,some (.tup [.int ni,.int w]),r4,uR (pk 0),uR (p 0),r7,some ku,some vu,some vu]) (S':=T3) (by rwa[e3])];rw[bS (ρ':=[r0,r1,uR lw,some (.tup [.int ni,.int w]),r4,uR (pk 0),uR (p 0),r7,some ku,some vu,some vu]) (S':=T3) (by rwa[s1,ht,dd,Zw])];rwa[e4]
theorem uh{r0 r1 r4:Option U}{ni w:Int}(hnA:cA.ns.length=6)(hni:ni.toNat=n)(n0:1<=ni)(n1:ni<=60)(w0:1<=w)(w1:w<2^60):∀(xs:List Nat) (m:Nat) (T:Sto) (r7 r8 r9 r10:Option U),Tv cK cA zO lw n pk p m T->m+xs.length<=100->T[0]?=some zO->∃ρ' S',dX (fun _=>True) (gNm 7) (fL cK cA zO mX) (xs.map fun i:Nat=>U.int (i:Int)) [r0,r1,uR lw,some (.tup [.int ni,.int w]),r4,uR (pk 0),uR (p 0),r7,r8,r9,r10] T=some (.nx,ρ',S')/\S'[0]?=some zO/\ρ'.length=11/\ρ'[0]?=some r0
 |[],m,T,r7,r8,r9,r10,_,_,hz=>⟨_,T,gi trivial,hz,rfl,rfl⟩
 |x::xs,m,T,r7,r8,r9,r10,H,hn,hz=>by
  rw[QV]at hn;obtain⟨⟨o,ρ1,S1⟩,e,h,hz1,r8',r9',r10',hρ⟩:=Ea (r0:=r0) (r1:=r1) (r4:=r4) (r7:=uI x) (r8:=r8) (r9:=r9) (r10:=r10) hnA H (by omega) hni n0 n1 w0 w1;dsimp only at h hz1 hρ;subst hρ;rcases h with rfl|⟨rfl,H1⟩
  ·exact⟨_,S1,E2 trivial rfl e,hz1,rfl,rfl⟩
  ·obtain⟨ρ',S',e',h'⟩:=uh hnA hni n0 n1 w0 w1 xs (m+1) S1 (uI x) r8' r9' r10' H1 (by omega) hz1;exact⟨ρ',S',(gX trivial rfl e).trans e',h'⟩
def FQ:Pl->Option Nat:=fun s=>if s=.x 0 0 then some 0 else none
theorem FA{ns:List Int}{k:Int}{r2 r3 r4 r5 r6 r7 r8 r9 r10:Option U}(hnK:cK.ns.length=6)(hnA:cA.ns.length=6)(k0:0<=k)(hz:T[0]?=some zO):∃ρ' S',fL cK cA zO mW [some (.kl ns),uI k,r2,r3,r4,r5,r6,r7,r8,r9,r10] T=some (.nx,ρ',S')/\S'[0]?=some zO/\ρ'.length=11/\ρ'[0]?=some (some (.kl ns)):=by
 have M0:Mm FQ (fun _=>zO) T:=by
  refine⟨fun s q h=>?_,fun s s' q h h'=>?_⟩
  ·unfold FQ at h;split at h
   ·cases h;exact hz
   ·cases h
  ·unfold FQ at h h';split at h
   ·split at h'
    ·rename_i a b;rw[a,b]
    ·cases h'
   ·cases h
 obtain⟨z1,ew⟩:=DV (S:=T) ns k0;have W1:Ws (eK FQ (.x 9 0) T.length) (fun _=>zO) (T++[.lst [.int z1]]):=⟨z1,M0.new (.x 9 0) (.lst [.int z1]) []⟩;obtain⟨⟨u1,S1⟩,e1,ni,w,st,eu1,n0,n1,w0,w1,ls,⟨x1,M1⟩,_⟩:=ym W1 ml (fun s p h=>let ⟨_,M⟩:=W1;M.lt h);dsimp only at eu1 M1;subst eu1;obtain⟨⟨u2,S2⟩,e2,eu2,pos2,c2,M2,R2,F2⟩:=HZ (cA:=cA) (j:=0) (x:=.tup [.int ni,.int w]) hnK (show st.length<=900 by omega) M1;dsimp only at eu2 M2;subst eu2;have e3:=Bb (T:=S2) (show st.length<=900 by omega);obtain⟨pos3,c3,M3,R3,F3⟩:=Ba (j:=7) (st:=st) M2;generalize hS3:S2++[O.dic (mD 0 (pMo S2.length)),.lst (st.map U.int),.lst [.int 0],.lst ((QY st.length (0:Int)).map U.int),.dic [],.lst []]=S3 at *;have fr:∀i f,pos3 (.x i f)=eK FQ (.x 9 0) T.length (.x i f)/\c3 (.x i f)=aM (fun _=>zO) (.x 9 0) (.lst [.int x1]) (.x i f):=fun i f=>by
  obtain⟨f1,f2⟩:=F2 (.x i f) (fun h=>h);obtain⟨f3,f4⟩:=F3 (.x i f) (fun h=>h);exact⟨f3.trans f1,f4.trans f2⟩
 have p0:pos3 (.x 0 0)=some 0:=(fr 0 0).1.trans (by simp[eK,FQ]);have cz:c3 (.x 0 0)=zO:=(fr 0 0).2.trans (by simp[aM]);have H:Tv cK cA zO T.length ni.toNat (A5 S1.length) (pMo S2.length) 0 S3:=by
  refine⟨pos3,c3,wm st,m0 st,_,_,x1,0,M3,(fr 9 0).1.trans ml,(fr 9 0).2.trans bQ,p0,cz,R2.fm F3 (by decide),R3,?_,Ki.new ls (by omega),Kb.new,(fun a ha=>nomatch ha),rfl,by decide,(fun x hx=>nomatch hx)⟩;refine⟨rfl,rfl,rfl,rfl,rfl,Int.le_refl 0,(fun a ha=>nomatch ha),fun b o=>⟨(fun h=>nomatch h),fun h=>nomatch h.1⟩⟩
 have hz3:S3[0]?=some zO:=M3.get p0 cz;obtain⟨ρ',S',el,hz',hρ⟩:=uh (r0:=some (.kl ns)) (r1:=uI k) (r4:=some (.tup (st.map U.int))) (w:=w) hnA rfl n0 (by omega) w0 (by omega) (Qa 30) 0 S3 r7 r8 r9 r10 H (by simp) hz3;refine⟨ρ',S',?_,hz',hρ⟩;have ef:og (cZ (ah (cC (.int 30)) aN)) (gNm 7) (fL cK cA zO mX) [some (.kl ns),uI k,uR T.length,some (.tup [.int ni,.int w]),some (.tup (st.map U.int)),uR S1.length,uR S2.length,r7,r8,r9,r10] S3=some (.nx,ρ',S'):=by
  unfold og;rw[mN (n:=30) (S1:=S3) rfl (by decide) (by decide),qu];exact el
 unfold fL mW;unfold fL at ef;generalize hss:st.map U.int=ss at *;rw[bS (ρ':=[some (.kl ns),uI k,uR T.length,r3,r4,r5,r6,r7,r8,r9,r10]) (S':=T++[.lst [.int z1]]) (by rwa[ew])];rw[bS (ρ':=[some (.kl ns),uI k,uR T.length,some (.tup [.int ni,.int w]),some (.tup ss),r5,r6,r7,r8,r9,r10]) (S':=S1) (by rwa[e1])];rw[bS (ρ':=[some (.kl ns),uI k,uR T.length,some (.tup [.int ni,.int w]),some (.tup ss),uR S1.length,r6,r7,r8,r9,r10]) (S':=S2) (by rwa[e2])];rw[bS (ρ':=[some (.kl ns),uI k,uR T.length,some (.tup [.int ni,.int w]),some (.tup ss),uR S1.length,uR S2.length,r7,r8,r9,r10]) (S':=S3) (by rwa[e3])];exact ef
theorem vw{ns:List Int}(hnK:cK.ns.length=6)(hnA:cA.ns.length=6):∀(xs:List Nat) (ρ:Rho) (T:Sto),T[0]?=some zO->ρ.length=11->ρ[0]?=some (some (.kl ns))->∃ρ' S',dX (fun _=>True) (gNm 1) (fL cK cA zO mW) (xs.map fun i:Nat=>U.int (i:Int)) ρ T=some (.nx,ρ',S')
 |[],ρ,T,_,_,_=>⟨ρ,T,gi trivial⟩
 |x::xs,ρ,T,hz,hl,h0=>by
  match ρ,hl,h0 with
  |[a,b,r2,r3,r4,r5,r6,r7,r8,r9,r10],_,h0=>
   cases h0;obtain⟨ρ1,S1,e,hz1,l1,h1⟩:=FA (ns:=ns) (k:=(x:Int)) (r2:=r2) (r3:=r3) (r4:=r4) (r5:=r5) (r6:=r6) (r7:=r7) (r8:=r8) (r9:=r9) (r10:=r10) hnK hnA (by omega) hz;obtain⟨ρ',S',e'⟩:=vw hnK hnA xs ρ1 S1 hz1 l1 h1;exact⟨ρ',S',(gX trivial rfl e).trans e'⟩
theorem Ib(hnK:cK.ns.length=6)(hnA:cA.ns.length=6)(ns:List Int)(hl:ns.length<=63):∃ρ' S',FC vD lX pZ p7 p4 (p8 cK cA) (lV cK cA zO) (m7 cK) cK [some (.kl ns),none,none,none,none,none,none,none,none,none,none] [zO]=some (.rt (.bl true),ρ',S'):=by
 obtain⟨n,hn,n0,n1⟩:∃n:Int,ah (cCB IL (ah (cC (.int 2)) (ah (cCB IK (ah (cC (.int 6)) (ah (cCB n9 (ah (ak 0) aN)) aN))) aN))) aN [some (.kl ns),none,none,none,none,none,none,none,none,none,none] [zO]=some ([.int n],[zO])/\0<=n/\n<=6:=by
  have h1:∀i j:Int,IK [.int i,.int j] [zO]=some (.int (if j<i then j else i),[zO]):=fun i j=>rfl;have h2:∀i j:Int,IL [.int i,.int j] [zO]=some (.int (if j>i then j else i),[zO]):=fun i j=>rfl;refine⟨if (if ((ns.length:Nat):Int)<6 then((ns.length:Nat):Int)else 6)>2 then(if ((ns.length:Nat):Int)<6 then((ns.length:Nat):Int)else 6)else 2,?_,by omega,by omega⟩;have h3:n9 [.kl ns] [zO]=some (.int (ns.length:Nat),[zO]):=rfl;rwa[h1,h2,h3]
 obtain⟨ρ',S',e⟩:=vw (cK:=cK) (cA:=cA) (zO:=zO) (ns:=ns) hnK hnA (Qa n.toNat) [some (.kl ns),none,none,none,none,none,none,none,none,none,none] [zO] rfl rfl rfl;have ef:og (cZ (ah (cCB IL (ah (cC (.int 2)) (ah (cCB IK (ah (cC (.int 6)) (ah (cCB n9 (ah (ak 0) aN)) aN))) aN))) aN)) (gNm 1) (fL cK cA zO mW) [some (.kl ns),none,none,none,none,none,none,none,none,none,none] [zO]=some (.nx,ρ',S'):=by
  unfold og;rw[mN hn n0 (by omega),qu];exact e
 unfold FC;unfold fL at ef;rw[bS ef];exact⟨_,_,rfl⟩
end
theorem E6{P:Qx}{w:Qg}{K:Q1}{h:Heap}{mg:Str->Option Q3}{st:Qm}{k:Nat}{sp:Sp}{fa:Addr}(d:Je K "law" st)(X:K.In h)(G:h.Ns mainGlobals mg)(hfa:mg "law"=some (.ref fa))(ok:∀fd,Fun K "law" "law" st fa fd->∀base:Heap,zJ mg base->lF P w K mg base CX0 k fa fd ["script"] sp)
  (b:∀(kV doc pm:Q3) (an:Option Addr) (cdv ct v:Q3),bindArgs (PySem.W.fnOf "law" "law" (jF st) (dP st) (aA st) .none kV doc pm an cdv ct) ⟨[v],[]⟩=pure [(("script":Str),v)]:=by intros;rfl) :
  ∃fd:ZP,(∀(s:Q4) (v:Q3),BindsTo s fd ⟨[v],[]⟩ [("script",v)])/\∀base:Heap,K.In base->base.Ns mainGlobals mg->zJ mg base->lF P w K mg base CX0 k fa fd ["script"] sp:=by
 obtain⟨f,a,fd,F⟩:=d;cases hfa.symm.trans (PySem.W.mg_of X G a);refine⟨fd,fun s v=>?_,fun base _ _ bm=>ok fd F base bm⟩;obtain⟨oc,od,kV,doc,pm,an,cdv,ct,osl,rfl,lk,hcd⟩:=F.ex;exact .of_eq (b kV doc pm an cdv ct v)
theorem IY{l:PySem.W.OpenLaw}{w:Qg}{K:Q1}{h:Heap}{mg:Str->Option Q3}{fa:Addr}(X:K.In h)(G:h.Ns mainGlobals mg)(hfa:mg "law"=some (.ref fa))
  {CAttempt:Addr}
  {CKeeper:Addr}
  (ds:Jd K [("_law_well",jt),("_law_sip",kG),("_law_world",iF),("_law_whole",iG),("_law_held",jw),("_law_still",iH),("_law_model",iJ),("_law_ended",iK),("_law_look",jv),("_law_take",ju),("_law_write",iE),("_law_call",jx),("_law_order",iI),("_law_asked",iL),("_law_drawn_call",eO),("_law_stands",gP),("law",El)])
  (cl_Attempt:F0 K "Attempt" CAttempt ["glance","looked","puts","stamp","unwritten","is_open"] [("__init__","Attempt.__init__",gB),("instant","Attempt.instant",eP)])
  (cl_Keeper:F0 K "Keeper" CKeeper ["boxes","marks","holders","ticks","events","known"] [("__init__","Keeper.__init__",gT),("end","Keeper.end",iP),("found","Keeper.found",gx),("untaken","Keeper.untaken",fF),("is_barred","Keeper.is_barred",ed),("has_changed","Keeper.has_changed",du),("would_fall","Keeper.would_fall",dJ),("look_anew","Keeper.look_anew",d9),("begin","Keeper.begin",gz),("look","Keeper.look",gS),("put","Keeper.put",iM),("take","Keeper.take",gQ),("write","Keeper.write",gv),("fall","Keeper.fall",gU),("log","Keeper.log",iO),("order","Keeper.order",gw),("now","Keeper.now",iN),("clock","Keeper.clock",gy),("mark","Keeper.mark",gR)])
  (zs:JC K MA)
  {cO pO:Addr} (cod:FP K CKeeper "order" cO pO) :
  ∃fd:ZP,(∀(s:Q4) (v:Q3),BindsTo s fd ⟨[v],[]⟩ [("script",v)])/\∀base:Heap,K.In base->base.Ns mainGlobals mg->zJ mg base->lF l.prog w K mg base CX0 7 fa fd ["script"] (uw pO K):=by
 obtain⟨d__law_well,d__law_sip,d__law_world,d__law_whole,d__law_held,d__law_still,d__law_model,d__law_ended,d__law_look,d__law_take,d__law_write,d__law_call,d__law_order,d__law_asked,d__law_drawn_call,d__law_stands,d_law,-⟩:=ds;obtain⟨m_Attempt_init,m_Attempt_instant,-⟩:=cl_Attempt.ms;have TAttempt:=cl_Attempt.tc;obtain⟨m_Keeper_init,m_Keeper_end,m_Keeper_found,m_Keeper_untaken,m_Keeper_is_barred,m_Keeper_has_changed,m_Keeper_would_fall,m_Keeper_look_anew,m_Keeper_begin,m_Keeper_look,m_Keeper_put,m_Keeper_take,m_Keeper_write,m_Keeper_fall,m_Keeper_log,m_Keeper_order,m_Keeper_now,m_Keeper_clock,m_Keeper_mark,-⟩:=cl_Keeper.ms;have TKeeper:=cl_Keeper.tc;have B:=zs.blt X G;refine E6 d_law X G hfa fun fd F_law base bm=>?_;have M_Attempt_init:=nD (P:=l.prog) (w:=w) (base:=base) (k:=0) (cl_Attempt.mkd m_Attempt_init X G) B TAttempt;have M_Attempt_instant:=kM (P:=l.prog) (w:=w) (base:=base) (k:=0) (m_Attempt_instant.mt) B TAttempt;have M_Keeper_init:=px (P:=l.prog) (w:=w) (base:=base) (k:=0) (cl_Keeper.mkd m_Keeper_init X G) B TKeeper;have M_Keeper_end:=qY (P:=l.prog) (w:=w) (base:=base) (k:=0) (m_Keeper_end.mt) B TKeeper TAttempt;have M_Keeper_found:=nA (P:=l.prog) (w:=w) (base:=base) (k:=0) (m_Keeper_found.mt) B TKeeper TAttempt;have M_Keeper_untaken:=lJ (P:=l.prog) (w:=w) (base:=base) (k:=1) (m_Keeper_untaken.mt) B TKeeper TAttempt M_Keeper_found;have M_Keeper_is_barred:=kg (P:=l.prog) (w:=w) (base:=base) (k:=0) (m_Keeper_is_barred.mt) B TKeeper;have M_Keeper_has_changed:=jf (P:=l.prog) (w:=w) (base:=base) (k:=0) (m_Keeper_has_changed.mt) B TKeeper TAttempt;have M_Keeper_would_fall:=jC (P:=l.prog) (w:=w) (base:=base) (k:=1) (m_Keeper_would_fall.mt) B TKeeper TAttempt M_Keeper_is_barred M_Keeper_has_changed;have M_Keeper_look_anew:=ke (P:=l.prog) (w:=w) (base:=base) (k:=0) (m_Keeper_look_anew.mt) B TKeeper TAttempt;have M_Keeper_begin:=nC (P:=l.prog) (w:=w) (base:=base) (k:=1) (m_Keeper_begin.mt) B TKeeper TAttempt M_Attempt_init;have M_Keeper_look:=pq (P:=l.prog) (w:=w) (base:=base) (k:=2) (m_Keeper_look.mt) B TKeeper TAttempt M_Keeper_untaken M_Keeper_would_fall (M_Keeper_end.mono (by decide)) (M_Keeper_look_anew.mono (by decide));have M_Keeper_put:=qV (P:=l.prog) (w:=w) (base:=base) (k:=2) (m_Keeper_put.mt) B TKeeper TAttempt M_Keeper_untaken;have M_Keeper_take:=ph (P:=l.prog) (w:=w) (base:=base) (k:=2) (m_Keeper_take.mt) B TKeeper TAttempt M_Keeper_untaken (M_Keeper_end.mono (by decide)) (M_Keeper_is_barred.mono (by decide)) (M_Keeper_has_changed.mono (by decide));have M_Keeper_write:=ny (P:=l.prog) (w:=w) (base:=base) (k:=1) (m_Keeper_write.mt) B TKeeper TAttempt M_Keeper_found M_Keeper_end;have M_Keeper_fall:=pA (P:=l.prog) (w:=w) (base:=base) (k:=2) (m_Keeper_fall.mt) B TKeeper M_Keeper_untaken (M_Keeper_end.mono (by decide));have M_Keeper_log:=qX (P:=l.prog) (w:=w) (base:=base) (k:=0) (m_Keeper_log.mt) B TKeeper;have M_Keeper_order:=nz (P:=l.prog) (w:=w) (base:=base) (k:=1) (m_Keeper_order.mt) cod bm B TKeeper TAttempt M_Attempt_instant;have M_Keeper_now:=qW (P:=l.prog) (w:=w) (base:=base) (k:=0) (m_Keeper_now.mt) B TKeeper;have M_Keeper_clock:=nB (P:=l.prog) (w:=w) (base:=base) (k:=0) (m_Keeper_clock.mt) B TKeeper;have M_Keeper_mark:=pj (P:=l.prog) (w:=w) (base:=base) (k:=0) (m_Keeper_mark.mt) B TKeeper;have jI:=sT (P:=l.prog) (w:=w) (base:=base) (k:=0) (d__law_well.df X G) B;have bO:=wx (P:=l.prog) (w:=w) (base:=base) (k:=0) (d__law_sip.df X G) B;have iY:=qO (P:=l.prog) (w:=w) (base:=base) (k:=1) (d__law_world.df X G) B bO;have iZ:=qP (P:=l.prog) (w:=w) (base:=base) (k:=0) (d__law_whole.df X G) B;have cU:=sW (P:=l.prog) (w:=w) (base:=base) (k:=0) (d__law_held.df X G) B;have dU:=qQ (P:=l.prog) (w:=w) (base:=base) (k:=1) (d__law_still.df X G) B cU;have i6:=qS (P:=l.prog) (w:=w) (base:=base) (k:=0) (d__law_model.df X G) B;have bp:=qT (P:=l.prog) (w:=w) (base:=base) (k:=0) (d__law_ended.df X G) B;have jK:=sV (P:=l.prog) (w:=w) (base:=base) (k:=2) (d__law_look.df X G) B (Has.mono cU (by decide)) dU (Has.mono bp (by decide));have jJ:=sU (P:=l.prog) (w:=w) (base:=base) (k:=2) (d__law_take.df X G) B (Has.mono bp (by decide)) dU (Has.mono cU (by decide));have iX:=qN (P:=l.prog) (w:=w) (base:=base) (k:=1) (d__law_write.df X G) B bp;have jL:=sX (P:=l.prog) (w:=w) (base:=base) (k:=3) (d__law_call.df X G) B jK jJ (Has.mono iX (by decide)) (Has.mono bp (by decide));have i4:=qR (P:=l.prog) (w:=w) (base:=base) (k:=0) (d__law_order.df X G) B;have i7:=qU (P:=l.prog) (w:=w) (base:=base) (k:=3) (d__law_asked.df X G) B TKeeper M_Keeper_begin M_Keeper_look M_Keeper_put M_Keeper_take (M_Keeper_write.mono (by decide)) M_Keeper_fall;have eY:=kL (P:=l.prog) (w:=w) (base:=base) (k:=1) (d__law_drawn_call.df X G) B bO;have g8:=pd (P:=l.prog) (w:=w) (base:=base) (k:=5) (d__law_stands.df X G) B TKeeper (Has.mono iZ (by decide)) (Has.mono i4 (by decide)) (M_Keeper_mark.mono (by decide)) (M_Keeper_now.mono (by decide)) (M_Keeper_clock.mono (by decide)) (M_Keeper_log.mono (by decide)) M_Keeper_order;exact Lq (P:=l.prog) (w:=w) (base:=base) (k:=5) F_law B TKeeper (Has.mono jI (by decide)) (Has.mono iY (by decide)) (Has.mono i6 (by decide)) (Has.mono eY (by decide)) (Has.mono jL (by decide)) (Has.mono i7 (by decide)) g8 (M_Keeper_init.mono (by decide)) fun ns hl=>Ib (cK:=⟨CKeeper,_⟩) (cA:=⟨CAttempt,_⟩) rfl rfl ns hl
theorem MP{l:PySem.W.OpenLaw}{q:Qx}{dW:List Str}{XP:(Str->Option Q3)->Heap->Prop}{YP:Qg->Heap->Prop}{d:DefRec}{K:Params->Q1}(p:Addr)(hn:l.most=some 63)(hdf:d.params.defaults=[])
  (hY:∀(w:Qg) (h:Heap),YP w h->(K w.params).In h/\h.get? p=some (PySem.W.tabObj #[])) (hK:∀w:Qg,(K w.params).lookup p=none) (hC:∀w:Qg,∃c,PySem.W.codeHdIn (K w.params) c p=true)
  (F:∀(w:Qg) (mg:Str->Option Q3) (fa:Addr) (h:Heap),(K w.params).In h->h.Ns mainGlobals mg->mg d.name=some (.ref fa)->
   ∃fd:ZP,(∀(s:Q4) (u:Q3),BindsTo s fd ⟨[u],[]⟩ [("script",u)])/\∀base:Heap,(K w.params).In base->base.Ns mainGlobals mg->zJ mg base->lF l.prog w (K w.params) mg base CX0 7 fa fd ["script"] (uw p (K w.params))) :
  PySem.W.WalkO q dW XP YP l.row.toRowW d [] (fun f vs=>PySem.call f vs):=
 L2.Ai (n:=63) (k:=7) (x:="script") (p:=p) (sp:=fun w=>uw p (K w.params)) hn (by decide) hdf ⟨rfl,by decide,by decide,rfl⟩ hY hK hC F (fun _ _ a ns hl hO hS=>⟨a,ns,rfl,Ig hO hS,hl,hO.1,fun _=>rfl⟩)
end OL
namespace PySem.W.Fast
def tw13311790285055510004:=0
def tw13185898286112147858:=0
def tw5293321459047429124:=0
def tw17323696756800800860:=0
def tw13452220203338672310:=0
def tw11581513697687634183:=0
def tw16181188390207373943:=0
def tw4467993026687492243:=0
def tw5620220883263574573:=0
def tw2843064456506558067:=0
def tw6801027814766219413:=0
def tw2289994721266220912:=0
def tw17368481104260993047:=0
def tw2925980396993323961:=0
def tw3981109111923745083:=0
def tw7726183384674287686:=0
def tw270332063912849067:=0
def tw1221434476590862690:=0
def tw9481763662975705778:=0
def tw14170579122301991068:=0
def tw15487713917125104896:=0
def tw1254486591487936486:=0
def tw13249460880162495020:=0
def tw10439913526170105649:=0
def tw742525527195707566:=0
def tw3623540510719336746:=0
def tw17412683644469878666:=0
def tw10881598044916952941:=0
def tw8202172533244503708:=0
def tw10669658704127561972:=0
def tw13862140156998824155:=0
def tw3721415801244937228:=0
def tw16814834605714118065:=0
def tw147089734727049071:=0
def tw11698700817935730458:=0
def tw17118747182681641999:=0
def tw14073023905612619026:=0
def tw14309294882728052822:=0
def tw2447140951183106919:=0
def tw2046307801739442314:=0
def tw4370423205097057722:=0
def tw17743731055753710250:=0
def tw9726944129796598844:=0
def tw11360538690240472882:=0
def tw10975624218266995611:=0
def tw11615177744648753467:=0
def tw7391391293528981958:=0
def tw9799817597163813444:=0
def tw4339230797396101374:=0
def tw14242617170117655376:=0
def tw5533726679632913035:=0
def tw1874745141180879865:=0
def tw15482887072711362155:=0
def tw11288671837997832544:=0
def tw11812273048483984615:=0
def tw1691960444202264158:=0
def tw13629407310732201517:=0
def tw9359645718144902476:=0
def tw17628486102007145859:=0
def tw13522486601683609591:=0
def tw13929935793367857888:=0
def tw9713432188084424811:=0
def tw7326174505527673504:=0
def tw3659664894875229864:=0
def tw16577350368555549011:=0
def tw8995069610539544777:=0
def tw4764239231642553104:=0
def tw16206247170401409689:=0
def tw11831503425721655809:=0
def tw10649895351812079468:=0
def tw1670023514132365224:=0
def tw13881462524768393546:=0
def tw17129248331201686421:=0
def tw8586608974585420784:=0
def tw11735341678622219323:=0
def tw8728127701533918431:=0
def tw15707705958980285195:=0
def tw3173190629688413207:=0
def tw14564526312457177599:=0
def tw2737077369931863701:=0
def tw7105787402386120966:=0
def tw1577934488418089932:=0
def tw15612794996507131275:=0
def tw17673484255617875665:=0
def tw4787067225347908991:=0
def tw3466120232563455087:=0
def tw9421022758473589550:=0
def tw17382346948352203844:=0
def tw12545234342874576058:=0
def tw15659028768769917847:=0
def tw1525417412524424701:=0
def tw7541495965117272284:=0
def tw14533264127168937870:=0
def tw8445735360562032079:=0
def tw1036150649557549992:=0
def tw13562293632511221409:=0
def tw7907031244567010661:=0
def tw13475747799688687819:=0
def tw12010695172201026059:=0
def tw517904701533143760:=0
def tw13729550505168507793:=0
def tw14503294905312254305:=0
def tw15059664773237236554:=0
def tw4366758550432931716:=0
def tw6846449742655948013:=0
def tw7118123421813312578:=0
def tw17504082358557830933:=0
def tw176072896621625367:=0
def tw10400549896143118636:=0
def tw10269918779675914334:=0
def tw6455553204422805970:=0
def tw7384556969755693779:=0
def tw7104329578866876121:=0
def tw11281765059006951817:=0
def tw14206847430812170000:=0
def tw10640141632664006380:=0
def tw730677321233063265:=0
def tw15789001083778931841:=0
def tw5718726908139431816:=0
def tw2387111039146210876:=0
def tw6169340581073023019:=0
def tw4258450021250268433:=0
def tw3846728885747233941:=0
def tw8851038163210924954:=0
def tw10410892271190436661:=0
def tw5795968164302607357:=0
def tw16194738157488796837:=0
def tw3593185215646276259:=0
def tw4746459891087100553:=0
def tw7482038037978640700:=0
def tw6831304579706604631:=0
def tw8522211261535445831:=0
def tw5805068503417536454:=0
def tw18280438529762745637:=0
def tw2719181049354067617:=0
def tw15207099948088139137:=0
def tw4547876325460012433:=0
def tw14325027574780321236:=0
def tw12752073474812037115:=0
def tw8413895892912092615:=0
def tw12073168173748292954:=0
def tw17993878556336526543:=0
def tw13246313161507103666:=0
def tw8854528797933829264:=0
def tw3993135700164162920:=0
def tw2759252504412498093:=0
def tw9461923740897763927:=0
def tw6386421825733569852:=0
def tw16771484603684887760:=0
def tw4505747876042814566:=0
def tw5831293585267186235:=0
def tw9725756792019408035:=0
def tw6669834947012006438:=0
def tw5699435887601449177:=0
def tw6915079774848105926:=0
def tw5199404343693281068:=0
def tw16278367492774889588:=0
def tw8481838210655335033:=0
def tw16421377153962675375:=0
def tw5609961776315485609:=0
def tw14675579897957692199:=0
def tw15848681430605233759:=0
def tw15478908101639518762:=0
def tw14309008473881558580:=0
def tw12090835203328621066:=0
def tw13632806743861313659:=0
def tw582037473891659468:=0
def tw244100801368378602:=0
def tw6164828233755250923:=0
def tw2765618392508584496:=0
def tw6677401652027775374:=0
def tw13107501920130959816:=0
def tw4854214112373782294:=0
def tw16246596211941906277:=0
def tw17905325079420016622:=0
def tw3366894741858209325:=0
def tw2080717794254044839:=0
def tw13108370002630976515:=0
def tw3322788620672775511:=0
def tw16461237747627775470:=0
def tw10942968851766948356:=0
def tw14249768218074271795:=0
def tw9294769145027270306:=0
def tw2324644771340480964:=0
def tw13996226984567592146:=0
def tw10826199917536715586:=0
def tw318167210266728336:=0
def tw8689669018757863626:=0
def tw176372469145683955:=0
def tw15597371557446190221:=0
def tw8162736713240718754:=0
def tw9307460606090749995:=0
def tw11860533892387252423:=0
def tw417949265190158294:=0
def tw9582063746248914449:=0
def tw4671765613136598552:=0
def tw4310162984016336260:=0
def tw18324839762523022872:=0
def tw15037028961639441767:=0
def tw2179552896577675451:=0
def tw13721567674288467826:=0
def tw12068392514321213782:=0
def tw269340076738322840:=0
def tw7000011452528703285:=0
def tw6870557153014164003:=0
def tw18291192748001001952:=0
def tw3835225425912470063:=0
def tw13325349232972153602:=0
def tw1484304395625004091:=0
def tw4071700340571668060:=0
def tw5633000266436679187:=0
def tw4971843278337042041:=0
def tw11203066267926958002:=0
def tw7763519327725216241:=0
def tw1864551261459972146:=0
def tw1971164841726116826:=0
def tw1114384916231189415:=0
def tw10906371056053529695:=0
def tw2858417096508523726:=0
def tw9307573761687981971:=0
def tw15560351950253977599:=0
def tw10778842361402499747:=0
def tw7823719638153964101:=0
def tw10739403820557126125:=0
def tw9301813014399636556:=0
def tw13225239850075534244:=0
def tw13886793839289905606:=0
def tw4897671183994574378:=0
def tw6511803803785119871:=0
def tw15502595012832741157:=0
def tw10551608979622366856:=0
def tw17582407958737816817:=0
def tw12368475178872061946:=0
def tw4364797494774557465:=0
def tw10177808566058203255:=0
def tw7276280957394850580:=0
def tw16973957214033141399:=0
def tw13881726092186580135:=0
def tw5609521131076680284:=0
def tw3035635905763285970:=0
def tw10156050051133964130:=0
def tw4482871379878548570:=0
def tw18091796188572323407:=0
def tw5073404858181450973:=0
def tw11962548919562611886:=0
def tw12077567389574154805:=0
def tw1897709588619068444:=0
def tw6618974498676056282:=0
def tw5397672873356658756:=0
def tw4493965507830495575:=0
def tw12786758525008561540:=0
def tw2604617895966236115:=0
def tw16732558201653691748:=0
def tw17684748084897753359:=0
def tw5469530606735459693:=0
def tw10527848165857643119:=0
def tw14527319677461918692:=0
def tw5746091527529747300:=0
def tw15795904996798581560:=0
def tw1571790869953741937:=0
end PySem.W.Fast
open PySem PySem.W PyProof.Rows
open OP in
set_option maxRecDepth 100000 in
set_option maxHeartbeats 0 in
theorem PySem.Challenge.cw_oneglance_k32_a_keeper_call_by_call_holds : PySem.Challenge.rw_oneglance_k32_a_keeper_call_by_call.Holds := by
 w_on; o_law; k_head; (case hw => w_witness2)
 k_fill
 refine OL.MP (l := PySem.Challenge.rw_oneglance_k32_a_keeper_call_by_call) 246 rfl rfl (fun w h Y => ⟨PySem.W.km_in_of Y, PySem.W.km_tabs_of Y 246 (by simp)⟩) (fun w => by kernel_rfl) (fun w => ⟨250, by kernel_rfl⟩) ?F;case F =>
  intro w mg fa h KX G hmg;refine' OL.IY KX G hmg ?ds ?cl_Attempt ?cl_Keeper ?zs ?cod
  (case ds => (repeat (refine' ⟨M9 ?a ?l ?c ?k, ?_⟩; (case a => k_is); (case l => k_is); (case c => k_is); (case k => k_is))); exact trivial)
  (case cl_Attempt => (refine' ⟨?a, ?b, ?c, ?d, ?e, ?f, ?g, ?n, ?m⟩; (case a => k_is); (case b => k_is); (case c => k_is); (case d => k_is); (case e => k_is); (case f => k_is); (case g => k_is); (case n => (repeat (refine' ⟨?a, ?_⟩; (case a => k_is))); exact trivial); (case m => (repeat (refine' ⟨LZ ?a ?i ?l ?c ?k, ?_⟩; (case a => k_is); (case i => k_is); (case l => k_is); (case c => k_is); (case k => k_is))); exact trivial)))
  (case cl_Keeper => (refine' ⟨?a, ?b, ?c, ?d, ?e, ?f, ?g, ?n, ?m⟩; (case a => k_is); (case b => k_is); (case c => k_is); (case d => k_is); (case e => k_is); (case f => k_is); (case g => k_is); (case n => (repeat (refine' ⟨?a, ?_⟩; (case a => k_is))); exact trivial); (case m => (repeat (refine' ⟨LZ ?a ?i ?l ?c ?k, ?_⟩; (case a => k_is); (case i => k_is); (case l => k_is); (case c => k_is); (case k => k_is))); exact trivial)))
  (case zs => (repeat (refine' ⟨?a, ?_⟩; (case a => k_is))); exact trivial)
  (case cod => exact ⟨_, _, _, by k_is, by k_is, rfl, rfl, by kernel_rfl⟩)
