import PyProof.Rows.All
import Wide.All
import OpenK.AllK
import Wide.FinOn
import Lean
import PyProof.EqAt
import PyProof.EqKinds
import PyProof.TupleCall
import PySem.Challenge.RW_oneglance_k25_what_is_a_tale
local macro_rules|`(tactic|trivial)=>`(tactic|exact Or.inl rfl)
local macro_rules|`(tactic|trivial)=>`(tactic|exact Or.inr rfl)
set_option maxHeartbeats 4000000
set_option Elab.async false
set_option linter.all false
set_option maxRecDepth 100000
noncomputable section
open Option renaming bind_eq_some_iff→Q0, bind_some→Q3, map_eq_some_iff→ZQ, getD_some→ZV
open PySem renaming wpAny_bind→Q2, Value→Q6, wpAny_pure→Q8, Shared→QQ, starEach→QR, sizeLine→QN, Expr→Qq, model→Qx, Program→Qu, World→Qm, bootBuiltins→Z7, Around→Z9, wpAny_field→ZJ, Stmt→ZR, wpAny_mono→ZG, backTo→ZD, swapsWith→Ze, FuncData→Zp, Scope→X2
open PySem.Heap renaming get?_push_of_some→Q4, get?_push_size→QV, lt_size→QK, size_push→ZI, get?_update_self→Zx
open PySem.W renaming Frag→Q5
open List renaming getElem?_eq_getElem→Q7, getElem?_eq_some_iff→Q9, length_map→QZ, getD_eq_getElem?_getD→QX, mem_cons_self→QY, mem_cons_of_mem→QU, append_assoc→QB, length_cons→QD, size_toArray→QM, mem_cons→QL, length_append→Qz, getElem?_append_left→Qv, map_cons→Qk, getElem?_append_right→Qw, replicate→Qr, mem_map→Qh, range→Qe, append_nil→Qd, getElem?_cons_succ→Qa, getElem?_map→Qn, getElem?_set_ne→Qp, mem_append_right→Qt, mem_range→Ql, map_map→Qs, all_eq_true→Z8, cons_append→ZZ, nil_append→ZX, getElem_mem→ZK, length_singleton→ZY, getElem?_cons_zero→ZU, mem_singleton→ZH, not_mem_nil→ZF, pairwise_map→ZC, length_take→ZP, getElem?_set→ZL, nodup_cons→ZS, mem_append→Zq, pairwise_iff_getElem→Zz, find?_cons→Zk, replicate_succ→Zy, map_congr_left→Zw, filterMap_cons→Zr, pairwise_cons→Zb, getElem?_toArray→Zh, mem_of_getElem?→Zf, length_range→Za, getElem?_of_mem→Zc, nodup_nil→Zm, getElem?_replicate→Zn, take_of_length_le→Zt, map_nil→Zl, map_append→Zi, any_cons→Zo, getElem?_eq_none→Zs, flatten_cons→X0, ext_getElem?→X1, nodup_iff_pairwise_ne→X3
open Nat renaming le_refl→QJ, ne_of_lt→Qj, lt_of_lt_of_le→Qy, le_trans→Qo, zero_le→ZN, lt_succ_of_lt→Zj, lt_or_ge→Zu
open Array renaming getElem?_eq_getElem→QH, length_toList→QF, getElem?_toList→Qb, getD_eq_getD_getElem?→ZT, getElem?_eq_some_iff→Zg, getD→X4
open Bool renaming false_ne_true→QC, false_and→Qg, false_eq_true→Qc, true_and→Qi, and_eq_true→Z0, eq_iff_iff→ZE, and_false→ZO
open Int renaming toNat_natCast→Zv
namespace L2
open PySem PySem.Spec PyProof.Rows
abbrev Key:=Sum Int Str
def oA:Key->Q6->Bool
 |.inl k,v=>Value.isInt k v
 |.inr x,v=>Value.isStrOf x v
def KA(w:Qm):Key->Int
 |.inl k=>hashInt k
 |.inr x=>hashStr w x
theorem bB:∀{k:Key} {v:Q6},oA k v=true->(∃i t,k=Sum.inl i/\v=Value.int i t)\/(∃x t,k=Sum.inr x/\v=Value.str x t)
 |.inl i,v,h=>by
  obtain⟨t,e⟩:=Value.isInt_shape (k:=i) (v:=v) h;exact .inl ⟨i,t,rfl,e⟩
 |.inr x,v,h=>by
  obtain⟨t,e⟩:=Value.isStrOf_shape (x:=x) (v:=v) h;exact .inr ⟨x,t,rfl,e⟩
theorem we(i:Int)(t:Tok):oA (.inl i) (.int i t)=true:=by simp[oA,Value.isInt]
theorem wd(x:Str)(t:Tok):oA (.inr x) (.str x t)=true:=by simp[oA,Value.isStrOf]
theorem FG(a b:Int):decide ((Sum.inl a:Key)=Sum.inl b)=(a == b):=by
 by_cases e:a=b
 ·subst e;simp
 ·have h:¬(Sum.inl a:Key)=Sum.inl b:=fun q=>e (Sum.inl.inj q);rw[decide_eq_false h];exact(beq_eq_false_iff_ne.mpr e).symm
theorem FD(a b:Str):decide ((Sum.inr a:Key)=Sum.inr b)=decide (a=b):=by
 by_cases e:a=b
 ·subst e;simp
 ·have h:¬(Sum.inr a:Key)=Sum.inr b:=fun q=>e (Sum.inr.inj q);rw[decide_eq_false h,decide_eq_false e]
theorem FF(a:Int)(b:Str):decide ((Sum.inl a:Key)=Sum.inr b)=false:=decide_eq_false (fun q=>nomatch q)
theorem FE(a:Str)(b:Int):decide ((Sum.inr a:Key)=Sum.inl b)=false:=decide_eq_false (fun q=>nomatch q)
def bA(prog:Qu)(w:Qm):PySem.KeyKind prog w Key where
 is:=oA
 hash:=KA w
 inj:=fun v a b ha hb=>by
  rcases bB ha with⟨i,t,rfl,rfl⟩|⟨x,t,rfl,rfl⟩
  ·rcases bB hb with⟨j,u,rfl,e⟩|⟨y,u,rfl,e⟩
   ·injection e with e1 _;rw[e1]
   ·exact nomatch e
  ·rcases bB hb with⟨j,u,rfl,e⟩|⟨y,u,rfl,e⟩
   ·exact nomatch e
   ·injection e with e1 _;rw[e1]
 byValue:=fun k v h=>by
  rcases bB h with⟨i,t,rfl,rfl⟩|⟨x,t,rfl,rfl⟩<;>rfl
 pyHash:=fun hv h=>by
  rcases bB hv with⟨i,t,rfl,rfl⟩|⟨x,t,rfl,rfl⟩
  ·exact wpAny_pyHash_int h
  ·exact wpAny_pyHash_str h
 eqBool:=fun hu hv h=>by
  rcases bB hu with⟨i,t,rfl,rfl⟩|⟨x,t,rfl,rfl⟩
  ·rcases bB hv with⟨j,u,rfl,rfl⟩|⟨y,u,rfl,rfl⟩
   ·rw[FG]at h;exact wpAny_eqBool_int h
   ·rw[FF]at h;exact SeqAt.EqAt.int_str i t y u _ _ _ _ h
  ·rcases bB hv with⟨j,u,rfl,rfl⟩|⟨y,u,rfl,rfl⟩
   ·rw[FE]at h;exact SeqAt.EqAt.str_int x t j u _ _ _ _ h
   ·rw[FD]at h;exact wpAny_eqBool_str h
 «strs»:=fun k x t v h=>by
  rcases bB h with⟨i,u,rfl,e⟩|⟨y,u,rfl,e⟩
  ·exact nomatch e
  ·injection e with e1 _;subst e1;cases v<;>rfl
theorem pO(prog:Qu)(w:Qm)(i:Int)(t:Tok):(bA prog w).is (.inl i) (.int i t)=true:=we i t
theorem pN(prog:Qu)(w:Qm)(x:Str)(t:Tok):(bA prog w).is (.inr x) (.str x t)=true:=wd x t
inductive V where
 |non|bl (b:Bool)|int (i:Int)|str (x:Str)|byt (b:Array UInt8)|flt (b:UInt64)|ref (a:Addr)|ty (n:String)
 deriving DecidableEq
def bX:V->Q6->Prop
 |.non,u=>u=Value.none
 |.bl b,u=>u=Value.bool b
 |.int i,u=>∃t,u=Value.int i t
 |.str x,u=>∃t,u=Value.str x t
 |.byt b,u=>∃t,u=Value.bytes b t
 |.flt b,u=>∃t,u=Value.float b t
 |.ref a,u=>u=Value.ref a
 |.ty n,u=>u=Value.type n
abbrev bh:List V->List Q6->Prop:=Paired bX
theorem bh.length{xs:List V}{us:List Q6}(r:bh xs us):xs.length=us.length:=Paired.length r
theorem bh.get:∀{xs:List V} {us:List Q6} {i:Nat} {x:V},bh xs us->xs[i]?=some x->∃u,us[i]?=some u/\bX x u
 |_,_,_,_,.nil,e=>by simp at e
 |_,_,0,_,.cons r _,e=>by simp at e;subst e;exact⟨_,rfl,r⟩
 |_,_,i+1,x,.cons _ t,e=>by
  obtain⟨u,h1,h2⟩:=bh.get (i:=i) (x:=x) t (by simpa using e);exact⟨u,by simpa using h1,h2⟩
theorem bh.set{x:V}{u:Q6}(r:bX x u):∀{xs:List V} {us:List Q6} (i:Nat),bh xs us->bh (xs.set i x) (us.set i u)
 |_,_,_,.nil=>.nil
 |_,_,0,.cons _ t=>.cons r t
 |_,_,i+1,.cons q t=>.cons q (bh.set r i t)
theorem bh.append:∀{xs ys:List V} {us ws:List Q6},bh xs us->bh ys ws->bh (xs++ys) (us++ws)
 |_,_,_,_,.nil,s=>s
 |_,_,_,_,.cons r t,s=>.cons r (bh.append t s)
theorem bh.take:∀{xs:List V} {us:List Q6} (n:Nat),bh xs us->bh (xs.take n) (us.take n)
 |_,_,0,_=>.nil
 |_,_,_+1,.nil=>.nil
 |_,_,n+1,.cons r t=>.cons r (bh.take n t)
theorem bh.drop:∀{xs:List V} {us:List Q6} (n:Nat),bh xs us->bh (xs.drop n) (us.drop n)
 |_,_,0,r=>r
 |_,_,_+1,.nil=>.nil
 |_,_,n+1,.cons _ t=>bh.drop n t
def tR:Option V->Option Q6->Prop
 |some v,some u=>bX v u
 |none,none=>True
 |_,_=>False
def KV{κ:Type}:List (κ×V)->List (κ×Q6)->Prop:=Paired fun(p:κ×V) (q:κ×Q6)=>p.1=q.1/\bX p.2 q.2
def kV:Key->V
 |.inl i=>.int i
 |.inr x=>.str x
inductive HO where
 |lst (xs:List V)
 |tup (xs:List V)
 |dK (kvs:List (Key×V))|dT (kvs:List (List Key×V))
 |set (S:Int->Bool) (n:Nat)
 |ins (C dx:Addr) (fs:List (Str×V))
 |own (x:Addr)
 |xd (fs:List (Str×V))
 |met (f x:Addr)
 |rng (lo hi:Int)
 |frz (o:Obj) (u:HO)
 |tbl (ps:Array Q6)
 |ext (φ:Heap->Prop)
abbrev Hp:=Addr->Option HO
def upd(H:Hp)(a:Addr)(o:HO):Hp:=fun b=>if b=a then some o else H b
theorem aP{H:Hp}{a:Addr}{o:HO}:upd H a o a=some o:=by unfold upd;rw[if_pos rfl]
theorem bc{H:Hp}{a b:Addr}{o:HO}(h:b≠a):upd H a o b=H b:=by unfold upd;rw[if_neg h]
theorem IK{H:Hp}{a b:Addr}{o u:HO}(h:H a=some o)(h':H b=some u)(d:o≠u):a≠b:=by
 intro e;subst e;rw[h]at h';exact d (Option.some.inj h')
theorem cu{H:Hp}{a b:Addr}{o:HO}(h:H a=some o)(h':H b=none):a≠b:=by
 intro e;subst e;rw[h]at h';cases h'
def xP(h:Heap)(a:Addr)(items:Array Q6):Prop:=∃o,h.get? a=some o/\(o.cls=.type "tuple"/\o.dict=none)/\∃n,o.data=.seq items n
theorem xP.tup{h:Heap}{a:Addr}{items:Array Q6}(x:xP h a items):IsTup h a items:=let ⟨o,g,c,d⟩:=x;⟨o,g,c.1,d⟩
theorem xP.new(h:Heap)(items:Array Q6):xP (h.push { cls:=.type "tuple",data:=.seq items }) h.objs.size items:=⟨_,QV _ rfl,⟨rfl,rfl⟩,_,rfl⟩
section
variable(P:Qu)(w:Qm)
def bR(H:Hp)(h:Heap)(a:Addr):HO->Prop
 |.lst xs=>xs.length<=QN/\∃(its:List Q6) (n:Nat),bh xs its/\h.get? a=some { cls:=.type "list",data:=.seq its.toArray n }
 |.tup xs=>xs.length<=QN/\∃its:List Q6,bh xs its/\xP h a its.toArray
 |.dK kvs=>kvs.length<=QN/\(a == sysModules)=false/\∃vs,KV kvs vs/\h.DictOf (bA P w) a vs
 | .dT kvs=>kvs.length<=QN/\(a == sysModules)=false/\∃xs:List (List Key×Addr×Q6),
   Paired (fun(p:List Key×V) (q:List Key×Addr×Q6)=>p.1=q.1/\H q.2.1=some (.tup (p.1.map kV))/\bX p.2 q.2.2) kvs xs/\
   ∃o es ep,h.get? a=some o/\o.ExactDict/\o.data=.dict es ep/\es.toList=xs.map (entryOfKey (tupleKind (bA P w)))/\(xs.map (·.1)).Nodup
 |.set S n=>h.SetOf (intKind P w) a S n
 | .ins C dx fs=>H dx=some (.own a)/\fs.length<=1000/\dx≠a/\h.get? a=some (PySem.W.instObj C dx)/\
   ∃mA,h.Ns1 dx mA/\(∀f,tR (fs.lookup f) (mA f))/\PySem.Within mA (fs.map (·.1))
 |.own _=>∃o,h.get? a=some o
 |.xd fs=>∃mA,h.Ns1 a mA/\∀f,tR (fs.lookup f) (mA f)
 |.rng lo hi=>∃t u v,h.get? a=some { cls:=.type "range",data:=.fields #[.int lo t,.int hi u,.int 1 v] }
 |.frz o u=>h.get? a=some o/\bR H h a u
 |.tbl ps=>h.get? a=some { cls:=.none,data:=.fields ps }
 |.met f x=>h.get? a=some (PySem.W.methodObj (.ref f) (.ref x))
 |.ext φ=>φ h/\(∃o,h.get? a=some o)/\∀h1 h2:Heap,φ h1->(∀o,h1.get? a=some o->h2.get? a=some o)->φ h2
def HOk(H:Hp)(h:Heap):Prop:=∀a o,H a=some o->bR P w H h a o
end
section
variable{P:Qu}{w:Qm}{H H':Hp}{h h':Heap}{a:Addr}{o:HO}
theorem bR.lt(x:bR P w H h a o):a<h.objs.size:=by
 cases o with
 |lst xs=>obtain⟨_,_,_,_,e⟩:=x;exact QK e
 |tup xs=>obtain⟨_,_,_,p⟩:=x;exact p.tup.lt
 |dK kvs=>obtain⟨_,_,_,_,o,_,_,e,_⟩:=x;exact QK e
 |dT kvs=>obtain⟨_,_,_,_,o,_,_,e,_⟩:=x;exact QK e
 |set S n=>obtain⟨o,_,_,_,e,_⟩:=x;exact QK e
 |ins C dx fs=>obtain⟨_,_,_,e,_⟩:=x;exact QK e
 |own y=>obtain⟨_,e⟩:=x;exact QK e
 |xd fs=>obtain⟨_,⟨_,_,_,e,_⟩,_⟩:=x;exact QK e
 |rng lo hi=>obtain⟨_,_,_,e⟩:=x;exact QK e
 |frz ob u=>obtain⟨e,_⟩:=x;exact QK e
 |tbl ps=>exact QK (show h.get? a=some _ from x)
 |met f y=>exact QK (show h.get? a=some _ from x)
 |ext φ=>obtain⟨_,⟨_,e⟩,_⟩:=x;exact QK e
theorem Paired.mapP{α β:Type}{F G:α->β->Prop}:∀{l₁:List α} {l₂:List β},Paired F l₁ l₂->(∀a b,F a b->G a b)->Paired G l₁ l₂
 |_,_,.nil,_=>.nil
 |_,_,.cons r t,f=>.cons (f _ _ r) (Paired.mapP t f)
theorem bR.stay(x:bR P w H h a o)(k:∀b u,(b=a\/H b=some (.own a))->h.get? b=some u->h'.get? b=some u)
  (ho:∀b,H b=some (.own a)->H' b=some (.own a)) (ht:∀b xs,H b=some (.tup xs)->H' b=some (.tup xs)):bR P w H' h' a o:=by
 induction o with
 |lst xs=>obtain⟨z,its,n,r,e⟩:=x;exact⟨z,its,n,r,k _ _ (.inl rfl) e⟩
 |tup xs=>obtain⟨z,its,r,ob,e,c⟩:=x;exact⟨z,its,r,ob,k _ _ (.inl rfl) e,c⟩
 |dK kvs=>obtain⟨z,y,vs,r,ob,es,ep,e,c⟩:=x;exact⟨z,y,vs,r,ob,es,ep,k _ _ (.inl rfl) e,c⟩
 |dT kvs=>
  obtain⟨z,y,xs,r,ob,es,ep,e,c⟩:=x;exact⟨z,y,xs,Paired.mapP r fun p q z=>⟨z.1,ht _ _ z.2.1,z.2.2⟩,ob,es,ep,k _ _ (.inl rfl) e,c⟩
 |set S n=>obtain⟨ob,es,ep,t,e,c⟩:=x;exact⟨ob,es,ep,t,k _ _ (.inl rfl) e,c⟩
 |ins C dx fs=>
  obtain⟨d,z,ne,e,mA,⟨od,es,ep,e2,c⟩,r⟩:=x;exact⟨ho _ d,z,ne,k _ _ (.inl rfl) e,mA,⟨od,es,ep,k _ _ (.inr d) e2,c⟩,r⟩
 |own y=>obtain⟨ob,e⟩:=x;exact⟨ob,k _ _ (.inl rfl) e⟩
 |xd fs=>obtain⟨mA,⟨od,es,ep,e,c⟩,r⟩:=x;exact⟨mA,⟨od,es,ep,k _ _ (.inl rfl) e,c⟩,r⟩
 |rng lo hi=>obtain⟨t,u,v,e⟩:=x;exact⟨t,u,v,k _ _ (.inl rfl) e⟩
 |frz ob u ih=>obtain⟨e,q⟩:=x;exact⟨k _ _ (.inl rfl) e,ih q⟩
 |tbl ps=>
  have e:h.get? a=some { cls:=.none,data:=.fields ps }:=x;show h'.get? a=some { cls:=.none,data:=.fields ps };exact k a _ (.inl rfl) e
 |met f y=>
  have e:h.get? a=some (PySem.W.methodObj (.ref f) (.ref y)):=x;show h'.get? a=some (PySem.W.methodObj (.ref f) (.ref y));exact k a _ (.inl rfl) e
 |ext φ=>obtain⟨p,⟨o,e⟩,st⟩:=x;exact⟨st _ _ p fun o q=>k _ _ (.inl rfl) q,⟨o,k _ _ (.inl rfl) e⟩,st⟩
theorem HOk.lt(x:HOk P w H h)(e:H a=some o):a<h.objs.size:=(x a o e).lt
theorem HOk.fresh(x:HOk P w H h)(e:h.objs.size<=a):H a=none:=by
 cases q:H a with
 |none=>rfl
 |some u=>exact absurd (Qy (x.lt q) e) (Nat.lt_irrefl _)
theorem HOk.kept(x:HOk P w H h)(k:∀b u,h.get? b=some u->h'.get? b=some u):HOk P w H h':=fun a o e=>
 (x a o e).stay (fun b u _ q=>k b u q) (fun _ q=>q) fun _ _ q=>q
theorem HOk.laid(x:HOk P w H h)(k:∀b u,h.get? b=some u->h'.get? b=some u)(hp:h.objs.size<=a)(new:bR P w (upd H a o) h' a o):HOk P w (upd H a o) h':=fun b u e=>by
 have hn:=x.fresh hp;by_cases hb:b=a
 ·subst hb;rw[aP]at e;cases e;exact new
 ·rw[bc hb]at e;exact(x b u e).stay (fun c v _ q=>k c v q) (fun c q=>by rw[bc (cu q hn)];exact q) fun c xs q=>by rw[bc (cu q hn)];exact q
end
def Rd(H:Hp)(a:Addr)(u:HO):Prop:=H a=some u\/∃o,H a=some (.frz o u)
theorem Rd.ok{P:Qu}{w:Qm}{H:Hp}{h:Heap}{a:Addr}{u:HO}(r:Rd H a u)(x:HOk P w H h):bR P w H h a u:=by
 rcases r with r|⟨o,r⟩
 ·exact x a u r
 ·obtain⟨_,q⟩:=x a _ r;exact q
def Mut:Option HO->Prop
 |some (.lst _)=>True
 |some (.dK _)=>True
 |some (.dT _)=>True
 |some (.set _ _)=>True
 |some (.ins _ _ _)=>True
 |some (.ext _)=>True
 |_=>False
section
variable{P:Qu}{w:Qm}{H:Hp}{h h':Heap}{x e:Addr}{o':HO}
theorem HOk.write(ok:HOk P w H h)(mu:Mut (H x))(he:e=x\/H e=some (.own x))(k:∀b u,b≠e->h.get? b=some u->h'.get? b=some u)(heo:∃u,h'.get? e=some u)
  (new:bR P w (upd H x o') h' x o'):HOk P w (upd H x o') h':=fun b u q=>by
 have nown:∀c y,H c=some (.own y)->c≠x:=fun c y r z=>by subst z;rw[r]at mu;exact mu
 have ntup:∀c xs,H c=some (.tup xs)->c≠x:=fun c xs r z=>by subst z;rw[r]at mu;exact mu
 by_cases hb:b=x
 ·subst hb;rw[aP]at q;cases q;exact new
 ·rw[bc hb]at q;by_cases hbe:b=e
  ·have q':H b=some (.own x):=by
    rcases he with z|z
    ·exact absurd (hbe.trans z) hb
    ·rw[hbe];exact z
   rw[q]at q';cases q';obtain⟨v,hv⟩:=heo;exact⟨v,by rw[hbe];exact hv⟩
  ·refine(ok b u q).stay (fun c v hc r=>k c v ?_ r) (fun c r=>by rw[bc (nown c b r)];exact r) fun c xs r=>by rw[bc (ntup c xs r)];exact r
   rcases hc with rfl|hc
   ·exact hbe
   ·rintro rfl;rcases he with z|z
    ·exact nown c b hc z
    ·rw[hc]at z;cases z;exact hb rfl
end
structure Un(fs ex:List Addr)(H H':Hp)(h h':Heap):Prop where
 keep:∀b o,h.get? b=some o->H b=none->b∉fs->b∉ex->h'.get? b=some o
 slot:∀b o,h.get? b=some o->H b=none->b∈fs->b∉ex->∃sl,h'.get? b=some { o with slots:=sl }
 free:∀b o,h.get? b=some o->H b=none->b∉ex->H' b=none
 there:∀b o,h.get? b=some o->b∉ex->∃o',h'.get? b=some o'
 tups:∀b xs,H b=some (.tup xs)->H' b=some (.tup xs)
 frzs:∀b o u,H b=some (.frz o u)->H' b=some (.frz o u)
 tbls:∀b ps,H b=some (.tbl ps)->∃more,H' b=some (.tbl (ps++more))
section
variable{fs ex:List Addr}{H H1:Hp}{h h1 h':Heap}{a x e:Addr}{o:HO}
theorem Un.any(u:Un fs ex H H1 h h1){b:Addr}{ob:Obj}(q:h.get? b=some ob)(n:H b=none)(hx:b∉ex):∃sl,h1.get? b=some { ob with slots:=sl }:=by
 by_cases hb:b∈fs
 ·exact u.slot b ob q n hb hx
 ·exact⟨ob.slots,u.keep b ob q n hb hx⟩
theorem Un.kept(k:∀b u,h.get? b=some u->h'.get? b=some u):Un fs ex H H h h':=
 ⟨fun b ob q _ _ _=>k b ob q,fun b ob q _ _ _=>⟨ob.slots,k b ob q⟩,fun _ _ _ n _=>n,fun b ob q _=>⟨ob,k b ob q⟩,fun _ _ q=>q,fun _ _ _ q=>q,fun _ ps q=>⟨#[],by rw[q];simp⟩⟩
theorem Un.refl:Un fs ex H H h h:=Un.kept fun _ _ q=>q
theorem Un.laid(k:∀b u,h.get? b=some u->h'.get? b=some u)(hp:h.objs.size<=a)(hn:H a=none):Un fs ex H (upd H a o) h h' where
 keep:=fun b u q _ _ _=>k b u q
 slot:=fun b u q _ _ _=>⟨u.slots,k b u q⟩
 free:=fun b u q n _=>by rw[bc (Qj (Qy (QK q) hp))];exact n
 there:=fun b u q _=>⟨u,k b u q⟩
 tups:=fun b xs q=>by rw[bc (cu q hn)];exact q
 frzs:=fun b u xs q=>by rw[bc (cu q hn)];exact q
 tbls:=fun b ps q=>⟨#[],by rw[bc (cu q hn),q];simp⟩
theorem Un.write(mu:Mut (H x))(he:e=x\/H e=some (.own x))(k:∀b u,b≠e->h.get? b=some u->h'.get? b=some u)(heo:∃u,h'.get? e=some u):Un fs ex H (upd H x o) h h':=by
 have hx:∀b,H b=none->b≠x:=fun b n z=>by subst z;rw[n]at mu;exact mu
 have hb:∀b,H b=none->b≠e:=fun b n z=>by
  subst z;rcases he with r|r
  ·exact hx b n r
  ·rw[n]at r;cases r
 have hm:∀b u,H b=some u->¬Mut (some u)->b≠x:=fun b u q nm z=>by subst z;rw[q]at mu;exact nm mu
 refine⟨fun b u q n _ _=>k b u (hb b n) q,fun b u q n _ _=>⟨u.slots,k b u (hb b n) q⟩,fun b u q n _=>by rw[bc (hx b n)];exact n,fun b u q _=>?_,
  fun b xs q=>by rw[bc (hm b _ q fun z=>z)];exact q,fun b u xs q=>by rw[bc (hm b _ q fun z=>z)];exact q,fun b ps q=>⟨#[],by rw[bc (hm b _ q fun z=>z),q];simp⟩⟩
 by_cases hbe:b=e
 ·subst hbe;exact heo
 ·exact⟨u,k b u hbe q⟩
end
def trk(h:Heap)(H:Hp):List Addr:=(Qe h.objs.size).filter fun a=>(H a).isSome
def zy(h:Heap)(H:Hp):Heap:=PySem.W.hideAll h (trk h H)
theorem wz(h:Heap)(H:Hp):(zy h H).objs.size=h.objs.size:=PySem.W.hideAll_size _ _
theorem zx{h:Heap}{H:Hp}{b:Addr}{o:Obj}(e:h.get? b=some o)(n:H b=none):(zy h H).get? b=some o:=
 PySem.W.hideAll_get _ e fun hm=>by
  have q:(H b).isSome=true:=(List.mem_filter.mp hm).2;rw[n]at q;simp at q
theorem Ct{h:Heap}{H:Hp}{b:Addr}{o:Obj}(e:(zy h H).get? b=some o):h.get? b=some o/\H b=none:=by
 have e':h.get? b=some o:=PySem.W.of_hideAll (trk h H) e;refine⟨e',?_⟩;cases q:H b with
 |none=>rfl
 |some x=>
  have hm:b∈trk h H:=List.mem_filter.mpr ⟨Ql.mpr (QK e'),by simp[q]⟩;have z:(zy h H).get? b=none:=PySem.W.hideAll_none (trk h H) hm;rw[z]at e;cases e
structure Mod(K:Q5)(mg:Str->Option Q6)(base:Heap):Prop where
 kin:K.In base
 glob:base.Ns mainGlobals mg
 blt:∃mb,base.Ns builtinsNs mb/\∀x:Str,x≠"__name__"->mb x=Z7 x
 nolimit:base.NoLimit
structure Cx where
 prog:Qu
 w:Qm
 K:Q5
 mg:Str->Option Q6
 base:Heap
 A:Z9
 N:List Str
 s₀:QQ
 H₀:Hp
 env:Env
 outer:List Env
 stack:List Env
 ex:List Addr
 fn:Str->Bool
 calm:Bool
 pn:List (Addr×Obj)
 xe:Q6->QQ->Prop
def frs(l:List Env):List Addr:=l.filterMap (·.frame)
abbrev Cx.fs(X:Cx):List Addr:=frs X.outer
def Vis(sc:X2)(x:Str):Prop:=sc.names.lookup x=some .local\/sc.names.lookup x=some .cell\/sc.names.lookup x=some .free
def Loc(sc:X2)(x:Str):Prop:=sc.names.lookup x=some .local\/sc.names.lookup x=some .cell
def KP(env:Env)(h:Heap)(m:Str->Option Q6)(x:Str)(u:Q6):Prop:=
 (env.kindOf x=some .local/\m x=some u)\/((env.kindOf x=some .cell\/env.kindOf x=some .free)/\∃c,env.cells.lookup x=some c/\h.IsCell c (some u))
structure Cx.Ok(X:Cx):Prop where
 mod:Mod X.K X.mg X.base
 kind:X.env.scope.kind=.function
 glob:X.env.globals=mainGlobals
 blt:X.env.builtins=builtinsNs
 above:X.s₀.heap.objs.size<=X.env.locals
 inj:∀x y c,X.env.cells.lookup x=some c->X.env.cells.lookup y=some c->x=y
 has:∀x,(X.env.kindOf x=some .cell\/X.env.kindOf x=some .free)->∃c,X.env.cells.lookup x=some c
 cab:∀x c,X.fn x=true->X.env.cells.lookup x=some c->X.s₀.heap.objs.size<=c
 hd:X.calm=true->X.A.handled=none
 frames:X.A.frames=some X.stack
 stk:X.stack=X.outer\/(X.stack=X.env::X.outer/\X.env.frame=some X.env.locals)
 exf:∀b∈X.ex,b≠X.env.locals/\∀x c,X.env.cells.lookup x=some c->c≠b
 bs:∀b o,X.base.get? b=some o->X.s₀.heap.get? b=some o/\X.H₀ b=none
 bsz:X.base.objs.size<=X.s₀.heap.objs.size
 noex:∀b o,X.base.get? b=some o->b∉X.ex
 exfs:∀b∈X.ex,b∉X.fs
 funs:X.s₀.heap.FunFrames X.base X.outer
 frf:∀b∈X.fs,X.H₀ b=none
structure Inv(X:Cx)(pins:List (Addr×Obj))(σ:List (Option V))(H:Hp)(s:QQ):Prop where
 ok:X.Ok
 os:s.os=X.s₀.os
 bare:AllBare s.gens
 base:Un X.fs X.ex X.H₀ H X.s₀.heap s.heap
 loc:∃m,s.heap.Ns X.env.locals m/\∀(i:Nat) (x:Str) (v:V),X.N[i]?=some x->σ[i]?=some (some v)->Vis X.env.scope x->∃u,bX v u/\KP X.env s.heap m x u
 cell:∀x c,X.env.cells.lookup x=some c->∃v,s.heap.IsCell c v
 free:H X.env.locals=none
 freeC:∀x c,X.env.cells.lookup x=some c->H c=none
 pin:∀p∈X.pn++pins,s.heap.get? p.1=some p.2/\H p.1=none/\p.1≠X.env.locals/\p.1∉X.fs/\∀v,p.2.data≠.cell v
 hok:HOk X.prog X.w H s.heap
 len:σ.length=X.N.length
section
variable{X:Cx}{pins:List (Addr×Obj)}{σ:List (Option V)}{H H':Hp}{s:QQ}{h':Heap}
theorem Cx.Ok.nofr(ok:X.Ok){b:Addr}{o:Obj}(e:X.base.get? b=some o):b∉X.fs:=fun hb=>by
 have:=(ok.funs.mem hb).1;rw[e]at this;cases this
theorem Inv.bs(I:Inv X pins σ H s):∀b o,X.base.get? b=some o->s.heap.get? b=some o/\H b=none:=fun b o e=>
 ⟨I.base.keep b o (I.ok.bs b o e).1 (I.ok.bs b o e).2 (I.ok.nofr e) (I.ok.noex b o e),I.base.free b o (I.ok.bs b o e).1 (I.ok.bs b o e).2 (I.ok.noex b o e)⟩
theorem Inv.bk(I:Inv X pins σ H s):∀b o,X.base.get? b=some o->s.heap.get? b=some o:=fun b o e=>(I.bs b o e).1
theorem Inv.mod(I:Inv X pins σ H s):Mod X.K X.mg X.base:=I.ok.mod
theorem Inv.kIn(I:Inv X pins σ H s):X.K.In s.heap:=I.ok.mod.kin.keeps I.bk
theorem Inv.lt(I:Inv X pins σ H s):X.env.locals<s.heap.objs.size:=let ⟨_,hn,_⟩:=I.loc;hn.lt
theorem Inv.sz(I:Inv X pins σ H s):X.s₀.heap.objs.size<=s.heap.objs.size:=Qo I.ok.above (Nat.le_of_lt I.lt)
theorem Inv.nofs(I:Inv X pins σ H s){a:Addr}(h:s.heap.objs.size<=a):a∉X.fs:=fun hb=>by
 obtain⟨_,o,ho,_⟩:=I.ok.funs.mem hb;exact absurd (Qy (QK ho) (Qo I.sz h)) (Nat.lt_irrefl _)
theorem Inv.cne(I:Inv X pins σ H s):∀x c,X.env.cells.lookup x=some c->c≠X.env.locals:=fun x c e z=>by
 obtain⟨v,o,ho,hd⟩:=I.cell x c e;obtain⟨m,⟨o',es,ep,ho',hd',_⟩,_⟩:=I.loc;rw[z,ho']at ho;cases ho;rw[hd']at hd;cases hd
theorem Inv.funs(I:Inv X pins σ H s):s.heap.FunFrames X.base X.outer:=by
 have all:∀(l:List Env),(∀b∈frs l,b∈X.fs)->X.s₀.heap.FunFrames X.base l->s.heap.FunFrames X.base l:=by
  intro l;induction l with
  |nil=>intro _ _;trivial
  |cons env r ih=>
   intro hs hl;obtain⟨hk,⟨L,o,hf,hn,ho,hd⟩,hr⟩:=hl;have hL:L∈X.fs:=hs L (by unfold frs;rw[Zr,hf];exact QY);obtain⟨sl,e⟩:=I.base.slot L o ho (I.ok.frf L hL) hL fun z=>I.ok.exfs L z hL;exact⟨hk,⟨L,_,hf,hn,e,hd⟩,ih (fun b hb=>hs b (by unfold frs;rw[Zr,hf];exact QU _ hb)) hr⟩
 exact all X.outer (fun _ hb=>hb) I.ok.funs
theorem Inv.stack(I:Inv X pins σ H s):s.heap.FunFrames X.base X.stack:=by
 rcases I.ok.stk with e|⟨e,hf⟩
 ·rw[e];exact I.funs
 ·rw[e];obtain⟨m,hn,_⟩:=I.loc;refine .cons (by rw[I.ok.kind];decide) hf hn ?_ I.funs;exact Heap.get?_none_of_le (Qo I.ok.bsz I.ok.above)
theorem Inv.stkSub(I:Inv X pins σ H s):∀b∈frs X.stack,b∈X.env.locals::X.fs:=fun b hb=>by
 rcases I.ok.stk with e|⟨e,hf⟩
 ·rw[e]at hb;exact QU _ hb
 ·rw[e]at hb;unfold frs at hb;rw[Zr,hf]at hb;exact hb
theorem Inv.stkFree(I:Inv X pins σ H s):∀b∈frs X.stack,H b=none:=fun b hb=>by
 rcases QL.mp (I.stkSub b hb)with e|hb
 ·rw[e];exact I.free
 ·obtain⟨_,o,ho,_⟩:=I.ok.funs.mem hb;exact I.base.free b o ho (I.ok.frf b hb) fun z=>I.ok.exfs b z hb
theorem Inv.step{g':Array GenState}{t':Nat}{d':Drawn}{ch:List Addr}(I:Inv X pins σ H s)
  (hch:∀b∈ch,(b∈X.ex\/X.s₀.heap.objs.size<=b)/\b≠X.env.locals/\(∀x c,X.env.cells.lookup x=some c->c≠b)/\∀p∈X.pn++pins,p.1≠b)
  (keep:∀b o,b≠X.env.locals->b∉X.fs->b∉ch->s.heap.get? b=some o->H b=none->h'.get? b=some o)
  (slot:∀b o,b≠X.env.locals->b∈X.fs->b∉ch->s.heap.get? b=some o->H b=none->∃sl,h'.get? b=some { o with slots:=sl }) (free:∀b o,b∉ch->s.heap.get? b=some o->H b=none->H' b=none)
  (there:∀b o,b∉ch->s.heap.get? b=some o->∃o',h'.get? b=some o')
  (tups:∀b xs,H b=some (.tup xs)->H' b=some (.tup xs)) (frzs:∀b o u,H b=some (.frz o u)->H' b=some (.frz o u)) (tbls:∀b ps,H b=some (.tbl ps)->∃more,H' b=some (.tbl (ps++more)))
  (ns:∀m,s.heap.Ns X.env.locals m->h'.Ns X.env.locals m) (hok:HOk X.prog X.w H' h') (hg:AllBare g') :
  Inv X pins σ H' { s with heap:=h',gens:=g',drawn:=d',toks:=t' }:=by
 have neL:∀b o,X.s₀.heap.get? b=some o->b≠X.env.locals:=fun b o e=>Qj (Qy (QK e) I.ok.above);have neC:∀b o,X.s₀.heap.get? b=some o->b∉X.ex->b∉ch:=fun b o e hx hb=>by
  rcases(hch b hb).1 with z|z
  ·exact hx z
  ·exact absurd (Qy (QK e) z) (Nat.lt_irrefl _)
 have cellK:∀x c,X.env.cells.lookup x=some c->∀v,s.heap.IsCell c v->h'.IsCell c v:=fun x c e v ⟨o,ho,hd⟩=>by
  have nch:c∉ch:=fun z=>(hch c z).2.2.1 x c e rfl;by_cases hc:c∈X.fs
  ·obtain⟨sl,q⟩:=slot c o (I.cne x c e) hc nch ho (I.freeC x c e);exact⟨_,q,hd⟩
  ·exact⟨o,keep c o (I.cne x c e) hc nch ho (I.freeC x c e),hd⟩
 refine⟨I.ok,I.os,hg,⟨fun b o e n hb hx=>?_,fun b o e n hb hx=>?_,fun b o e n hx=>?_,fun b o e hx=>?_,fun b xs e=>tups b xs (I.base.tups b xs e),fun b o xs e=>frzs b o xs (I.base.frzs b o xs e),fun b ps e=>?_⟩,?_,fun x c e=>?_,?_,fun x c e=>?_,fun p hp=>?_,hok,I.len⟩
 ·exact keep b o (neL b o e) hb (neC b o e hx) (I.base.keep b o e n hb hx) (I.base.free b o e n hx)
 ·obtain⟨sl,e1⟩:=I.base.slot b o e n hb hx;obtain⟨sl',e2⟩:=slot b _ (neL b o e) hb (neC b o e hx) e1 (I.base.free b o e n hx);exact⟨sl',e2⟩
 ·obtain⟨o',e1⟩:=I.base.there b o e hx;exact free b o' (neC b o e hx) e1 (I.base.free b o e n hx)
 ·obtain⟨o',e1⟩:=I.base.there b o e hx;exact there b o' (neC b o e hx) e1
 ·obtain⟨m1,e1⟩:=I.base.tbls b ps e;obtain⟨m2,e2⟩:=tbls b _ e1;exact⟨m1++m2,by rw[e2,Array.append_assoc]⟩
 ·obtain⟨m,hn,hl⟩:=I.loc;refine⟨m,ns m hn,fun i x v e1 e2 e3=>?_⟩;obtain⟨u,r,l⟩:=hl i x v e1 e2 e3;refine⟨u,r,?_⟩;rcases l with l|⟨k,c,e,z⟩
  ·exact .inl l
  ·exact .inr ⟨k,c,e,cellK x c e _ z⟩
 ·obtain⟨v,z⟩:=I.cell x c e;exact⟨v,cellK x c e v z⟩
 ·obtain⟨m,⟨o,_,_,ho,_⟩,_⟩:=I.loc;exact free _ o (fun z=>(hch _ z).2.1 rfl) ho I.free
 ·obtain⟨v,o,ho,hd⟩:=I.cell x c e;exact free c o (fun z=>(hch c z).2.2.1 x c e rfl) ho (I.freeC x c e)
 ·obtain⟨e,n,ne,nf,d⟩:=I.pin p hp;have nch:p.1∉ch:=fun z=>(hch p.1 z).2.2.2 p hp rfl;exact⟨keep p.1 p.2 ne nf nch e n,free p.1 p.2 nch e n,ne,nf,d⟩
theorem Inv.un{t':Nat}(I:Inv X pins σ H s)(u:Un X.fs [] H H' s.heap h')(hok:HOk X.prog X.w H' h'):Inv X pins σ H' { s with heap:=h',toks:=t' }:=by
 obtain⟨m,⟨o,es,ep,ho,r⟩,_⟩:=id I.loc;obtain⟨sl,hL⟩:=u.any ho I.free (by simp);exact I.step (g':=s.gens) (d':=s.drawn) (ch:=[]) (fun _ z=>nomatch z) (fun b o _ hb _ e n=>u.keep b o e n hb (by simp)) (fun b o _ hb _ e n=>u.slot b o e n hb (by simp)) (fun b o _ e n=>u.free b o e n (by simp)) (fun b o _ e=>u.there b o e (by simp)) u.tups u.frzs u.tbls (fun m' hm=>by
  obtain⟨o',es',ep',ho',r'⟩:=hm;rw[ho]at ho';cases ho';exact⟨_,es',ep',hL,r'⟩) hok I.bare
theorem Inv.call{g':Array GenState}{t':Nat}{d':Drawn}{ch:List Addr}(I:Inv X pins σ H s)(u:Un (frs X.stack) ch H H' s.heap h')(hok:HOk X.prog X.w H' h')(hg:AllBare g')
  (hch:∀b∈ch,(b∈X.ex\/X.s₀.heap.objs.size<=b)/\b≠X.env.locals/\(∀x c,X.env.cells.lookup x=some c->c≠b)/\∀p∈X.pn++pins,p.1≠b) :
  Inv X pins σ H' { s with heap:=h',gens:=g',drawn:=d',toks:=t' }:=by
 obtain⟨m,⟨o,es,ep,ho,r⟩,_⟩:=id I.loc;obtain⟨sl,hL⟩:=u.any ho I.free fun z=>(hch _ z).2.1 rfl;exact I.step (ch:=ch) hch (fun b o hL hb hc e n=>u.keep b o e n (fun z=>(QL.mp (I.stkSub b z)).elim hL hb) hc) (fun b o _ _ hc e n=>u.any e n hc) (fun b o hc e n=>u.free b o e n hc) (fun b o hc e=>u.there b o e hc) u.tups u.frzs u.tbls (fun m' hm=>by
  obtain⟨o',es',ep',ho',r'⟩:=hm;rw[ho]at ho';cases ho';exact⟨_,es',ep',hL,r'⟩) hok hg
theorem Inv.turned{t':Nat}{it:Addr}(I:Inv X pins σ H s)(k:∀b o,b≠it->s.heap.get? b=some o->h'.get? b=some o)(hn:H it=none)(hL:it≠X.env.locals)
  (h1:it∈X.ex\/X.s₀.heap.objs.size<=it) (h2:∀x c,X.env.cells.lookup x=some c->c≠it) (h3:∀p∈X.pn++pins,p.1≠it):Inv X pins σ H { s with heap:=h',toks:=t' }:=by
 have nit:∀b u,H b=some u->b≠it:=fun b u e z=>by rw[z,hn]at e;cases e
 refine I.step (g':=s.gens) (d':=s.drawn) (ch:=[it]) (fun b hb=>?_) (fun b o _ _ hc e _=>k b o (fun z=>hc (by simp[z])) e) (fun b o _ _ hc e _=>⟨o.slots,k b o (fun z=>hc (by simp[z])) e⟩) (fun _ _ _ _ n=>n)
  (fun b o hc e=>⟨o,k b o (fun z=>hc (by simp[z])) e⟩) (fun _ _ e=>e) (fun _ _ _ e=>e) (fun b ps e=>⟨#[],by rw[e];simp⟩) (fun m hm=>?_) (fun b u e=>?_) I.bare
 ·have e:b=it:=by simpa using hb
  subst e;exact⟨h1,hL,h2,h3⟩
 ·obtain⟨o,es,ep,ho,r⟩:=hm;exact⟨o,es,ep,k _ o (Ne.symm hL) ho,r⟩
 ·refine(I.hok b u e).stay (fun c v hc q=>k c v ?_ q) (fun _ q=>q) fun _ _ q=>q;rcases hc with z|z
  ·rw[z];exact nit b u e
  ·exact nit c _ z
theorem Inv.tok(I:Inv X pins σ H s)(t:Nat):Inv X pins σ H { s with toks:=t }:=I.un (h':=s.heap) (t':=t) Un.refl I.hok
theorem Inv.kept{t':Nat}(I:Inv X pins σ H s)(k:∀b u,s.heap.get? b=some u->h'.get? b=some u):Inv X pins σ H { s with heap:=h',toks:=t' }:=I.un (Un.kept k) (I.hok.kept k)
theorem Inv.laid{a:Addr}{o:HO}{t':Nat}(I:Inv X pins σ H s)(k:∀b u,s.heap.get? b=some u->h'.get? b=some u)(hp:s.heap.objs.size<=a)(new:bR X.prog X.w (upd H a o) h' a o) :
  Inv X pins σ (upd H a o) { s with heap:=h',toks:=t' }:=I.un (Un.laid k hp (I.hok.fresh hp)) (I.hok.laid k hp new)
theorem Inv.write{x e:Addr}{o:HO}{t':Nat}(I:Inv X pins σ H s)(mu:Mut (H x))(he:e=x\/H e=some (.own x))(k:∀b u,b≠e->s.heap.get? b=some u->h'.get? b=some u)(heo:∃u,h'.get? e=some u)
  (new:bR X.prog X.w (upd H x o) h' x o):Inv X pins σ (upd H x o) { s with heap:=h',toks:=t' }:=I.un (Un.write mu he k heo) (I.hok.write mu he k heo new)
theorem Inv.pins_of{pins':List (Addr×Obj)}(I:Inv X pins σ H s)(h:∀p∈pins',s.heap.get? p.1=some p.2/\H p.1=none/\p.1≠X.env.locals/\p.1∉X.fs/\∀v,p.2.data≠.cell v):Inv X pins' σ H s:=
 ⟨I.ok,I.os,I.bare,I.base,I.loc,I.cell,I.free,I.freeC,fun p hp=>(Zq.mp hp).elim (fun z=>I.pin p (List.mem_append_left _ z)) (h p),I.hok,I.len⟩
theorem rj{N:List Str}(hN:N.Nodup){i j:Nat}{x:Str}(a:N[i]?=some x)(b:N[j]?=some x):i=j:=by
 obtain⟨h1,e1⟩:=Q9.mp a;obtain⟨h2,e2⟩:=Q9.mp b;exact(List.getElem_inj hN).mp (e1.trans e2.symm)
theorem jZ{M:Model}{A:Z9}{E:Q6->QQ->Prop}{i:Nat}{x:Str}{v:V}{u:Q6}{Q:Unit->QQ->Prop}(I:Inv X pins σ H s)(hN:X.N.Nodup)(hi:X.N[i]?=some x)(hx:Loc X.env.scope x)(r:bX v u)
  (h:∀s',Inv X pins (σ.set i (some v)) H s'->(∃a,Heap.SameBut a s.heap s'.heap/\(a=X.env.locals\/X.env.cells.lookup x=some a))->Q () s') (hf:X.fn x=true\/X.env.scope.names.lookup x=some .local:=by first|exact .inl rfl|exact .inr rfl|assumption):wpAny M A (storeName X.env x u) Q E s:=by
 obtain⟨m,hn,hl⟩:=id I.loc;have hcls:(X.env.scope.kind == .class||(X.env.scope.kind == .module&&X.env.locals !=X.env.globals))=false:=by rw[I.ok.kind];rfl
 have hiσ:i < σ.length:=by rw[I.len];exact(Q9.mp hi).1
 have cne:=I.cne;have tracked:∀{a:Addr} {h':Heap},(∃o,s.heap.get? a=some o/\H a=none)->Heap.SameBut a s.heap h'->HOk X.prog X.w H h':=fun{a h'} ha hs b ob e=>by
  obtain⟨_,_,hfree⟩:=ha;refine(I.hok b ob e).stay (fun c w' hc q=>(hs.2 c ?_).trans q) (fun _ q=>q) fun _ _ q=>q;rintro rfl;rcases hc with rfl|hc
  ·rw[hfree]at e;cases e
  ·rw[hfree]at hc;cases hc
 rcases hx with hk|hk
 ·refine wpAny_storeName_local hk hn (fun h' hn' hs=>?_) hcls;obtain⟨oL,_,_,hoL,_⟩:=id hn;refine h _ ⟨I.ok,I.os,I.bare,⟨fun b o e n hb hx=>?_,fun b o e n hb hx=>?_,I.base.free,fun b o e hx=>?_,I.base.tups,I.base.frzs,I.base.tbls⟩,⟨_,hn',fun j y v' e1 e2 e3=>?_⟩,fun y c e=>?_,I.free,I.freeC,fun p hp=>?_,tracked ⟨oL,hoL,I.free⟩ hs,by simpa using I.len⟩ ⟨_,hs,.inl rfl⟩
  ·exact(hs.2 b (Qj (Qy (QK e) I.ok.above))).trans (I.base.keep b o e n hb hx)
  ·obtain⟨sl,e1⟩:=I.base.slot b o e n hb hx;exact⟨sl,(hs.2 b (Qj (Qy (QK e) I.ok.above))).trans e1⟩
  ·obtain⟨o',e1⟩:=I.base.there b o e hx;exact⟨o',(hs.2 b (Qj (Qy (QK e) I.ok.above))).trans e1⟩
  ·by_cases hj:j=i
   ·subst hj;rw[hi]at e1;cases e1;rw[List.getElem?_set_self hiσ]at e2;cases e2;exact⟨u,r,.inl ⟨hk,by simp⟩⟩
   ·rw[Qp (Ne.symm hj)]at e2;obtain⟨u',r',q⟩:=hl j y v' e1 e2 e3;refine⟨u',r',?_⟩;rcases q with⟨k,e⟩|⟨k,c,e,z⟩
    ·refine .inl ⟨k,?_⟩;have:y≠x:=fun e=>hj (rj hN e1 (e▸hi));simp[this,e]
    ·exact .inr ⟨k,c,e,z.sameBut hs (cne y c e)⟩
  ·obtain⟨w',z⟩:=I.cell y c e;exact⟨w',z.sameBut hs (cne y c e)⟩
  ·obtain⟨e,n,ne,nf,d⟩:=I.pin p hp;exact⟨(hs.2 p.1 ne).trans e,n,ne,nf,d⟩
 ·have hfn:X.fn x=true:=by
   rcases hf with z|z
   ·exact z
   ·rw[z]at hk;cases hk
  obtain⟨c,hc⟩:=I.ok.has x (.inl hk);obtain⟨w',z⟩:=I.cell x c hc;refine wpAny_storeName_cell I.ok.kind hk hc z (fun h' hc' hs=>?_);obtain⟨oc,hoc,hocd⟩:=id z;refine h { s with heap:=h' } ⟨I.ok,I.os,I.bare,⟨fun b o e n hb hx=>?_,fun b o e n hb hx=>?_,I.base.free,fun b o e hx=>?_,I.base.tups,I.base.frzs,I.base.tbls⟩,⟨m,hn.sameBut hs (Ne.symm (cne x c hc)),fun j y v' e1 e2 e3=>?_⟩,fun y c' e=>?_,I.free,I.freeC,fun p hp=>?_,tracked ⟨oc,hoc,I.freeC x c hc⟩ hs,by simpa using I.len⟩ ⟨c,hs,.inr hc⟩
  ·exact(hs.2 b (Qj (Qy (QK e) (I.ok.cab x c hfn hc)))).trans (I.base.keep b o e n hb hx)
  ·obtain⟨sl,e1⟩:=I.base.slot b o e n hb hx;exact⟨sl,(hs.2 b (Qj (Qy (QK e) (I.ok.cab x c hfn hc)))).trans e1⟩
  ·obtain⟨o',e1⟩:=I.base.there b o e hx;exact⟨o',(hs.2 b (Qj (Qy (QK e) (I.ok.cab x c hfn hc)))).trans e1⟩
  ·by_cases hj:j=i
   ·subst hj;rw[hi]at e1;cases e1;rw[List.getElem?_set_self hiσ]at e2;cases e2;exact⟨u,r,.inr ⟨.inl hk,c,hc,hc'⟩⟩
   ·rw[Qp (Ne.symm hj)]at e2;obtain⟨u',r',q⟩:=hl j y v' e1 e2 e3;refine⟨u',r',?_⟩;rcases q with q|⟨k,c',e,z'⟩
    ·exact .inl q
    ·refine .inr ⟨k,c',e,z'.sameBut hs ?_⟩;rintro rfl;exact hj (rj hN e1 (I.ok.inj _ _ _ e hc▸hi))
  ·by_cases hcc:c'=c
   ·subst hcc;exact⟨_,hc'⟩
   ·obtain⟨w2,z2⟩:=I.cell y c' e;exact⟨w2,z2.sameBut hs hcc⟩
  ·obtain⟨e,n,ne,nf,d⟩:=I.pin p hp;refine⟨(hs.2 p.1 ?_).trans e,n,ne,nf,d⟩;intro q;rw[q,hoc]at e;have q':oc=p.2:=Option.some.inj e;exact d w' (by rw[<-q'];exact hocd)
theorem qF{M:Model}{A:Z9}{E:Q6->QQ->Prop}{i:Nat}{x:Str}{v:V}{u:Q6}{Q:Unit->QQ->Prop}(I:Inv X pins σ H s)(hN:X.N.Nodup)(hi:X.N[i]?=some x)(hx:Loc X.env.scope x)(r:bX v u)
  (h:∀s',Inv X pins (σ.set i (some v)) H s'->Q () s') (hf:X.fn x=true\/X.env.scope.names.lookup x=some .local:=by first|exact .inl rfl|exact .inr rfl|assumption):wpAny M A (storeName X.env x u) Q E s:=
 jZ I hN hi hx r (fun s' I' _=>h s' I') hf
theorem Inv.call'{s':QQ}{ch:List Addr}(I:Inv X pins σ H s)(ho:s'.os=s.os)(u:Un (frs X.stack) ch H H' s.heap s'.heap)(hok:HOk X.prog X.w H' s'.heap)(hg:AllBare s'.gens)
  (hch:∀b∈ch,(b∈X.ex\/X.s₀.heap.objs.size<=b)/\b≠X.env.locals/\(∀x c,X.env.cells.lookup x=some c->c≠b)/\∀p∈X.pn++pins,p.1≠b):Inv X pins σ H' s':=by
 obtain⟨h',g',d',t',o'⟩:=s';have e:o'=s.os:=ho;subst e;exact I.call (g':=g') (t':=t') (d':=d') u hok hg hch
end
abbrev XK:=Q6->Option Addr->Hp->Prop
abbrev St:=List (Option V)
abbrev VK:=V->Hp->Prop
abbrev TE:=St->Hp->VK->Prop
abbrev TT:=St->Hp->(Bool->Hp->Prop)->Prop
abbrev TA:=St->Hp->(List V->Hp->Prop)->Prop
structure AW where
 nx:St->Hp->Prop
 rt:VK
 bk:St->Hp->Prop:=fun _ _=>False
 ct:St->Hp->Prop:=fun _ _=>False
abbrev TS:=AW->St->Hp->Prop
def EP(X:Cx)(pins:List (Addr×Obj))(σ:St)(Q:VK)(u:Q6)(s':QQ):Prop:=∃v H',Inv X pins σ H' s'/\bX v u/\Q v H'
def TP(X:Cx)(pins:List (Addr×Obj))(σ:St)(Q:Bool->Hp->Prop)(b:Bool)(s':QQ):Prop:=∃H',Inv X pins σ H' s'/\Q b H'
def AP(X:Cx)(pins:List (Addr×Obj))(σ:St)(Q:List V->Hp->Prop)(us:List Q6)(s':QQ):Prop:=∃vs H',Inv X pins σ H' s'/\bh vs us/\Q vs H'
def SP(X:Cx)(pins:List (Addr×Obj))(D:AW)(f:Flow)(s':QQ):Prop:=
 match f with
 |.next=>∃σ' H',Inv X pins σ' H' s'/\D.nx σ' H'
 |.brk=>∃σ' H',Inv X pins σ' H' s'/\D.bk σ' H'
 |.cont=>∃σ' H',Inv X pins σ' H' s'/\D.ct σ' H'
 |.ret u=>∃v σ' H',Inv X pins σ' H' s'/\bX v u/\D.rt v H'
def PE(X:Cx)(e:Qq)(t:TE):Prop:=
 ∀(pins:List (Addr×Obj)) (s:QQ) (σ:St) (H:Hp) (Q:VK),Inv X pins σ H s->t σ H Q->wpAny (Qx X.prog X.w) X.A (eval e X.env) (EP X pins σ Q) X.xe s
def PT(X:Cx)(e:Qq)(t:TT):Prop:=
 ∀(pins:List (Addr×Obj)) (s:QQ) (σ:St) (H:Hp) (Q:Bool->Hp->Prop),Inv X pins σ H s->t σ H Q->wpAny (Qx X.prog X.w) X.A (isTrue e X.env (eval e X.env)) (TP X pins σ Q) X.xe s
def PW(X:Cx)(e:Qq)(t:TT):Prop:=
 ∀(whole:Sem Q6) (pins:List (Addr×Obj)) (s:QQ) (σ:St) (H:Hp) (Q:Bool->Hp->Prop),Inv X pins σ H s->t σ H Q->wpAny (Qx X.prog X.w) X.A (isTrue e X.env whole) (TP X pins σ Q) X.xe s
theorem PW.pt{X:Cx}{e:Qq}{t:TT}(h:PW X e t):PT X e t:=h _
def PA(X:Cx)(es:List Qq)(t:TA):Prop:=
 ∀(pos:Pos) (pins:List (Addr×Obj)) (s:QQ) (σ:St) (H:Hp) (Q:List V->Hp->Prop),Inv X pins σ H s->t σ H Q->wpAny (Qx X.prog X.w) X.A (spliced (ZD pos (QR es X.env))) (AP X pins σ Q) X.xe s
def PS(X:Cx)(st:ZR)(t:TS):Prop:=
 ∀(pins:List (Addr×Obj)) (s:QQ) (σ:St) (H:Hp) (D:AW),Inv X pins σ H s->t D σ H->wpAny (Qx X.prog X.w) X.A (exec st X.env) (SP X pins D) X.xe s
def PSs(X:Cx)(st:List ZR)(t:TS):Prop:=
 ∀(pins:List (Addr×Obj)) (s:QQ) (σ:St) (H:Hp) (D:AW),Inv X pins σ H s->t D σ H->wpAny (Qx X.prog X.w) X.A (execs st X.env) (SP X pins D) X.xe s
theorem thn{α:Type}{t:Sem α}{Q Q':α->QQ->Prop}{M:Model}{A:Z9}{E:Q6->QQ->Prop}{s:QQ}(h:wpAny M A t Q E s)(hQ:∀a s,Q a s->Q' a s):wpAny M A t Q' E s:=ZG h hQ fun _ _ x=>x
section
variable{X:Cx}
def Gr(i:Nat):TE:=fun σ H Q=>∃v,σ[i]?=some (some v)/\Q v H
def tC(v:V):TE:=fun _ H Q=>Q v H
theorem EV{i:Nat}{x:Str}{pos:Pos}(hN:X.N[i]?=some x)(hv:Vis X.env.scope x)(hd:(x == ("__debug__":Str))=false:=by decide)(hcd:(x == ("__classdict__":Str))=false:=by decide):PE X (.Name x pos) (Gr i):=by
 intro pins s σ H Q I h;obtain⟨v,e,h⟩:=h;obtain⟨m,hn,hl⟩:=I.loc;obtain⟨u,r,l⟩:=hl i x v hN e hv;have fin:EP X pins σ Q u s:=⟨v,H,I,r,h⟩;rcases l with⟨hk,hm⟩|⟨hk,c,hc,hcell⟩
 ·exact wpAny_Name (wpAny_loadName_local I.ok.kind hk hn hm fin) hd
 ·rcases hk with hk|hk
  ·exact wpAny_Name (wpAny_loadName_cell I.ok.kind hk hc hcell fin) hd
  ·exact wpAny_Name (wpAny_loadName_free I.ok.kind hk hc hcell fin hcd) hd
theorem E3{i j pos}:PE X (.Constant (.int i) j pos) (tC (.int i)):=fun _ _ _ H _ I h=>wpAny_Constant_int ⟨.int i,H,I.tok _,⟨_,rfl⟩,h⟩
theorem Iy{b j pos}:PE X (.Constant (.bool b) j pos) (tC (.bl b)):=fun _ _ _ H _ I h=>Constant_bool ⟨.bl b,H,I,rfl,h⟩
theorem E1{j pos}:PE X (.Constant .none j pos) (tC .non):=fun _ _ _ H _ I h=>Constant_none ⟨.non,H,I,rfl,h⟩
theorem EX{x j pos}:PE X (.Constant (.str x) j pos) (tC (.str x)):=fun _ _ _ H _ I h=>Calls.Constant_str ⟨.str x,H,I.tok _,⟨_,rfl⟩,h⟩
def Gl(X:Cx)(x:Str):Prop:=X.env.kindOf x=some .globalImplicit
theorem wc{E:Q6->QQ->Prop}{pins:List (Addr×Obj)}{s:QQ}{σ:St}{H:Hp}{x:Str}{u:Q6}{pos:Pos}{Q:Q6->QQ->Prop}(I:Inv X pins σ H s)(hg:Gl X x)(hm:X.mg x=some u)(h:Q u s)
  (hd:(x == ("__debug__":Str))=false:=by decide):wpAny (Qx X.prog X.w) X.A (eval (.Name x pos) X.env) Q E s:=
 Calls.Name_function_global I.ok.kind hg (Calls.loadGlobal_global (by rw[I.ok.glob];exact I.mod.glob.keeps I.bk) hm h) hd
theorem jy{E:Q6->QQ->Prop}{pins:List (Addr×Obj)}{s:QQ}{σ:St}{H:Hp}{x:Str}{u:Q6}{pos:Pos}{Q:Q6->QQ->Prop}(I:Inv X pins σ H s)(hg:Gl X x)(hm:X.mg x=none)(hv:Z7 x=some u)(h:Q u s)
  (hn:x≠"__name__":=by decide) (hd:(x == ("__debug__":Str))=false:=by decide):wpAny (Qx X.prog X.w) X.A (eval (.Name x pos) X.env) Q E s:=by
 obtain⟨mb,h1,h2⟩:=I.mod.blt;exact Calls.Name_function_global I.ok.kind hg (Calls.loadGlobal_builtin (by rw[I.ok.glob];exact I.mod.glob.keeps I.bk) hm (by rw[I.ok.blt];exact h1.keeps I.bk) ((h2 x hn).trans hv) h) hd
theorem Cd{x:Str}{v:V}{u:Q6}{pos:Pos}(hg:Gl X x)(hm:X.mg x=some u)(r:bX v u)(hd:(x == ("__debug__":Str))=false:=by decide):PE X (.Name x pos) (tC v):=
 fun _ _ _ H _ I h=>wc I hg hm ⟨v,H,I,r,h⟩ hd
theorem Cj{x:Str}{v:V}{u:Q6}{pos:Pos}(hg:Gl X x)(hm:X.mg x=none)(hv:Z7 x=some u)(r:bX v u)(hn:x≠"__name__":=by decide)(hd:(x == ("__debug__":Str))=false:=by decide):PE X (.Name x pos) (tC v):=
 fun _ _ _ H _ I h=>jy I hg hm hv ⟨v,H,I,r,h⟩ hn hd
variable{a b:Qq}{ta tb:TE}{pos:Pos}
def PC(X:Cx)(op:CmpOp)(a b:Qq)(t:TE):Prop:=
 ∀(pins:List (Addr×Obj)) (s:QQ) (σ:St) (H:Hp) (Q:VK),Inv X pins σ H s->t σ H Q->
  wpAny (Qx X.prog X.w) X.A (eval a X.env) (fun v s₁=>wpAny (Qx X.prog X.w) X.A (eval b X.env) (fun u s₂=>wpAny (Qx X.prog X.w) X.A (compareOp op v u) (EP X pins σ Q) X.xe s₂) X.xe s₁) X.xe s
def tB(t:TE):TT:=fun σ H Q=>t σ H fun x H1=>∃c,x=.bl c/\Q c H1
theorem E5{op:CmpOp}{t:TE}(h:PC X op a b t)(h1:behindInMarks op b=false:=by first|exact nobehind _ (by decide) (by decide)|rfl):PE X (.Compare a [op] [b] pos) t:=fun pins s σ H Q I hw=>wpAny_Compare1 (h pins s σ H Q I hw) h1
theorem EL{op:CmpOp}{t:TE}(h:PC X op a b t)(h1:behindInMarks op b=false:=by first|exact nobehind _ (by decide) (by decide)|rfl):PT X (.Compare a [op] [b] pos) (tB t):=by
 intro pins s σ H Q I hw;refine wpAny_isTrue_Compare1 (thn (h pins s σ H _ I hw) fun v s1 h1=>thn h1 fun u s2 h2=>thn h2 fun c s3 hz=>?_) h1;obtain⟨x,H1,I1,r1,q1⟩:=hz;obtain⟨d,rfl,q⟩:=q1;cases r1;exact wpAny_truthy_bool ⟨H1,I1,q⟩
theorem EJ{e:Qq}{t:TE}(h:PE X e t)(he:∀whole,isTrue e X.env whole=(do let v <-whole;standAt e.pos;holding [v] (truthy v)):=by intro _;rfl):PT X e (tB t):=by
 intro pins s σ H Q I hw;refine isTrue_plain (thn (h pins s σ H _ I hw) fun v s1 ⟨x,H1,I1,r1,q1⟩=>?_) (he _);obtain⟨d,rfl,q⟩:=q1;cases r1;exact wpAny_truthy_bool ⟨H1,I1,q⟩
variable{tA tB':TT}{rest:List Qq}
def JL(t u:TT):TT:=fun σ H Q=>t σ H fun c H1=>if c=true then u σ H1 Q else Q false H1
def tOr(t u:TT):TT:=fun σ H Q=>t σ H fun c H1=>if c=true then Q true H1 else u σ H1 Q
def JH(t:TT):TT:=fun σ H Q=>t σ H fun c H1=>Q (!c) H1
theorem B2(ha:PT X a tA):PW X (.BoolOp .And [a] pos) tA:=by
 intro wh pins s σ H Q I h;refine isTrue_and (thn (ha pins s σ H Q I h) fun c s1 e=>?_);cases c with
 |true=>exact isTrue_and_nil e
 |false=>exact e
theorem EG(ha:PT X a tA):PW X (.BoolOp .Or [a] pos) tA:=by
 intro wh pins s σ H Q I h;refine isTrue_or (thn (ha pins s σ H Q I h) fun c s1 e=>?_);cases c with
 |false=>exact isTrue_or_nil e
 |true=>exact e
theorem EH(ha:PT X a tA)(hb:PW X (.BoolOp .And (b::rest) pos) tB'):PW X (.BoolOp .And (a::b::rest) pos) (JL tA tB'):=by
 intro wh pins s σ H Q I h;refine isTrue_and (thn (ha pins s σ H _ I h) fun c s1 ⟨H1,I1,q1⟩=>?_);cases c with
 |true=>exact hb wh pins s1 σ H1 Q I1 q1
 |false=>exact⟨H1,I1,q1⟩
theorem Il(ha:PT X a tA)(hb:PW X (.BoolOp .Or (b::rest) pos) tB'):PW X (.BoolOp .Or (a::b::rest) pos) (tOr tA tB'):=by
 intro wh pins s σ H Q I h;refine isTrue_or (thn (ha pins s σ H _ I h) fun c s1 ⟨H1,I1,q1⟩=>?_);cases c with
 |true=>exact⟨H1,I1,q1⟩
 |false=>exact hb wh pins s1 σ H1 Q I1 q1
theorem EK(ha:PT X a tA):PT X (.UnaryOp .Not a pos) (JH tA):=by
 intro pins s σ H Q I h;exact isTrue_not (ha pins s σ H (fun c H1=>Q (!c) H1) I h)
def Er(ta tb:TE):TE:=fun σ H Q=>ta σ H fun x H1=>∃c,x=.bl c/\if c=true then tb σ H1 Q else Q (.bl false) H1
def JG(ta tb:TE):TE:=fun σ H Q=>ta σ H fun x H1=>∃c,x=.bl c/\if c=true then Q (.bl true) H1 else tb σ H1 Q
def Ej(ta:TE):TE:=fun σ H Q=>ta σ H fun x H1=>∃c,x=.bl c/\Q (.bl (!c)) H1
theorem EY{op}{t:TE}(h:PE X a t):PE X (.BoolOp op [a] pos) t:=fun pins s σ H Q I hw=>BoolOp_one (h pins s σ H Q I hw)
theorem E6(ha:PE X a ta)(hb:PE X (.BoolOp .And (b::rest) pos) tb):PE X (.BoolOp .And (a::b::rest) pos) (Er ta tb):=by
 intro pins s σ H Q I h;refine BoolOp_and (thn (ha pins s σ H _ I h) fun v s1 hz=>?_);obtain⟨x,H1,I1,r1,q1⟩:=hz;obtain⟨c,rfl,q1⟩:=q1;cases r1;refine wpAny_truthy_bool ?_;cases c with
 |true=>exact hb pins s1 σ H1 Q I1 q1
 |false=>exact⟨.bl false,H1,I1,rfl,q1⟩
theorem Iq(ha:PE X a ta)(hb:PE X (.BoolOp .Or (b::rest) pos) tb):PE X (.BoolOp .Or (a::b::rest) pos) (JG ta tb):=by
 intro pins s σ H Q I h;refine BoolOp_or (thn (ha pins s σ H _ I h) fun v s1 hz=>?_);obtain⟨x,H1,I1,r1,q1⟩:=hz;obtain⟨c,rfl,q1⟩:=q1;cases r1;refine wpAny_truthy_bool ?_;cases c with
 |false=>exact hb pins s1 σ H1 Q I1 q1
 |true=>exact⟨.bl true,H1,I1,rfl,q1⟩
theorem EZ(ha:PE X a ta):PE X (.UnaryOp .Not a pos) (Ej ta):=by
 intro pins s σ H Q I h;refine UnaryOp_ (thn (ha pins s σ H _ I h) fun v s1 hz=>?_);obtain⟨x,H1,I1,r1,q1⟩:=hz;obtain⟨c,rfl,q1⟩:=q1;cases r1;exact not_of (wpAny_truthy_bool ⟨.bl (!c),H1,I1,rfl,q1⟩)
end
def SqL(K:Q5)(H:Hp)(a:Addr)(xs:List V):Prop:=
 Rd H a (.lst xs)\/
  ∃(o:Obj) (its:Array Q6) (n:Nat),K.lookup a=some o/\o.cls=.type "list"/\o.dict=none/\o.data=.seq its n/\its.size<=QN/\bh xs its.toList
def SqT(K:Q5)(H:Hp)(a:Addr)(xs:List V):Prop:=
 Rd H a (.tup xs)\/
  ∃(o:Obj) (its:Array Q6) (n:Nat),K.lookup a=some o/\(o.cls=.type "tuple"/\o.dict=none)/\o.data=.seq its n/\its.size<=QN/\bh xs its.toList
def KO:Q6->Option V
 |.none=>some .non
 |.bool b=>some (.bl b)
 |.int i _=>some (.int i)
 |.str x _=>some (.str x)
 |.bytes b _=>some (.byt b)
 |.float b _=>some (.flt b)
 |.ref a=>some (.ref a)
 |.type n=>some (.ty n)
 |_=>none
theorem bX.abs{x:V}{u:Q6}(r:bX x u):KO u=some x:=by
 cases x with
 |non=>cases r;rfl
 |bl _=>cases r;rfl
 |int _=>obtain⟨t,rfl⟩:=r;rfl
 |str _=>obtain⟨t,rfl⟩:=r;rfl
 |byt _=>obtain⟨t,rfl⟩:=r;rfl
 |flt _=>obtain⟨t,rfl⟩:=r;rfl
 |ref _=>cases r;rfl
 |ty _=>cases r;rfl
theorem bX.inj{x y:V}{u:Q6}(r:bX x u)(q:bX y u):x=y:=Option.some.inj (r.abs.symm.trans q.abs)
theorem bh.inj:∀{xs ys:List V} {us:List Q6},bh xs us->bh ys us->xs=ys
 |_,_,_,.nil,.nil=>rfl
 |_,_,_,.cons r t,.cons r' t'=>by rw[r.inj r',bh.inj t t']
section
variable{X:Cx}{pins:List (Addr×Obj)}{σ:St}{H:Hp}{s:QQ}{a:Addr}{xs ys:List V}
theorem SqL.of{K:Q5}(h:H a=some (.lst xs)):SqL K H a xs:=.inl (.inl h)
theorem SqT.of{K:Q5}(h:H a=some (.tup xs)):SqT K H a xs:=.inl (.inl h)
theorem Inv.list(I:Inv X pins σ H s)(h:SqL X.K H a xs):∃its:List Q6,bh xs its/\PlainL s.heap a its.toArray/\xs.length<=QN:=by
 rcases h with h|⟨o,its,n,hk,hc,hd,hs,hz,r⟩
 ·obtain⟨z,its,n,r,e⟩:=h.ok I.hok;exact⟨its,r,⟨_,n,e,rfl,rfl,rfl⟩,z⟩
 ·refine⟨its.toList,r,⟨o,n,I.kIn a o hk,hc,hd,by simpa using hs⟩,?_⟩;have e:=r.length;simp only[QF]at e;omega
theorem Inv.tuple(I:Inv X pins σ H s)(h:SqT X.K H a xs):∃its:List Q6,bh xs its/\IsTup s.heap a its.toArray/\xs.length<=QN:=by
 rcases h with h|⟨o,its,n,hk,hc,hs,hz,r⟩
 ·obtain⟨z,its,r,p⟩:=h.ok I.hok;exact⟨its,r,p.tup,z⟩
 ·refine⟨its.toList,r,⟨o,I.kIn a o hk,hc.1,n,by simpa using hs⟩,?_⟩;have e:=r.length;simp only[QF]at e;omega
theorem Inv.tuD(I:Inv X pins σ H s)(h:SqT X.K H a xs):s.TypeIs (.ref a) "tuple"/\∀b,Value.ref a=.ref b->∃ob,s.heap.get? b=some ob/\ob.dict=none:=by
 rcases h with h|⟨o,its,n,hk,hc,hs,hz,r⟩
 ·obtain⟨z,its,r,o,g,c,d⟩:=h.ok I.hok;exact⟨⟨o,g,c.1⟩,fun b e=>by cases e;exact⟨o,g,c.2⟩⟩
 ·exact⟨⟨o,I.kIn a o hk,hc.1⟩,fun b e=>by cases e;exact⟨o,I.kIn a o hk,hc.2⟩⟩
theorem Inv.list_inj(I:Inv X pins σ H s)(h:SqL X.K H a xs)(h':SqL X.K H a ys):xs=ys:=by
 obtain⟨its,r,⟨o,n,e,_,_,d⟩,_⟩:=I.list h;obtain⟨its',r',⟨o',n',e',_,_,d'⟩,_⟩:=I.list h';rw[e]at e';cases e';rw[d]at d';injection d' with d1 _;have:its=its':=by simpa using congrArg Array.toList d1
 subst this;exact r.inj r'
theorem Inv.tuple_inj(I:Inv X pins σ H s)(h:SqT X.K H a xs)(h':SqT X.K H a ys):xs=ys:=by
 obtain⟨its,r,⟨o,e,_,n,d⟩,_⟩:=I.tuple h;obtain⟨its',r',⟨o',e',_,n',d'⟩,_⟩:=I.tuple h';rw[e]at e';cases e';rw[d]at d';injection d' with d1 _;have:its=its':=by simpa using congrArg Array.toList d1
 subst this;exact r.inj r'
end
abbrev Cx.wish(X:Cx)(E:Q6->QQ->Prop):Cx:={ X with xe:=E }
abbrev Cx.nox(X:Cx):Cx:=X.wish fun _ _=>False
theorem Cx.Ok.wish{X:Cx}(ok:X.Ok)(E:Q6->QQ->Prop):(X.wish E).Ok:=
 ⟨ok.mod,ok.kind,ok.glob,ok.blt,ok.above,ok.inj,ok.has,ok.cab,ok.hd,ok.frames,ok.stk,ok.exf,ok.bs,ok.bsz,ok.noex,ok.exfs,ok.funs,ok.frf⟩
theorem Cx.Ok.unwish{X:Cx}{E:Q6->QQ->Prop}(ok:(X.wish E).Ok):X.Ok:=
 ⟨ok.mod,ok.kind,ok.glob,ok.blt,ok.above,ok.inj,ok.has,ok.cab,ok.hd,ok.frames,ok.stk,ok.exf,ok.bs,ok.bsz,ok.noex,ok.exfs,ok.funs,ok.frf⟩
section
variable{X:Cx}{pins:List (Addr×Obj)}{σ:St}{H:Hp}{s:QQ}{E:Q6->QQ->Prop}
theorem Inv.wish(I:Inv X pins σ H s)(E:Q6->QQ->Prop):Inv (X.wish E) pins σ H s:=⟨I.ok.wish E,I.os,I.bare,I.base,I.loc,I.cell,I.free,I.freeC,I.pin,I.hok,I.len⟩
theorem Inv.unwish(I:Inv (X.wish E) pins σ H s):Inv X pins σ H s:=⟨I.ok.unwish,I.os,I.bare,I.base,I.loc,I.cell,I.free,I.freeC,I.pin,I.hok,I.len⟩
theorem SP.unwish{D:AW}{f:Flow}{s':QQ}(h:SP (X.wish E) pins D f s'):SP X pins D f s':=by
 cases f with
 |next=>obtain⟨σ',H',I,q⟩:=h;exact⟨σ',H',I.unwish,q⟩
 |brk=>obtain⟨σ',H',I,q⟩:=h;exact⟨σ',H',I.unwish,q⟩
 |cont=>obtain⟨σ',H',I,q⟩:=h;exact⟨σ',H',I.unwish,q⟩
 |ret u=>obtain⟨v,σ',H',I,r,q⟩:=h;exact⟨v,σ',H',I.unwish,r,q⟩
theorem PSs.nox{st:List ZR}{t:TS}(h:PSs X.nox st t):PSs X st t:=fun pins s σ H D I hw=>
 ZG (h pins s σ H D (I.wish _) hw) (fun _ _ q=>q.unwish) fun _ _ z=>False.elim z
end
section
variable{X:Cx}{st:ZR}{rest:List ZR}{t u:TS}{e:Qq}{te:TE}{pos:Pos}
def Ek:TS:=fun D σ H=>D.nx σ H
def JE(t u:TS):TS:=fun D σ H=>t { D with nx:=u D } σ H
theorem B5:PSs X [] Ek:=fun _ _ σ H _ I h=>wpAny_execs_nil ⟨σ,H,I,h⟩
theorem yM(h1:PS X st t)(h2:PSs X rest u):PSs X (st::rest) (JE t u):=by
 intro pins s σ H D I h;refine wpAny_execs_cons (thn (h1 pins s σ H { D with nx:=u D } I h) fun f s1 q=>?_);cases f with
 |next=>
  obtain⟨σ',H',I',q⟩:=q;exact h2 pins s1 σ' H' D I' q
 |ret v=>exact q
 |brk=>exact q
 |cont=>exact q
theorem B4(h1:PS X st t):PSs X [st] t:=by
 intro pins s σ H D I h;refine wpAny_execs_cons (thn (h1 pins s σ H D I h) fun f s1 q=>?_);cases f with
 |next=>exact wpAny_execs_nil q
 |ret v=>exact q
 |brk=>exact q
 |cont=>exact q
theorem Inv.quiet{pins:List (Addr×Obj)}{σ:St}{H:Hp}{s:QQ}(I:Inv X pins σ H s):interactive X.env=false:=by simp[interactive,I.ok.kind]
def El(te:TE):TS:=fun D σ H=>te σ H fun _ H1=>D.nx σ H1
theorem B6(he:PE X e te)(hs:Ze e none pos.line X.env=pure false:=by rfl):PS X (.Expr e pos) (El te):=by
 intro pins s σ H D I h;exact wpAny_Expr_any (thn (he pins s σ H _ I h) fun v s1 ⟨x,H1,I1,r1,q1⟩=>⟨σ,H1,I1,q1⟩) I.quiet hs
def JF(te:TE):TS:=fun D σ H=>te σ H D.rt
theorem EN(he:PE X e te):PS X (.Return (some e) pos) (JF te):=by
 intro pins s σ H D I h;exact wpAny_Return_some (thn (he pins s σ H _ I h) fun v s1 ⟨x,H1,I1,r1,q1⟩=>⟨x,σ,H1,I1,r1,q1⟩)
def JK(c:TT)(t u:TS):TS:=fun D σ H=>c σ H fun b H1=>if b=true then t D σ H1 else u D σ H1
theorem Im{c:Qq}{a b:List ZR}{tc:TT}(hc:PT X c tc)(ha:PSs X a t)(hb:PSs X b u):PS X (.If c a b pos) (JK tc t u):=by
 intro pins s σ H D I h;refine wpAny_If (thn (hc pins s σ H _ I h) fun d s1 ⟨H1,I1,q1⟩=>?_);cases d with
 |true=>exact ha pins s1 σ H1 D I1 q1
 |false=>exact hb pins s1 σ H1 D I1 q1
end
abbrev TG:=V->St->Hp->(St->Hp->Prop)->Prop
abbrev TGs:=List V->St->Hp->(St->Hp->Prop)->Prop
def PG(X:Cx)(target:Qq)(t:TG):Prop:=
 ∀(pins:List (Addr×Obj)) (s:QQ) (σ:St) (H:Hp) (v:V) (u:Q6) (Q:St->Hp->Prop),Inv X pins σ H s->bX v u->t v σ H Q->
  wpAny (Qx X.prog X.w) X.A (assign target X.env u) (fun _ s'=>∃σ' H',Inv X pins σ' H' s'/\Q σ' H') X.xe s
def PGs(X:Cx)(ts:List Qq)(t:TGs):Prop:=
 ∀(pins:List (Addr×Obj)) (s:QQ) (σ:St) (H:Hp) (vs:List V) (us:List Q6) (Q:St->Hp->Prop),Inv X pins σ H s->bh vs us->t vs σ H Q->
  wpAny (Qx X.prog X.w) X.A (assignInOrder ((assignEach ts X.env).map (·.2)) us) (fun _ s'=>∃σ' H',Inv X pins σ' H' s'/\Q σ' H') X.xe s
abbrev GJ:=V->V->V->Hp->(Hp->Prop)->Prop
def Jy(X:Cx)(t:GJ):Prop:=
 ∀(pins:List (Addr×Obj)) (s:QQ) (σ:St) (H:Hp) (o i v:V) (ov iv u:Q6) (Q:Hp->Prop),Inv X pins σ H s->bX o ov->bX i iv->bX v u->t o i v H Q->
  wpAny (Qx X.prog X.w) X.A (setItem ov iv u) (fun _ s'=>∃H',Inv X pins σ H' s'/\Q H') X.xe s
section
variable{X:Cx}{pos:Pos}
def sY(i:Nat):TG:=fun v σ H Q=>Q (σ.set i (some v)) H
theorem Cc{i:Nat}{x:Str}(hN:X.N.Nodup)(hi:X.N[i]?=some x)(hx:Loc X.env.scope x)(hf:X.fn x=true\/X.env.scope.names.lookup x=some .local:=by first|exact .inl rfl|exact .inr rfl|assumption):PG X (.Name x pos) (sY i):=by
 intro pins s σ H v u Q I r h;exact wpAny_assign_Name (qF I hN hi hx r (fun s' I'=>⟨_,H,I',h⟩) hf)
def J6:TGs:=fun vs σ H Q=>vs=[]/\Q σ H
def FX(t:TG)(u:TGs):TGs:=fun vs σ H Q=>∃v r,vs=v::r/\t v σ H fun σ' H'=>u r σ' H' Q
theorem Cb:PGs X [] J6:=by
 intro pins s σ H vs us Q I r h;obtain⟨e,h⟩:=h;subst e;cases r;exact assignInOrder_nil ⟨σ,H,I,h⟩
theorem yR{e:Qq}{es:List Qq}{t:TG}{u:TGs}(h1:PG X e t)(h2:PGs X es u)
  (hs:(assignEach (e::es) X.env).map (·.2)=assign e X.env::(assignEach es X.env).map (·.2):=by rfl):PGs X (e::es) (FX t u):=by
 intro pins s σ H vs us Q I r h;obtain⟨v,vr,e1,h⟩:=h;subst e1;cases r with
 |cons r rr=>
  rw[hs];refine assignInOrder_cons (thn (h1 pins s σ H _ _ _ I r h) fun _ s1 hz=>?_);obtain⟨σ1,H1,I1,q1⟩:=hz;exact h2 pins s1 σ1 H1 _ _ Q I1 rr q1
def J4(K:Q5)(n:Nat)(t:TGs):TG:=fun v σ H Q=>∃a xs,v=.ref a/\SqT K H a xs/\xs.length=n/\t xs σ H Q
theorem ET{es:List Qq}{k:Nat}{t:TGs}{n:Nat}(hc:X.calm=true)(h:PGs X es t)
  (hn:(assignEach es X.env).length=n:=by rfl) (hst:(assignEach es X.env).findIdx? (·.1)=none:=by rfl):PG X (.Tuple es k pos) (J4 X.K n t):=by
 intro pins s σ H v u Q I r hw;obtain⟨a,xs,e1,hq,hl,hw⟩:=hw;subst e1;cases r;obtain⟨its,rv,ht,hz⟩:=I.tuple hq;refine assign_Tuple_tuple (I.ok.hd hc) ht (by simp[hn,<-hl,rv.length]) hst fun h' hx=>?_;have I1:Inv X pins σ H { s with heap:=h' }:=I.kept (t':=s.toks) fun b o e=>hx b o (Qj (QK e)) e;exact h pins _ σ H xs _ Q I1 (by simpa using rv) hw
def J5(to ti:TE)(t:GJ):TG:=fun v σ H Q=>to σ H fun o H1=>ti σ H1 fun i H2=>t o i v H2 fun H3=>Q σ H3
theorem EU{o i:Qq}{to ti:TE}{t:GJ}(ho:PE X o to)(hi:PE X i ti)(hs:Jy X t)
  (ha:∀v,assign (.Subscript o i pos) X.env v=(do
   let ov <-holding [v] (eval o X.env)
   let iv <-holding [v,ov] (eval i X.env)
   standAt pos
   holding [v,ov,iv] (setItem ov iv v)
   release [v,ov,iv] []):=by intro _;rfl):PG X (.Subscript o i pos) (J5 to ti t):=by
 intro pins s σ H v u Q I r h;rw[ha];refine Q2 (wpAny_holding (thn (ho pins s σ H _ I h) fun ov s1 hz=>?_));obtain⟨x,H1,I1,r1,q1⟩:=hz;refine Q2 (wpAny_holding (thn (hi pins s1 σ H1 _ I1 q1) fun iv s2 hz=>?_));obtain⟨y,H2,I2,r2,q2⟩:=hz;refine Q2 (wpAny_standAt (Q2 (wpAny_holding (thn (hs pins s2 σ H2 x y v ov iv u _ I2 r1 r2 r q2) fun _ s3 ⟨H3,I3,q3⟩=>?_))));exact wpAny_release ⟨σ,H3,I3,q3⟩
def Ep(te:TE)(g:TG):TS:=fun D σ H=>te σ H fun x H1=>g x σ H1 D.nx
theorem ER{tg e:Qq}{te:TE}{g:TG}(he:PE X e te)(hg:PG X tg g)(hs:swapsWithSole [tg] e pos.line X.env=pure false:=by rfl)(hw:swappedStores [tg] e X.env=pure none:=by rfl)
  (h1:(assignEach [tg] X.env).map (·.2)=[assign tg X.env]:=by rfl):PS X (.Assign [tg] e pos) (Ep te g):=by
 intro pins s σ H D I h;refine wpAny_Assign_stores (thn (he pins s σ H _ I h) fun v s1 hz=>?_) hs hw;obtain⟨x,H1,I1,r1,q1⟩:=hz;rw[h1];exact thn (hg pins s1 σ H1 x v _ I1 r1 q1) fun _ s2 q=>q
theorem EM{i:Nat}{x:Str}{e:Qq}{te:TE}{pos':Pos}(hN:X.N.Nodup)(hi:X.N[i]?=some x)(hx:Loc X.env.scope x)(he:PE X e te)(hs:Ze e (some (.Name x pos')) pos.line X.env=pure false:=by rfl)(hf:X.fn x=true\/X.env.scope.names.lookup x=some .local:=by first|exact .inl rfl|exact .inr rfl|assumption) :
  PS X (.Assign [.Name x pos'] e pos) (Ep te (sY i)):=by
 intro pins s σ H D I h;refine wpAny_Assign_Name (thn (he pins s σ H _ I h) fun v s1 hz=>?_) hs;obtain⟨y,H1,I1,r1,q1⟩:=hz;exact qF I1 hN hi hx r1 (fun s2 I2=>⟨_,H1,I2,q1⟩) hf
def uI(c:TT)(tb:TS):TS:=fun D σ H=>∃W:Nat->St->Hp->Prop,(∃m,W m σ H)/\∀m σ H,W m σ H->
 c σ H fun b H1=>if b=true then ∃N:St->Hp->Prop,(∀σ' H',N σ' H'->∃m',m'<m/\W m' σ' H')/\tb { D with nx:=N,ct:=N,bk:=D.nx } σ H1 else D.nx σ H1
theorem yN{c:Qq}{body:List ZR}{tc:TT}{tb:TS}(hp:PassesOwn (Qx X.prog X.w) X.A X.env X.xe)(hc:PT X c tc)(hb:PSs X body tb):PS X (.While c body [] pos) (uI tc tb):=by
 intro pins s σ H D I h;obtain⟨W,⟨m0,w0⟩,turn⟩:=h;refine wpAny_While (codeAny_whileLoop (fun n s'=>∃σ' H',Inv X pins σ' H' s'/\W n σ' H') ?_ m0 ⟨σ,H,I,w0⟩);rintro n s1 ⟨σ1,H1,I1,w1⟩;refine wpAny_passesOwn hp (thn (hc pins s1 σ1 H1 _ I1 (turn n σ1 H1 w1)) fun b s2 ⟨H2,I2,q2⟩=>?_);cases b with
 |true=>
  obtain⟨N,hN,q2⟩:=q2;rw[if_pos rfl];refine wpAny_passesOwn hp (thn (hb pins s2 σ1 H2 _ I2 q2) fun f s3 q3=>?_);cases f with
  |next=>
   obtain⟨σ3,H3,I3,n3⟩:=q3;obtain⟨m',hm,w3⟩:=hN σ3 H3 n3;exact⟨m',hm,σ3,H3,I3,w3⟩
  |cont=>
   obtain⟨σ3,H3,I3,n3⟩:=q3;obtain⟨m',hm,w3⟩:=hN σ3 H3 n3;exact⟨m',hm,σ3,H3,I3,w3⟩
  |brk=>exact q3
  |ret v=>exact q3
 |false=>
  rw[if_neg QC];exact wpAny_execs_nil ⟨σ1,H2,I2,q2⟩
end
structure It where
 go:Nat->Hp->Prop
 yld:Nat->Hp->V->Hp->Prop
 stop:Nat->Hp->Prop
def tW(X:Cx)(pins:List (Addr×Obj))(H:Hp)(b:Addr):Prop:=
 H b=none/\b≠X.env.locals/\b∉X.fs/\(b∈X.ex\/X.s₀.heap.objs.size<=b)/\(∀x c,X.env.cells.lookup x=some c->c≠b)/\∀p∈X.pn++pins,p.1≠b
theorem Inv.fpOk{X:Cx}{pins:List (Addr×Obj)}{σ:St}{H H':Hp}{s:QQ}{b:Addr}(I:Inv X pins σ H s)(hb:s.heap.objs.size<=b)(hn:H' b=none):tW X pins H' b:=by
 refine⟨hn,Nat.ne_of_gt (Qy I.lt hb),I.nofs hb,.inr (Qo I.sz hb),fun x c e z=>?_,fun p hp z=>?_⟩
 ·obtain⟨v,q⟩:=I.cell x c e;exact absurd (Qy q.lt (by rw[z];exact hb)) (Nat.lt_irrefl _)
 ·exact absurd (Qy (QK (I.pin p hp).1) (by rw[z];exact hb)) (Nat.lt_irrefl _)
structure Di(P:Qu)(w:Qm)(K:Q5)(tg:Qq)(J:It)(fp:List Addr)(it:Addr)(tn:Nat->Heap->Prop):Prop where
 mem:it∈fp
 obj:∀i h,tn i h->∀b∈fp,∃o,h.get? b=some o/\∀v,o.data≠.cell v
 keep:∀i h h',tn i h->(∀b∈fp,∀o,h.get? b=some o->h'.get? b=some o)->tn i h'
 item:∀(X:Cx),X.prog=P->X.w=w->X.K=K->X.calm=true->∀(i:Nat) (pins:List (Addr×Obj)) (s:QQ) (σ:St) (H:Hp) (E:Q6->QQ->Prop),Inv X pins σ H s->(∀b∈fp,tW X pins H b)->tn i s.heap->J.go i H->
  wpAny (Qx P w) X.A (pyNext (.ref it)) (fun r s1=>∃u,r=some u/\
   wpAny (Qx P w) X.A (letOwnedTupleGo tg (.ref it) u) (fun _ s2=>∃x H',Inv X pins σ H' s2/\bX x u/\J.yld i H x H'/\tn (i+1) s2.heap/\∀b∈fp,H' b=none) E s1) E s
 done:∀(X:Cx),X.prog=P->X.w=w->X.K=K->X.calm=true->∀(i:Nat) (pins:List (Addr×Obj)) (s:QQ) (σ:St) (H:Hp) (E:Q6->QQ->Prop),Inv X pins σ H s->(∀b∈fp,tW X pins H b)->tn i s.heap->J.stop i H->
  wpAny (Qx P w) X.A (pyNext (.ref it)) (fun r s1=>r=none/\Inv X pins σ H s1) E s
 self:∀(A:Z9) (i:Nat) (s:QQ) (Q:Q6->QQ->Prop) (E:Q6->QQ->Prop),tn i s.heap->Q (.ref it) s->wpAny (Qx P w) A (pyIter (.ref it)) Q E s
abbrev TI:=St->Hp->(It->Hp->Prop)->Prop
def PIE(X:Cx)(pins:List (Addr×Obj))(σ:St)(tg:Qq)(R:It->Hp->Prop)(itv:Q6)(s2:QQ):Prop:=
 ∃(it:Addr) (fp:List Addr) (tn:Nat->Heap->Prop) (J:It) (H':Hp),itv=.ref it/\Inv X pins σ H' s2/\Di X.prog X.w X.K tg J fp it tn/\tn 0 s2.heap/\(∀b∈fp,tW X pins H' b)/\R J H'
def PI(X:Cx)(tg iter:Qq)(wi:TI):Prop:=
 ∀(pins:List (Addr×Obj)) (s:QQ) (σ:St) (H:Hp) (R:It->Hp->Prop),Inv X pins σ H s->wi σ H R->
  wpAny (Qx X.prog X.w) X.A (eval iter X.env) (fun v s1=>wpAny (Qx X.prog X.w) X.A (pyIter v) (PIE X pins σ tg R) X.xe s1) X.xe s
theorem zB {M : Model} {A : Z9} {E : Q6 -> QQ -> Prop} {s : QQ} {tg : Qq} {it : Addr} {u : Q6} {o : Obj} {n : String} {vs : Array Q6} {Q : Unit -> QQ -> Prop} (ho : s.heap.get? it = some o) (hc : o.cls = .type n) (hd : o.data = .fields vs)
    (hn:["enumerate","zip","dict_itemiterator","dict_reverseitemiterator","odict_iterator","itertools.zip_longest","itertools.pairwise"].contains n=false) (hQ:Q () s):wpAny M A (letOwnedTupleGo tg (.ref it) u) Q E s:=by
  unfold letOwnedTupleGo;cases tg<;>first
    |exact Q8 hQ
    | (cases u <;> first
        |exact Q8 hQ
        | (refine Q2 (wpAny_load ho ?_)
           rw[hc,hd];show wpAny M A (if (["enumerate","zip","dict_itemiterator","dict_reverseitemiterator","odict_iterator","itertools.zip_longest","itertools.pairwise"].contains n&&vs[0]? == some (rawInt _))=true then _ else _) Q E s;rw[if_neg (by intro h;rw[hn,Qg]at h;cases h)];exact Q8 hQ))
def Itl(K:Q5)(a:Addr):It:=
 ⟨fun i H=>∃xs x,SqL K H a xs/\xs[i]?=some x,fun i H x H'=>H'=H/\∀xs,SqL K H a xs->xs[i]?=some x,fun i H=>∃xs,SqL K H a xs/\xs.length<=i⟩
def Itt(K:Q5)(a:Addr):It:=
 ⟨fun i H=>∃xs x,SqT K H a xs/\xs[i]?=some x,fun i H x H'=>H'=H/\∀xs,SqT K H a xs->xs[i]?=some x,fun i H=>∃xs,SqT K H a xs/\xs.length<=i⟩
def Itr(lo:Int)(n:Nat):It:=⟨fun i _=>i<n,fun i H x H'=>H'=H/\x=.int (lo+i),fun i _=>n<=i⟩
theorem uF{P:Qu}{w:Qm}{K:Q5}{tg:Qq}(a it:Addr):Di P w K tg (Itl K a) [it] it (fun i h=>h.IsListIter it a i) where
 mem:=by simp
 obj:=fun i h st b hb=>by
  have e:b=it:=by simpa using hb
  subst e;obtain⟨o,e,c,d⟩:=st;exact⟨o,e,fun v z=>by rw[d]at z;cases z⟩
 keep:=fun i h h' st k=>st.at fun o e=>k it (by simp) o e
 item:=by
  intro X hP hw hK hc i pins s σ H E I hf st hg;subst hP hw hK;obtain⟨xs,x,hq,hx⟩:=hg;obtain⟨its,rv,p,hz⟩:=I.list hq;obtain⟨u,hu,ru⟩:=rv.get hx;obtain⟨f0,f1,f2,f3,f4,f5⟩:=hf it (by simp);refine wpAny_pyNext_list_item st p.isList (x:=u) (by simpa using hu) fun h' st' sb=>?_;have I1:Inv X pins σ H { s with heap:=h' }:=I.turned (t':=s.toks) (fun b o hb e=>(sb.2 b hb).trans e) f0 f1 f3 f4 f5;obtain⟨o,e,c,d⟩:=id st';exact⟨u,rfl,zB (s:={ s with heap:=h' }) e c d (by decide) ⟨x,H,I1,ru,⟨rfl,fun ys hy=>by rw[I.list_inj hy hq];exact hx⟩,st',fun b hb=>(hf b hb).1⟩⟩
 done:=by
  intro X hP hw hK hc i pins s σ H E I hf st hg;subst hP hw hK;obtain⟨xs,hq,hx⟩:=hg;obtain⟨its,rv,p,hz⟩:=I.list hq;obtain⟨f0,f1,f2,f3,f4,f5⟩:=hf it (by simp);have hl:=rv.length;exact wpAny_pyNext_list_end (I.ok.hd hc) st p.isList (by simp;omega) fun h' eb=>⟨rfl,I.turned (t':=s.toks) (fun b o hb e=>eb b o hb e) f0 f1 f3 f4 f5⟩
 self:=fun _ _ _ _ _ st h=>wpAny_pyIter_listiter st h
theorem sx{P:Qu}{w:Qm}{K:Q5}{tg:Qq}(a it:Addr):Di P w K tg (Itt K a) [it] it (fun i h=>h.IsTupleIter it a i) where
 mem:=by simp
 obj:=fun i h st b hb=>by
  have e:b=it:=by simpa using hb
  subst e;obtain⟨o,e,c,d⟩:=st;exact⟨o,e,fun v z=>by rw[d]at z;cases z⟩
 keep:=fun i h h' st k=>st.at fun o e=>k it (by simp) o e
 item:=by
  intro X hP hw hK hc i pins s σ H E I hf st hg;subst hP hw hK;obtain⟨xs,x,hq,hx⟩:=hg;obtain⟨its,rv,p,hz⟩:=I.tuple hq;obtain⟨u,hu,ru⟩:=rv.get hx;obtain⟨f0,f1,f2,f3,f4,f5⟩:=hf it (by simp);refine wpAny_pyNext_tuple_item st (show s.heap.IsTuple a its.toArray from p) (x:=u) (by simpa using hu) fun h' st' sb=>?_;have I1:Inv X pins σ H { s with heap:=h' }:=I.turned (t':=s.toks) (fun b o hb e=>(sb.2 b hb).trans e) f0 f1 f3 f4 f5;obtain⟨o,e,c,d⟩:=id st';exact⟨u,rfl,zB (s:={ s with heap:=h' }) e c d (by decide) ⟨x,H,I1,ru,⟨rfl,fun ys hy=>by rw[I.tuple_inj hy hq];exact hx⟩,st',fun b hb=>(hf b hb).1⟩⟩
 done:=by
  intro X hP hw hK hc i pins s σ H E I hf st hg;subst hP hw hK;obtain⟨xs,hq,hx⟩:=hg;obtain⟨its,rv,p,hz⟩:=I.tuple hq;obtain⟨f0,f1,f2,f3,f4,f5⟩:=hf it (by simp);have hl:=rv.length;exact wpAny_pyNext_tuple_end (I.ok.hd hc) st (show s.heap.IsTuple a its.toArray from p) (by simp;omega) fun h' eb=>⟨rfl,I.turned (t':=s.toks) (fun b o hb e=>eb b o hb e) f0 f1 f3 f4 f5⟩
 self:=fun _ _ _ _ _ st h=>wpAny_pyIter_tupleiter st h
theorem sy{P:Qu}{w:Qm}{K:Q5}{tg:Qq}(it:Addr)(lo:Int)(n:Nat):Di P w K tg (Itr lo n) [it] it (fun i h=>IsRangeIter h it (lo+(i:Nat)*1) ((n:Int)-(i:Nat)) 1) where
 mem:=by simp
 obj:=fun i h st b hb=>by
  have e:b=it:=by simpa using hb
  subst e;exact⟨_,st,fun v z=>by
   have z':Data.fields _=Data.cell v:=z;cases z'⟩
 keep:=fun i h h' st k=>k it (by simp) _ st
 item:=by
  intro X hP hw hK hc i pins s σ H E I hf st hg;subst hP hw hK;obtain⟨f0,f1,f2,f3,f4,f5⟩:=hf it (by simp);have W:=Walks.range (prog:=X.prog) (w:=X.w) (I.ok.hd hc) it lo 1 n;refine W.item i s _ _ hg st fun v h' tk hv st' kk=>?_;obtain⟨t,rfl⟩:=hv;have I1:Inv X pins σ H { s with heap:=h',toks:=tk }:=I.turned (fun b o hb e=>kk b o (by simpa using hb) e) f0 f1 f3 f4 f5;refine⟨_,rfl,zB (s:={ s with heap:=h',toks:=tk }) (n:="range_iterator") st' rfl rfl (by decide) ⟨.int (lo+i),H,I1,⟨t,?_⟩,⟨rfl,rfl⟩,st',fun b hb=>(hf b hb).1⟩⟩;rw[Int.mul_one]
 done:=by
  intro X hP hw hK hc i pins s σ H E I hf st hg;subst hP hw hK;obtain⟨f0,f1,f2,f3,f4,f5⟩:=hf it (by simp);exact wpAny_pyNext_range_end (I.ok.hd hc) st (by have:n<=i:=hg;omega) fun h' eb=>⟨rfl,I.turned (t':=s.toks) (fun b o hb e=>eb b o hb e) f0 f1 f3 f4 f5⟩
 self:=fun _ _ _ _ _ st h=>wpAny_pyIter_rangeiter st h
section
variable{X:Cx}{tg:Qq}
def FW(K:Q5)(tl:TE):TI:=fun σ H R=>tl σ H fun x H1=>∃a,x=.ref a/\(∃xs,SqL K H1 a xs)/\R (Itl K a) H1
def J3(K:Q5)(tl:TE):TI:=fun σ H R=>tl σ H fun x H1=>∃a,x=.ref a/\(∃xs,SqT K H1 a xs)/\R (Itt K a) H1
theorem Ca{l:Qq}{tl:TE}(hl:PE X l tl):PI X tg l (FW X.K tl):=by
 intro pins s σ H R I h;refine thn (hl pins s σ H _ I h) fun v s1 hz=>?_;obtain⟨x,H1,I1,r1,q1⟩:=hz;obtain⟨a,e,⟨xs,hq⟩,q⟩:=q1;subst e;cases r1;obtain⟨its,rv,p,hz⟩:=I1.list hq;refine wpAny_pyIter_list p.isList ?_;refine⟨s1.heap.objs.size,[s1.heap.objs.size],_,_,H1,rfl,I1.kept (t':=s1.toks) fun b o e=>Q4 _ e,uF a _,⟨_,QV _ rfl,rfl,rfl⟩,fun b hb=>?_,q⟩;have e:b=s1.heap.objs.size:=by simpa using hb
 subst e;exact I1.fpOk (QJ _) (I1.hok.fresh (QJ _))
theorem ES{l:Qq}{tl:TE}(hl:PE X l tl):PI X tg l (J3 X.K tl):=by
 intro pins s σ H R I h;refine thn (hl pins s σ H _ I h) fun v s1 hz=>?_;obtain⟨x,H1,I1,r1,q1⟩:=hz;obtain⟨a,e,⟨xs,hq⟩,q⟩:=q1;subst e;cases r1;obtain⟨its,rv,p,hz⟩:=I1.tuple hq;refine wpAny_pyIter_tuple (show s1.heap.IsTuple a its.toArray from p) ?_;refine⟨s1.heap.objs.size,[s1.heap.objs.size],_,_,H1,rfl,I1.kept (t':=s1.toks) fun b o e=>Q4 _ e,sx a _,⟨_,QV _ rfl,rfl,rfl⟩,fun b hb=>?_,q⟩;have e:b=s1.heap.objs.size:=by simpa using hb
 subst e;exact I1.fpOk (QJ _) (I1.hok.fresh (QJ _))
theorem yE{pins:List (Addr×Obj)}{σ:St}{H:Hp}{s:QQ}{R:It->Hp->Prop}{E:Q6->QQ->Prop}{lo hi:Int}{t u v:Tok}{tk:Nat}(I:Inv X pins σ H s)(h1:-(2^62)<=lo)(h2:lo<2^62)(h3:-(2^62)<=hi)(h4:hi<2^62)
  (q:R (Itr lo (hi-lo).toNat) H):wpAny (Qx X.prog X.w) X.A (pyIter (.ref s.heap.objs.size)) (PIE X pins σ tg R) E { s with heap:=s.heap.push { cls:=.type "range",data:=.fields #[.int lo t,.int hi u,.int 1 v] },toks:=tk }:=by
 refine wpAny_pyIter_range (IsRange.new ..) (small_one h1 h2 h3 h4) ?_;have I1:Inv X pins σ H { s with heap:=s.heap.push { cls:=.type "range",data:=.fields #[.int lo t,.int hi u,.int 1 v] },toks:=tk }:=I.kept fun b o e=>Q4 _ e;refine⟨(s.heap.push { cls:=.type "range",data:=.fields #[.int lo t,.int hi u,.int 1 v] }).objs.size,[(s.heap.push { cls:=.type "range",data:=.fields #[.int lo t,.int hi u,.int 1 v] }).objs.size],_,_,H,rfl,
  I1.kept (t':=tk) fun b o e=>Q4 _ e,sy _ lo (hi-lo).toNat,?_,fun b hb=>?_,q⟩
 ·have e1:lo+((0:Nat):Int)*1=lo:=by simp
  have e2:(((hi-lo).toNat:Nat):Int)-((0:Nat):Int)=Builtin.Range.rangeSize lo hi 1:=by rw[rangeSize_one];split<;>omega
  show IsRangeIter _ _ (lo+((0:Nat):Int)*1) ((((hi-lo).toNat:Nat):Int)-((0:Nat):Int)) 1;rw[e1,e2];exact QV _ rfl
 ·have e:b=(s.heap.push { cls:=.type "range",data:=.fields #[.int lo t,.int hi u,.int 1 v] }).objs.size:=by simpa using hb
  subst e;exact I1.fpOk (QJ _) (I1.hok.fresh (QJ _))
def FV(ta:TA):TI:=fun σ H R=>ta σ H fun vs H1=>∃j:Int,vs=[.int j]/\-(2^62)<=j/\j<2^62/\R (Itr 0 j.toNat) H1
theorem vB{a:Qq}{ta:TA}{p pos:Pos}(hg:Gl X "range")(hm:X.mg "range"=none)(ha:PA X [a] ta)(hs:QR [a] X.env=[(false,eval a X.env)]:=by rfl):PI X tg (.Call (.Name "range" p) [a] [] pos) (FV ta):=by
 intro pins s σ H R I h;refine Call_ (jy I hg hm boot_range (PyProof.Rows.callWith_type1 (thn (ha pos pins s σ H _ I h) fun us s1 ⟨vs,H1,I1,r1,q1⟩=>?_) hs rfl));obtain⟨j,e,q1,q2,q⟩:=q1;subst e;cases r1 with
 |cons r rr=>
  cases rr;obtain⟨t,rfl⟩:=r;exact call_range_1 (yE I1 (by omega) (by omega) q1 q2 (by simpa using q))
def HQ(wi:TI)(g:TG)(tb:TS):TS:=fun D σ H=>wi σ H fun J H1=>∃W:Nat->Nat->St->Hp->Prop,(∃m,W 0 m σ H1)/\∀i m σ H,W i m σ H->
 (J.stop i H/\D.nx σ H)\/(J.go i H/\∃N:St->Hp->Prop,(∀σ' H',N σ' H'->∃m',m'<m/\W (i+1) m' σ' H')/\∀x H',J.yld i H x H'->g x σ H' fun σ2 H2=>tb { D with nx:=N,ct:=N,bk:=D.nx } σ2 H2)
def qZ(fp:List Addr)(h:Heap):List (Addr×Obj):=fp.filterMap fun b=>(h.get? b).map fun o=>(b,o)
theorem dN{fp:List Addr}{h:Heap}{b:Addr}{o:Obj}(hb:b∈fp)(e:h.get? b=some o):(b,o)∈qZ fp h:=List.mem_filterMap.mpr ⟨b,hb,by rw[e];rfl⟩
theorem vG{fp:List Addr}{h:Heap}{p:Addr×Obj}(hp:p∈qZ fp h):p.1∈fp/\h.get? p.1=some p.2:=by
 obtain⟨b,hb,e⟩:=List.mem_filterMap.mp hp;cases q:h.get? b with
 |none=>rw[q]at e;cases e
 |some o=>
  rw[q]at e;have e':(b,o)=p:=Option.some.inj e;subst e';exact⟨hb,q⟩
theorem Inv.pinned{pins:List (Addr×Obj)}{σ:St}{H:Hp}{s:QQ}{fp:List Addr}(I:Inv X pins σ H s)(hf:∀b∈fp,tW X pins H b)(ho:∀b∈fp,∃o,s.heap.get? b=some o/\∀v,o.data≠.cell v):Inv X (pins++qZ fp s.heap) σ H s:=
 I.pins_of fun p hp=>(Zq.mp hp).elim (fun z=>I.pin p (Qt _ z)) fun z=>by
  obtain⟨hb,e⟩:=vG z;obtain⟨f0,f1,f2,_⟩:=hf p.1 hb;obtain⟨o,e',d⟩:=ho p.1 hb;rw[e]at e';cases e';exact⟨e,f0,f1,f2,d⟩
theorem Inv.unpinned{pins pl:List (Addr×Obj)}{σ:St}{H:Hp}{s:QQ}(I:Inv X (pins++pl) σ H s):Inv X pins σ H s:=I.pins_of fun p hp=>I.pin p (Qt _ (List.mem_append_left _ hp))
theorem EO{iter:Qq}{body:List ZR}{wi:TI}{g:TG}{tb:TS}{pos:Pos}(hp:PassesOwn (Qx X.prog X.w) X.A X.env X.xe)(hc:X.calm=true)(hi:PI X tg iter wi)(hg:PG X tg g)(hb:PSs X body tb)
  (hs:∀x,foldedSetIterable iter X.env x=pure x:=by intro _;rfl):PS X (.For tg iter body [] pos) (HQ wi g tb):=by
 intro pins s σ H D I h;refine wpAny_For (thn (hi pins s σ H _ I h) fun v s1 h1=>thn h1 fun itv s2 h2=>?_) hs;obtain⟨it,fp,tn,J,H2,e,I2,T,st2,f2,W,⟨m0,w0⟩,turn⟩:=h2;subst e;have stat:∀{H':Hp},(∀b∈fp,H' b=none)->∀b∈fp,tW X pins H' b:=fun hn b hb=>⟨hn b hb,(f2 b hb).2⟩;refine codeAny_forLoop_any (fun n s'=>∃i σ' H',Inv X pins σ' H' s'/\tn i s'.heap/\(∀b∈fp,H' b=none)/\W i n σ' H') ?_ m0 ⟨0,σ,H2,I2,st2,fun b hb=>(f2 b hb).1,w0⟩;rintro n s3 ⟨i,σ3,H3,I3,st3,fr3,w3⟩;rcases turn i n σ3 H3 w3 with⟨stop,qn⟩|⟨go,N,hN,step⟩
 ·refine wpAny_passesOwn hp (thn (T.done X rfl rfl rfl hc i pins s3 σ3 H3 X.xe I3 (stat fr3) st3 stop) fun r s4 ⟨hr,I4⟩=>?_);subst hr;exact wpAny_execs_nil ⟨σ3,H3,I4,qn⟩
 ·refine wpAny_passesOwn hp (thn (T.item X rfl rfl rfl hc i pins s3 σ3 H3 X.xe I3 (stat fr3) st3 go) fun r s4 ⟨u,hr,h4⟩=>?_);subst hr;refine wpAny_passesOwn hp (thn h4 fun _ s5 hz=>?_);obtain⟨x,H5,I5,r5,y5,st5,fr5⟩:=hz;have I5':=I5.pinned (stat fr5) (T.obj _ _ st5);refine wpAny_passesOwn hp (thn (hg _ s5 σ3 H5 x u _ I5' r5 (step x H5 y5)) fun _ s6 hz=>?_);obtain⟨σ6,H6,I6,q6⟩:=hz;refine wpAny_passesOwn hp (thn (hb _ s6 σ6 H6 _ I6 q6) fun f s7 q7=>?_);have again:∀{σ7:St} {H7:Hp},Inv X (pins++qZ fp s5.heap) σ7 H7 s7->N σ7 H7->∃m,m<n/\∃i σ' H',Inv X pins σ' H' s7/\tn i s7.heap/\(∀b∈fp,H' b=none)/\W i m σ' H':=fun{σ7 H7} I7 n7=>by
   obtain⟨m',hm,w7⟩:=hN σ7 H7 n7;refine⟨m',hm,i+1,σ7,H7,I7.unpinned,T.keep _ _ _ st5 fun b hb o e=>(I7.pin (b,o) (Qt _ (Qt _ (dN hb e)))).1,fun b hb=>?_,w7⟩;obtain⟨o,e,d⟩:=T.obj _ _ st5 b hb;exact(I7.pin (b,o) (Qt _ (Qt _ (dN hb e)))).2.1
  cases f with
  |next=>obtain⟨σ7,H7,I7,n7⟩:=q7;exact again I7 n7
  |cont=>obtain⟨σ7,H7,I7,n7⟩:=q7;exact again I7 n7
  |brk=>obtain⟨σ7,H7,I7,q7⟩:=q7;exact⟨σ7,H7,I7.unpinned,q7⟩
  |ret v=>obtain⟨x7,σ7,H7,I7,r7,q7⟩:=q7;exact⟨x7,σ7,H7,I7.unpinned,r7,q7⟩
end
abbrev R2:=V->V->Hp->VK->Prop
def OpR(X:Cx)(f:Q6->Q6->Sem Q6)(r:R2):Prop:=
 ∀(pins:List (Addr×Obj)) (s:QQ) (σ:St) (H:Hp) (x y:V) (v u:Q6) (Q:VK),Inv X pins σ H s->bX x v->bX y u->r x y H Q->
  wpAny (Qx X.prog X.w) X.A (f v u) (EP X pins σ Q) X.xe s
def UnR(X:Cx)(f:Q6->Sem Q6)(r:V->Hp->VK->Prop):Prop:=
 ∀(pins:List (Addr×Obj)) (s:QQ) (σ:St) (H:Hp) (x:V) (v:Q6) (Q:VK),Inv X pins σ H s->bX x v->r x H Q->
  wpAny (Qx X.prog X.w) X.A (f v) (EP X pins σ Q) X.xe s
def cS(X:Cx)(f:Q6)(r:List V->Hp->VK->Prop):Prop:=
 ∀(pins:List (Addr×Obj)) (s:QQ) (σ:St) (H:Hp) (xs:List V) (us:List Q6) (Q:VK),Inv X pins σ H s->bh xs us->r xs H Q->
  wpAny (Qx X.prog X.w) X.A (call f us) (EP X pins σ Q) X.xe s
def tOp(r:R2)(ta tb:TE):TE:=fun σ H Q=>ta σ H fun x H1=>tb σ H1 fun y H2=>r x y H2 Q
def tUn(r:V->Hp->VK->Prop)(ta:TE):TE:=fun σ H Q=>ta σ H fun x H1=>r x H1 Q
def rI(C:Int->Int->Prop)(g:Int->Int->V):R2:=fun x y H Q=>∃i j,x=.int i/\y=.int j/\C i j/\Q (g i j) H
def rI0(g:Int->Int->V):R2:=fun x y H Q=>∃i j,x=.int i/\y=.int j/\Q (g i j) H
def rU(g:Int->V):V->Hp->VK->Prop:=fun x H Q=>∃i,x=.int i/\Q (g i) H
section
variable{X:Cx}{a b:Qq}{ta tb:TE}{pos:Pos}
theorem Jv(ha:PE X a ta)(hb:PE X b tb){pins:List (Addr×Obj)}{s:QQ}{σ:St}{H:Hp}{R:V->V->Hp->Prop}(I:Inv X pins σ H s)
  (h:ta σ H fun x H1=>tb σ H1 fun y H2=>R x y H2) {Q:Q6->QQ->Prop} {f:Q6->Q6->Sem Q6}
  (hf:∀v u s2 x y H2,Inv X pins σ H2 s2->bX x v->bX y u->R x y H2->wpAny (Qx X.prog X.w) X.A (f v u) Q X.xe s2) :
  wpAny (Qx X.prog X.w) X.A (eval a X.env) (fun v s₁=>wpAny (Qx X.prog X.w) X.A (eval b X.env) (fun u s₂=>wpAny (Qx X.prog X.w) X.A (f v u) Q X.xe s₂) X.xe s₁) X.xe s:=by
 refine thn (ha pins s σ H _ I h) fun v s1 hz=>?_;obtain⟨x,H1,I1,r1,q1⟩:=hz;refine thn (hb pins s1 σ H1 _ I1 q1) fun u s2 hz=>?_;obtain⟨y,H2,I2,r2,q2⟩:=hz;exact hf v u s2 x y H2 I2 r1 r2 q2
theorem Ir{op:Operator}{r:R2}(ho:OpR X (binaryOp op) r)(ha:PE X a ta)(hb:PE X b tb):PE X (.BinOp a op b pos) (tOp r ta tb):=by
 intro pins s σ H Q I h;exact wpAny_BinOp (Jv ha hb I h fun v u s2 x y H2 I2 rx ry q=>ho pins s2 σ H2 x y v u Q I2 rx ry q)
theorem Ip{op:UnaryOp}{r:V->Hp->VK->Prop}(ho:UnR X (unaryOp op) r)(ha:PE X a ta):PE X (.UnaryOp op a pos) (tUn r ta):=by
 intro pins s σ H Q I h;exact UnaryOp_ (thn (ha pins s σ H _ I h) fun v s1 ⟨x,H1,I1,r1,q1⟩=>ho pins s1 σ H1 x v Q I1 r1 q1)
theorem opI{f:Q6->Q6->Sem Q6}{C:Int->Int->Prop}{g:Int->Int->Int}
  (rule:∀(i j:Int) (t u:Tok) (s:QQ) (Q:Q6->QQ->Prop) (E:Q6->QQ->Prop),C i j->Q (.int (g i j) s.toks) { s with toks:=s.toks+1 }->wpAny (Qx X.prog X.w) X.A (f (.int i t) (.int j u)) Q E s) :
  OpR X f (rI C fun i j=>.int (g i j)):=by
 intro pins s σ H x y v u Q I rx ry h;obtain⟨i,j,rfl,rfl,hc,q⟩:=h;obtain⟨t,rfl⟩:=rx;obtain⟨t',rfl⟩:=ry;exact rule i j t t' s _ _ hc ⟨.int (g i j),H,I.tok _,⟨_,rfl⟩,q⟩
theorem JR{f:Q6->Q6->Sem Q6}{g:Int->Int->Int}
  (rule:∀(i j:Int) (t u:Tok) (s:QQ) (Q:Q6->QQ->Prop) (E:Q6->QQ->Prop),Q (.int (g i j) s.toks) { s with toks:=s.toks+1 }->wpAny (Qx X.prog X.w) X.A (f (.int i t) (.int j u)) Q E s) :
  OpR X f (rI0 fun i j=>.int (g i j)):=by
 intro pins s σ H x y v u Q I rx ry h;obtain⟨i,j,rfl,rfl,q⟩:=h;obtain⟨t,rfl⟩:=rx;obtain⟨t',rfl⟩:=ry;exact rule i j t t' s _ _ ⟨.int (g i j),H,I.tok _,⟨_,rfl⟩,q⟩
theorem IG{f:Q6->Q6->Sem Q6}{g:Int->Int->Bool}
  (rule:∀(i j:Int) (t u:Tok) (s:QQ) (Q:Q6->QQ->Prop) (E:Q6->QQ->Prop),Q (.bool (g i j)) s->wpAny (Qx X.prog X.w) X.A (f (.int i t) (.int j u)) Q E s) :
  OpR X f (rI0 fun i j=>.bl (g i j)):=by
 intro pins s σ H x y v u Q I rx ry h;obtain⟨i,j,rfl,rfl,q⟩:=h;obtain⟨t,rfl⟩:=rx;obtain⟨t',rfl⟩:=ry;exact rule i j t t' s _ _ ⟨.bl (g i j),H,I,rfl,q⟩
def Dk(i j:Int):Prop:=0<=j/\j<=1000000/\i.natAbs<2^64
def xJ(i j:Int):Prop:=(-(2^64)<i/\i<2^64)\/(-(2^64)<j/\j<2^64)
theorem xJ.ok{i j:Int}(h:xJ i j):IntMulOk i j:=by
 rcases h with⟨h1,h2⟩|⟨h1,h2⟩
 ·exact .of_left (intBits_le_64 h1 h2)
 ·exact .of_right (intBits_le_64 h1 h2)
theorem Fm:OpR X (binaryOp .Add) (rI0 fun i j=>.int (i+j)):=JR fun _ _ _ _ _ _ _ q=>add_int q
theorem mq:OpR X (binaryOp .Sub) (rI0 fun i j=>.int (i-j)):=JR fun _ _ _ _ _ _ _ q=>sub_int q
theorem gq:OpR X (binaryOp .Mult) (rI xJ fun i j=>.int (i*j)):=opI fun _ _ _ _ _ _ _ hc q=>mul_int q hc.ok
theorem rb:OpR X (binaryOp .Mod) (rI (fun _ j=>0<j) fun i j=>.int (i % j)):=opI fun i j _ _ _ _ _ hc q=>by
 have h1:(0:Int)<j:=hc;exact mod_int' (by omega) (by rw[Int.fmod_eq_emod_of_nonneg i (by omega)];exact q)
theorem Fg:OpR X (binaryOp .Pow) (rI Dk fun i j=>.int (i^j.toNat)):=opI fun _ _ _ _ _ _ _ hc q=>pow_int_small hc.1 hc.2.1 hc.2.2 q
theorem unI{f:Q6->Sem Q6}{g:Int->Int}
  (rule:∀(i:Int) (t:Tok) (s:QQ) (Q:Q6->QQ->Prop) (E:Q6->QQ->Prop),Q (.int (g i) s.toks) { s with toks:=s.toks+1 }->wpAny (Qx X.prog X.w) X.A (f (.int i t)) Q E s) :
  UnR X f (rU fun i=>.int (g i)):=by
 intro pins s σ H x v Q I rx h;obtain⟨i,rfl,q⟩:=h;obtain⟨t,rfl⟩:=rx;exact rule i t s _ _ ⟨.int (g i),H,I.tok _,⟨_,rfl⟩,q⟩
theorem Ag:UnR X (unaryOp .USub) (rU fun i=>.int (-i)):=unI fun _ _ _ _ _ q=>neg_int q
end
def HU:V->V->Bool
 |.non,.non=>true|.non,.int _=>true|.int _,.non=>true|.non,.bl _=>true|.bl _,.non=>true|.non,.str _=>true|.str _,.non=>true
 |.int _,.int _=>true|.bl _,.bl _=>true|.str _,.str _=>true|.byt _,.byt _=>true
 |.int _,.str _=>true|.str _,.int _=>true|.bl _,.str _=>true|.str _,.bl _=>true
 |_,_=>false
def rEq:R2:=fun x y H Q=>HU x y=true/\Q (.bl (decide (x=y))) H
def rNe:R2:=fun x y H Q=>HU x y=true/\Q (.bl (!decide (x=y))) H
theorem wW{i j:Int}:decide (V.int i=V.int j)=(i == j):=by
 rw[ZE];simp
theorem AO{i j:Bool}:decide (V.bl i=V.bl j)=(i == j):=by
 rw[ZE];simp
theorem wV{i j:Str}:decide (V.str i=V.str j)=(i == j):=by
 rw[ZE];simp
theorem wX{i j:Array UInt8}:decide (V.byt i=V.byt j)=(i.toList == j.toList):=by
 rw[ZE];cases i;cases j;simp
section
variable{X:Cx}{a b c:Qq}{ta tb tc:TE}{pos:Pos}
theorem bj{pins:List (Addr×Obj)}{σ:St}{H:Hp}{s:QQ}{Q:VK}{k k':Bool}(I:Inv X pins σ H s)(q:Q (.bl k) H)(e:k=k'):EP X pins σ Q (.bool k') s:=by
 subst e;exact⟨.bl k,H,I,rfl,q⟩
theorem ox:OpR X (compareOp .Eq) rEq:=by
 intro pins s σ H x y v u Q I rx ry h;obtain⟨hs,q⟩:=h;cases x with
 |non=>
  cases rx;cases y with
  |non=>cases ry;exact PySem.EqNone.eq_none_none (bj I q (by simp))
  |bl j=>cases ry;exact PySem.EqNone.eq_none_bool (bj I q (by simp))
  |int j=>obtain⟨t',rfl⟩:=ry;exact PySem.EqNone.eq_none_int (bj I q (by simp))
  |str j=>obtain⟨t',rfl⟩:=ry;exact PySem.EqNone.eq_none_str (bj I q (by simp))
  |_=>exact absurd (show false=true from hs) QC
 |bl i=>
  cases rx;cases y with
  |non=>cases ry;exact PySem.EqNone.eq_bool_none (bj I q (by simp))
  |bl j=>cases ry;exact eq_bool (bj I q AO)
  |str j=>obtain⟨t',rfl⟩:=ry;exact PySem.EqMixed.eq_bool_str (bj I q (by simp))
  |_=>exact absurd (show false=true from hs) QC
 |int i=>
  obtain⟨t,rfl⟩:=rx;cases y with
  |non=>cases ry;exact PySem.EqNone.eq_int_none (bj I q (by simp))
  |int j=>obtain⟨t',rfl⟩:=ry;exact eq_int (bj I q wW)
  |str j=>obtain⟨t',rfl⟩:=ry;exact PySem.EqMixed.eq_int_str (bj I q (by simp))
  |_=>exact absurd (show false=true from hs) QC
 |str i=>
  obtain⟨t,rfl⟩:=rx;cases y with
  |non=>cases ry;exact PySem.EqNone.eq_str_none (bj I q (by simp))
  |bl j=>cases ry;exact PySem.EqMixed.eq_str_bool (bj I q (by simp))
  |int j=>obtain⟨t',rfl⟩:=ry;exact PySem.EqMixed.eq_str_int (bj I q (by simp))
  |str j=>obtain⟨t',rfl⟩:=ry;exact eq_str (bj I q wV)
  |_=>exact absurd (show false=true from hs) QC
 |byt i=>
  obtain⟨t,rfl⟩:=rx;cases y with
  |byt j=>obtain⟨t',rfl⟩:=ry;exact PySem.W.eq_bytes (bj I q wX)
  |_=>exact absurd (show false=true from hs) QC
 |_=>cases y<;>exact absurd (show false=true from hs) QC
theorem jA:OpR X (compareOp .NotEq) rNe:=by
 intro pins s σ H x y v u Q I rx ry h;obtain⟨hs,q⟩:=h;cases x with
 |non=>
  cases rx;cases y with
  |non=>cases ry;exact PySem.EqNone.ne_none_none (bj I q (by simp))
  |bl j=>cases ry;exact PySem.EqNone.ne_none_bool (bj I q (by simp))
  |int j=>obtain⟨t',rfl⟩:=ry;exact PySem.EqNone.ne_none_int (bj I q (by simp))
  |str j=>obtain⟨t',rfl⟩:=ry;exact PySem.EqNone.ne_none_str (bj I q (by simp))
  |_=>exact absurd (show false=true from hs) QC
 |bl i=>
  cases rx;cases y with
  |non=>cases ry;exact PySem.EqNone.ne_bool_none (bj I q (by simp))
  |bl j=>cases ry;exact ne_bool (bj I q (congrArg not AO))
  |str j=>obtain⟨t',rfl⟩:=ry;exact PySem.EqMixed.ne_bool_str (bj I q (by simp))
  |_=>exact absurd (show false=true from hs) QC
 |int i=>
  obtain⟨t,rfl⟩:=rx;cases y with
  |non=>cases ry;exact PySem.EqNone.ne_int_none (bj I q (by simp))
  |int j=>obtain⟨t',rfl⟩:=ry;exact ne_int (bj I q (congrArg not wW))
  |str j=>obtain⟨t',rfl⟩:=ry;exact PySem.EqMixed.ne_int_str (bj I q (by simp))
  |_=>exact absurd (show false=true from hs) QC
 |str i=>
  obtain⟨t,rfl⟩:=rx;cases y with
  |non=>cases ry;exact PySem.EqNone.ne_str_none (bj I q (by simp))
  |bl j=>cases ry;exact PySem.EqMixed.ne_str_bool (bj I q (by simp))
  |int j=>obtain⟨t',rfl⟩:=ry;exact PySem.EqMixed.ne_str_int (bj I q (by simp))
  |str j=>obtain⟨t',rfl⟩:=ry;exact ne_str (bj I q (congrArg not wV))
  |_=>exact absurd (show false=true from hs) QC
 |byt i=>
  obtain⟨t,rfl⟩:=rx;cases y with
  |byt j=>obtain⟨t',rfl⟩:=ry;exact PySem.W.ne_bytes (bj I q (congrArg not wX))
  |_=>exact absurd (show false=true from hs) QC
 |_=>cases y<;>exact absurd (show false=true from hs) QC
theorem ni:OpR X (compareOp .Lt) (rI0 fun i j=>.bl (decide (i<j))):=IG fun _ _ _ _ _ _ _ q=>lt_int q
theorem Fj:OpR X (compareOp .LtE) (rI0 fun i j=>.bl (decide (i<=j))):=IG fun _ _ _ _ _ _ _ q=>le_int q
theorem IF:OpR X (compareOp .GtE) (rI0 fun i j=>.bl (decide (j<=i))):=IG fun _ _ _ _ _ _ _ q=>ge_int q
theorem OpR.or{f:Q6->Q6->Sem Q6}{r r':R2}(h:OpR X f r)(h':OpR X f r'):OpR X f (fun x y H Q=>r x y H Q\/r' x y H Q):=by
 intro pins s σ H x y v u Q I rx ry q;rcases q with q|q
 ·exact h pins s σ H x y v u Q I rx ry q
 ·exact h' pins s σ H x y v u Q I rx ry q
theorem a9(b:Qq){op:CmpOp}(h:op≠.In:=by decide)(h2:op≠.NotIn:=by decide):behindInMarks op b=false:=by
 have e1:(op == CmpOp.In)=false:=by cases op<;>first|rfl|exact absurd rfl h
 have e2:(op == CmpOp.NotIn)=false:=by cases op<;>first|rfl|exact absurd rfl h2
 cases b<;>simp[behindInMarks,e1,e2]
theorem Cg{op:CmpOp}{r:R2}(ho:OpR X (compareOp op) r)(ha:PE X a ta)(hb:PE X b tb)(hm:behindInMarks op b=false):PE X (.Compare a [op] [b] pos) (tOp r ta tb):=by
 intro pins s σ H Q I h;exact wpAny_Compare1 (Jv ha hb I h fun v u s2 x y H2 I2 rx ry q=>ho pins s2 σ H2 x y v u Q I2 rx ry q) hm
def yt(t:TE):TT:=fun σ H Q=>t σ H fun x H'=>∃k,x=.bl k/\Q k H'
theorem B3{op:CmpOp}{r:R2}(ho:OpR X (compareOp op) r)(ha:PE X a ta)(hb:PE X b tb)(hm:behindInMarks op b=false):PT X (.Compare a [op] [b] pos) (yt (tOp r ta tb)):=by
 intro pins s σ H Q I h;refine wpAny_isTrue_Compare1 (thn (ha pins s σ H _ I h) fun v s1 ⟨x,H1,I1,r1,q1⟩=>thn (hb pins s1 σ H1 _ I1 q1) fun u s2 ⟨y,H2,I2,r2,q2⟩=>
  thn (ho pins s2 σ H2 x y v u _ I2 r1 r2 q2) fun c s3 ⟨z,H3,I3,r3,k,e,q3⟩=>?_) hm
 subst e;cases r3;exact wpAny_truthy_bool ⟨H3,I3,q3⟩
def nR(r r':R2)(ta tb tc:TE):TE:=fun σ H Q=>ta σ H fun x H1=>tb σ H1 fun y H2=>r x y H2 fun z H3=>∃k,z=.bl k/\
 (if k=true then tc σ H3 fun w' H4=>r' y w' H4 Q else Q (.bl false) H3)
theorem yU{op op':CmpOp}{r r':R2}(ho:OpR X (compareOp op) r)(ho':OpR X (compareOp op') r')(ha:PE X a ta)(hb:PE X b tb)(hc:PE X c tc)
  (hm:lastMarks [op,op'] [b,c]=false:=by with_unfolding_all rfl):PE X (.Compare a [op,op'] [b,c] pos) (nR r r' ta tb tc):=by
 intro pins s σ H Q I h;refine Compare_chain (thn (ha pins s σ H _ I h) fun v s1 ⟨x,H1,I1,r1,q1⟩=>chain_link (thn (hb pins s1 σ H1 _ I1 q1) fun u s2 ⟨y,H2,I2,r2,q2⟩=>
  thn (ho pins s2 σ H2 x y v u _ I2 r1 r2 q2) fun d s3 ⟨z,H3,I3,r3,k,e,q3⟩=>?_)) hm
 subst e;cases r3;refine wpAny_truthy_bool ?_;cases k with
 |false=>exact ite_ff ⟨.bl false,H3,I3,rfl,q3⟩
 |true=>exact ite_tt (chain_last (thn (hc pins s3 σ H3 _ I3 q3) fun w' s4 ⟨z',H4,I4,r4,q4⟩=>ho' pins s4 σ H4 y z' u w' Q I4 r2 r4 q4))
theorem yL{op op':CmpOp}{r r':R2}(ho:OpR X (compareOp op) r)(ho':OpR X (compareOp op') r')(ha:PE X a ta)(hb:PE X b tb)(hc:PE X c tc)
  (hm:lastMarks [op,op'] [b,c]=false:=by with_unfolding_all rfl):PT X (.Compare a [op,op'] [b,c] pos) (yt (nR r r' ta tb tc)):=by
 intro pins s σ H Q I h;refine isTrue_chain (thn (ha pins s σ H _ I h) fun v s1 ⟨x,H1,I1,r1,q1⟩=>test_link (thn (hb pins s1 σ H1 _ I1 q1) fun u s2 ⟨y,H2,I2,r2,q2⟩=>
  thn (ho pins s2 σ H2 x y v u _ I2 r1 r2 q2) fun d s3 ⟨z,H3,I3,r3,k,e,q3⟩=>?_)) hm
 subst e;cases r3;refine wpAny_truthy_bool ?_;cases k with
 |false=>
  obtain⟨k',e',q'⟩:=q3;cases e';exact ite_ff ⟨H3,I3,q'⟩
 |true=>
  refine ite_tt (test_last (thn (hc pins s3 σ H3 _ I3 q3) fun w' s4 ⟨z',H4,I4,r4,q4⟩=>thn (ho' pins s4 σ H4 y z' u w' _ I4 r2 r4 q4) fun d' s5 hz=>?_));obtain⟨z2,H5,I5,r5,k2,e2,q5⟩:=hz;subst e2;cases r5;exact wpAny_truthy_bool ⟨H5,I5,q5⟩
theorem rm:(QN:Nat)<2^63:=by rw[sizeLine_eq];decide
theorem sP:OpR X (binaryOp .Add) (fun x y H Q=>∃i j,x=.str i/\y=.str j/\i.length+j.length<=QN/\Q (.str (i++j)) H):=by
 intro pins s σ H x y v u Q I rx ry h;obtain⟨i,j,rfl,rfl,hz,q⟩:=h;obtain⟨t,rfl⟩:=rx;obtain⟨t',rfl⟩:=ry;exact add_str (fun t' tk=>⟨.str (i++j),H,I.tok _,⟨_,rfl⟩,q⟩) hz
theorem f6{x:V}{us:List Q6}(r:bh [x] us):∃u,us=[u]/\bX x u:=by
 cases r with
 |cons r1 r2=>cases r2;exact⟨_,rfl,r1⟩
theorem pC{x y:V}{us:List Q6}(r:bh [x,y] us):∃u w',us=[u,w']/\bX x u/\bX y w':=by
 cases r with
 |cons r1 r2=>
  cases r2 with
  |cons r3 r4=>cases r4;exact⟨_,_,rfl,r1,r3⟩
theorem xk(hc:X.calm=true):cS X (.builtin "max") (fun xs H Q=>∃i j,xs=[.int i,.int j]/\Q (.int (if j>i then j else i)) H):=by
 intro pins s σ H xs us Q I r h;obtain⟨i,j,rfl,q⟩:=h;obtain⟨u,w',rfl,⟨t,rfl⟩,⟨t',rfl⟩⟩:=pC r;refine max_two_ints (I.ok.hd hc) fun h' tk k=>⟨_,H,I.kept k,?_,q⟩;by_cases hj:j>i
 ·rw[if_pos hj,if_pos hj];exact⟨_,rfl⟩
 ·rw[if_neg hj,if_neg hj];exact⟨_,rfl⟩
theorem xj(hc:X.calm=true):cS X (.builtin "min") (fun xs H Q=>∃i j,xs=[.int i,.int j]/\Q (.int (if j<i then j else i)) H):=by
 intro pins s σ H xs us Q I r h;obtain⟨i,j,rfl,q⟩:=h;obtain⟨u,w',rfl,⟨t,rfl⟩,⟨t',rfl⟩⟩:=pC r;refine min_two_ints (I.ok.hd hc) fun h' tk k=>⟨_,H,I.kept k,?_,q⟩;by_cases hj:j<i
 ·rw[if_pos hj,if_pos hj];exact⟨_,rfl⟩
 ·rw[if_neg hj,if_neg hj];exact⟨_,rfl⟩
theorem oS:cS X (.type "int") (fun xs H Q=>(∃i,xs=[.int i]/\Q (.int i) H)\/∃k,xs=[.bl k]/\Q (.int (if k then 1 else 0)) H):=by
 intro pins s σ H xs us Q I r h;rcases h with⟨i,rfl,q⟩|⟨k,rfl,q⟩
 ·obtain⟨u,rfl,t,rfl⟩:=f6 r;exact call_int_int ⟨.int i,H,I,⟨_,rfl⟩,q⟩
 ·obtain⟨u,rfl,r1⟩:=f6 r;cases r1;exact call_int_bool ⟨.int (if k then 1 else 0),H,I.tok _,⟨_,rfl⟩,q⟩
end
structure Jz(h:Heap)(x dx C:Addr)(mA:Str->Option Q6):Prop where
 obj:h.get? x=some (PySem.W.instObj C dx)
 ns:h.Ns1 dx mA
 ne:dx≠x
theorem v7{h:Heap}{dx:Addr}{mA:Str->Option Q6}(n:h.Ns1 dx mA):∃od,h.get? dx=some od/\∀name,PySem.W.lookIn name od=some (mA name):=by
 obtain⟨o,es,ep,ho,hd,hk,_,hm⟩:=n;refine⟨o,ho,fun name=>?_⟩;have e:=hm name;unfold nsFind findBy at e;rw[<-Array.find?_toList]at e;unfold PySem.W.lookIn;rw[hd];dsimp only;split
 ·rename_i y q;rw[q]at e;exact congrArg some e
 ·rename_i q;rw[q]at e;have a:es.toList.any (·.refKey)=false:=by
   rw[List.any_eq_false];intro y hy;obtain⟨z,t,hkey⟩:=hk y (Array.mem_toList_iff.mp hy);simp[DictEntry.refKey,hkey]
  have a':¬es.toList.any (·.refKey)=true:=by rw[a];exact QC
  rw[if_neg a'];exact congrArg some e
theorem Jz.look{h:Heap}{x dx C:Addr}{mA:Str->Option Q6}(I:Jz h x dx C mA):∃od,PySem.W.InstAt h x (PySem.W.instObj C dx) C (some od)/\∀name,PySem.W.lookIn name od=some (mA name):=
 let ⟨od,ho,hl⟩:=v7 I.ns
 ⟨od,⟨I.obj,rfl,rfl,ho⟩,hl⟩
theorem tR.some_of{v:V}{o:Option Q6}(r:tR (some v) o):∃u,o=some u/\bX v u:=by
 cases o with
 |none=>exact(show False from r).elim
 |some u=>exact⟨u,rfl,r⟩
section
variable{P:Qu}{w:Qm}{H:Hp}{h:Heap}{a C dx:Addr}{fs:List (Str×V)}
theorem CO(hok:HOk P w H h)(e:H a=some (.ins C dx fs)):∃mA,Jz h a dx C mA/\(∀f,tR (fs.lookup f) (mA f))/\PySem.Within mA (fs.map (·.1))/\fs.length<=1000/\H dx=some (.own a):=by
 obtain⟨d,z,ne,ob,mA,n,r,q⟩:=(show bR P w H h a (.ins C dx fs)from hok a _ e);exact⟨mA,⟨ob,n,ne⟩,r,q,z,d⟩
end
structure Cls(K:Q5)(C:Addr):Prop where
 pg:PySem.W.plainGet K C Str.empty=true
 hd:PySem.W.hasDictIn K C=true
 po:PySem.W.plainOver K C=true
 sa:PySem.W.findIn K (.ref C) "__setattr__"=some (some (.builtin "object.__setattr__"))
theorem Cls.get{K:Q5}{C:Addr}(c:Cls K C)(f:Str):PySem.W.plainGet K C f=true:=c.pg
section
variable{X:Cx}{pins:List (Addr×Obj)}{σ:St}{H:Hp}{s:QQ}{A:Z9}{E:Q6->QQ->Prop}{Q:Q6->QQ->Prop}{c:Q6}{b:Bool}
inductive se(K:Q5)(H:Hp):V->Q6->Prop where
 |non:se K H .non (.type "NoneType")
 |bl (x:Bool):se K H (.bl x) (.type "bool")
 |int (i:Int):se K H (.int i) (.type "int")
 |str (x:Str):se K H (.str x) (.type "str")
 |flt (x:UInt64):se K H (.flt x) (.type "float")
 |lst {a:Addr} {xs:List V} (e:H a=some (.lst xs)):se K H (.ref a) (.type "list")
 |frz {a:Addr} {o:Obj} {xs:List V} (e:H a=some (.frz o (.lst xs))):se K H (.ref a) (.type "list")
 |tup {a:Addr} {xs:List V} (e:H a=some (.tup xs)):se K H (.ref a) (.type "tuple")
 |dK {a:Addr} {kvs:List (Key×V)} (e:H a=some (.dK kvs)):se K H (.ref a) (.type "dict")
 |dT {a:Addr} {kvs:List (List Key×V)} (e:H a=some (.dT kvs)):se K H (.ref a) (.type "dict")
 | ins {a C dx:Addr} {fs:List (Str×V)} (e:H a=some (.ins C dx fs)) (cl:Cls K C) (ha:PySem.W.findIn K (.ref C) "__class__"=some (some (.builtin "object.__class__")))
   (hn:PySem.W.specialIn K (.builtin "object.__class__") "__get__"=some (some (.builtin "getset_descriptor.__get__"))) (htk:PySem.W.takesIn K (.builtin "object.__class__")=some true)
   (hm:PySem.W.mroIn K C (.type "object")=some true):se K H (.ref a) (.ref C)
theorem wo{x:V}{u t:Q6}(I:Inv X pins σ H s)(rx:bX x u)(ty:se X.K H x t)(e:PySem.W.kitOne X.K t c=some b)(h:∀tk,Q (.bool b) { s with toks:=tk }) :
  wpAny (Qx X.prog X.w) A (call (.builtin "isinstance") [u,c]) Q E s:=by
 cases ty with
 |non=>cases (show u=Value.none from rx);exact PySem.W.kia_one PySem.W.kitx_none I.kIn True.intro e (fun z=>nomatch z) h
 |bl y=>cases (show u=Value.bool y from rx);exact PySem.W.kia_one PySem.W.kitx_bool I.kIn True.intro e (fun z=>nomatch z) h
 |int i=>obtain⟨t,q⟩:=(show ∃t,u=Value.int i t from rx);cases q;exact PySem.W.kia_one PySem.W.kitx_int I.kIn True.intro e (fun z=>nomatch z) h
 |str y=>obtain⟨t,q⟩:=(show ∃t,u=Value.str y t from rx);cases q;exact PySem.W.kia_one PySem.W.kitx_str I.kIn True.intro e (fun z=>nomatch z) h
 |flt y=>obtain⟨t,q⟩:=(show ∃t,u=Value.float y t from rx);cases q;exact PySem.W.kia_one PySem.W.kitx_float I.kIn True.intro e (fun z=>nomatch z) h
 |@lst a xs ea=>
  cases (show u=Value.ref a from rx);obtain⟨_,_,n,_,h1⟩:=(show bR X.prog X.w H s.heap a (.lst xs)from I.hok a _ ea);exact PySem.W.kia_one PySem.W.kitx_list I.kIn ⟨_,h1,rfl⟩ e (fun z=>nomatch z) h
 |@frz a ob xs ea=>
  cases (show u=Value.ref a from rx);obtain⟨_,_,_,n,_,h1⟩:=(show bR X.prog X.w H s.heap a (.frz ob (.lst xs))from I.hok a _ ea);exact PySem.W.kia_one PySem.W.kitx_list I.kIn ⟨_,h1,rfl⟩ e (fun z=>nomatch z) h
 |@tup a xs ea=>
  cases (show u=Value.ref a from rx);obtain⟨_,_,_,p⟩:=(show bR X.prog X.w H s.heap a (.tup xs)from I.hok a _ ea);obtain⟨o,h1,h2,_⟩:=p;exact PySem.W.kia_one PySem.W.kitx_tuple I.kIn ⟨o,h1,h2.1⟩ e (fun z=>nomatch z) h
 |@dK a kvs ea=>
  cases (show u=Value.ref a from rx);obtain⟨_,_,vs,_,p⟩:=(show bR X.prog X.w H s.heap a (.dK kvs)from I.hok a _ ea);obtain⟨o,es,ep,h1,h2,_⟩:=p;exact PySem.W.kia_one PySem.W.kitx_dict I.kIn ⟨o,h1,h2.1⟩ e (fun z=>nomatch z) h
 |@dT a kvs ea=>
  cases (show u=Value.ref a from rx);obtain⟨_,_,xs,_,o,es,ep,h1,h2,_⟩:=(show bR X.prog X.w H s.heap a (.dT kvs)from I.hok a _ ea);exact PySem.W.kia_one PySem.W.kitx_dict I.kIn ⟨o,h1,h2.1⟩ e (fun z=>nomatch z) h
 |@ins a C dx fs ea cl ha hn htk hm=>
  cases (show u=Value.ref a from rx);obtain⟨mA,O,_⟩:=CO I.hok ea;obtain⟨od,J,_⟩:=O.look;exact PySem.W.kia_one (PySem.W.kitx_own (cl.get _) cl.hd ha hn htk hm) I.kIn J e (fun z=>nomatch z) h
end
structure lA(k:Nat)(A:Z9):Prop where
 hd:A.handled=none
 dp:A.depth+3*k+5<recursionLimit
 un:A.units+16*k+200<cLine
 gd:A.guards=some []
theorem lA.mono{j k:Nat}{A:Z9}(r:lA k A)(h:j<=k):lA j A:=⟨r.hd,by have:=r.dp;omega,by have:=r.un;omega,r.gd⟩
theorem lA.deeper{k:Nat}{A:Z9}(r:lA (k+1) A)(env:Env):lA k (A.deeper env):=
 ⟨r.hd,by have:=r.dp;show A.depth+1+3*k+5<_;omega,by have:=r.un;show A.units+3+16*k+200<_;omega,r.gd⟩
theorem lA.depth{k:Nat}{A:Z9}(r:lA k A):A.depth<recursionLimit:=by have:=r.dp;omega
theorem lA.units{k:Nat}{A:Z9}(r:lA k A):A.units+64<cLine:=by have:=r.un;omega
def HP:TA:=fun _ H Q=>Q [] H
def BH(ta:TE)(tr:TA):TA:=fun σ H Q=>ta σ H fun x H1=>tr σ H1 fun xs H2=>Q (x::xs) H2
section
variable{X:Cx}{e:Qq}{es:List Qq}{te:TE}{t:TA}{pos:Pos}
theorem Fb:PA X [] HP:=fun _ _ _ _ H Q I h=>Calls.spliced_nil ⟨[],H,I,.nil,h⟩
theorem Cm(ha:PE X e te)(hr:PA X es t)(hs:QR (e::es) X.env=(false,eval e X.env)::QR es X.env:=by rfl):PA X (e::es) (BH te t):=by
 intro pos pins s σ H Q I h;rw[hs];show wpAny _ _ (spliced ((false,eval e X.env)::ZD pos (QR es X.env))) _ _ s;refine Calls.spliced_cons (thn (ha pins s σ H _ I h) fun u s1 hz=>?_);obtain⟨x,H1,I1,r1,q1⟩:=hz;exact thn (hr pos pins s1 σ H1 _ I1 q1) fun us s2 ⟨xs,H2,I2,r2,q2⟩=>⟨x::xs,H2,I2,.cons r1 r2,q2⟩
def JD(t:TA):TE:=fun σ H Q=>t σ H fun xs H1=>xs.length<=QN/\∀p,H1 p=none->Q (.ref p) (upd H1 p (.tup xs))
def JJ(t:TA):TE:=fun σ H Q=>t σ H fun xs H1=>xs.length<=QN/\∀p,H1 p=none->Q (.ref p) (upd H1 p (.lst xs))
theorem EW{x1}(h:PA X es t):PE X (.Tuple es x1 pos) (JD t):=by
 intro pins s σ H Q I hq;refine wpAny_Tuple_spliced (thn (h pos pins s σ H _ I hq) fun us s1 ⟨xs,H1,I1,r,z,q⟩=>⟨by rw[<-r.length];exact z,?_⟩);have hf:H1 s1.heap.objs.size=none:=I1.hok.fresh (QJ _);refine⟨.ref s1.heap.objs.size,upd H1 s1.heap.objs.size (.tup xs),I1.laid (t':=s1.toks) (fun b u e=>Q4 _ e) (QJ _) ?_,rfl,q _ hf⟩;exact⟨z,us,r,⟨_,QV _ rfl,⟨rfl,rfl⟩,_,rfl⟩⟩
theorem E2(h:PA X es t):PE X (.List es pos) (JJ t):=by
 intro pins s σ H Q I hq;refine wpAny_List_spliced (thn (h pos pins s σ H _ I hq) fun us s1 ⟨xs,H1,I1,r,z,q⟩=>⟨by rw[<-r.length];exact z,?_⟩);have hf:H1 s1.heap.objs.size=none:=I1.hok.fresh (QJ _);refine⟨.ref s1.heap.objs.size,upd H1 s1.heap.objs.size (.lst xs),I1.laid (t':=s1.toks) (fun b u e=>Q4 _ e) (QJ _) ?_,rfl,q _ hf⟩;exact⟨z,us,0,r,QV _ rfl⟩
end
abbrev Sp:=List V->Hp->VK->XK->Prop
abbrev CXT:=List Env->Hp->QQ->XK->Q6->QQ->Prop
structure GN(P:Qu)(w:Qm)(K:Q5)(mg:Str->Option Q6)(base:Heap)(A:Z9)(outer:List Env)(s:QQ)(H:Hp):Prop where
 frames:A.frames=some outer
 mod:Mod K mg base
 bs:∀b o,base.get? b=some o->s.heap.get? b=some o/\H b=none
 bsz:base.objs.size<=s.heap.objs.size
 funs:s.heap.FunFrames base outer
 frf:∀b∈frs outer,H b=none
 hok:HOk P w H s.heap
 bare:AllBare s.gens
def CE(outer:List Env)(P:Qu)(w:Qm)(H:Hp)(s:QQ)(Q:VK)(u:Q6)(s':QQ):Prop:=
 ∃v H',s'.os=s.os/\AllBare s'.gens/\Un (frs outer) [] H H' s.heap s'.heap/\HOk P w H' s'.heap/\bX v u/\Q v H'
def CR(CX:CXT)(outer:List Env)(P:Qu)(w:Qm)(H:Hp)(s:QQ)(Q:VK)(E:XK)(r:Result)(s':QQ):Prop:=
 match r with
 |.ok (.ret u)=>CE outer P w H s Q u s'
 |.ok _=>False
 |.error e=>CX outer H s E e s'
structure pf(P:Qu)(w:Qm)(K:Q5)(mg:Str->Option Q6)(base:Heap)(CX:CXT)(k:Nat)(f:Addr)(fd:Zp)(ps:List Str)(sp:Sp):Prop where
 len:∀vs H Q E,sp vs H Q E->vs.length=ps.length
 run:∀(A:Z9) (outer:List Env) (s:QQ) (H:Hp) (args:Args) (us:List Q6) (vs:List V) (Q:VK) (E:XK),lA k A->GN P w K mg base A outer s H->BindsTo s fd args (ps.zip us)->bh vs us->sp vs H Q E->
  codeAny (Qx P w) A (.call (.ref f) args) (CR CX outer P w H s Q E) s
theorem pf.mono{P:Qu}{w:Qm}{K:Q5}{mg:Str->Option Q6}{base:Heap}{CX:CXT}{j k:Nat}{f:Addr}{fd:Zp}{ps:List Str}{sp:Sp}(F:pf P w K mg base CX j f fd ps sp)(h:j<=k) :
  pf P w K mg base CX k f fd ps sp:=⟨F.len,fun A outer s H args us vs Q E hr=>F.run A outer s H args us vs Q E (hr.mono h)⟩
section
variable{X:Cx}{pins:List (Addr×Obj)}{σ:St}{H:Hp}{s s':QQ}
theorem Inv.env0(I:Inv X pins σ H s):GN X.prog X.w X.K X.mg X.base X.A X.stack s H:=
 ⟨I.ok.frames,I.ok.mod,I.bs,Qo I.ok.bsz I.sz,I.stack,I.stkFree,I.hok,I.bare⟩
theorem Inv.after{Q:VK}{u:Q6}(I:Inv X pins σ H s)(h:CE X.stack X.prog X.w H s Q u s'):EP X pins σ Q u s':=by
 obtain⟨v,H',os,bare,un,hok,r,q⟩:=h;obtain⟨hh,g,d,t,os'⟩:=s';obtain rfl:os'=s.os:=os;exact⟨v,H',I.call (h':=hh) (g':=g) (d':=d) (t':=t) (ch:=[]) un hok bare (fun b z=>absurd z (by simp)),r,q⟩
end
def Eo(sp:Sp)(dvs:List V)(E:XK)(t:TA):TE:=fun σ H Q=>t σ H fun vs H1=>sp (vs++dvs) H1 Q E
def qu(K:Q5)(fd:Zp)(ps:List Str)(ds:List Q6):Prop:=
 ∀(s:QQ) (us:List Q6),K.In s.heap->(us++ds).length=ps.length->BindsTo s fd ⟨us,[]⟩ (ps.zip (us++ds))
theorem qu.all{K:Q5}{fd:Zp}{ps:List Str}(h:∀us:List Q6,us.length=ps.length->bindArgs fd ⟨us,[]⟩=pure (ps.zip us)):qu K fd ps []:=fun s us _ hl=>by
 rw[Qd]at hl ⊢;exact .of_eq (h us hl)
def xG(CX:CXT)(X:Cx)(E:XK):Prop:=∀(pins:List (Addr×Obj)) (σ:St) (H:Hp) (s:QQ) (e:Q6) (s':QQ),Inv X pins σ H s->CX X.stack H s E e s'->X.xe e s'
section
variable{X:Cx}{CX:CXT}{k:Nat}{f:Addr}{fd:Zp}{ps:List Str}{sp:Sp}{dvs:List V}{ds:List Q6}{E:XK}{x:Str}{p pos:Pos}{e:Qq}{es:List Qq}{t:TA}
theorem Ey{pins:List (Addr×Obj)}{σ:St}{H:Hp}{s:QQ}{Q:VK}{us:List Q6}{vs:List V}(F:pf X.prog X.w X.K X.mg X.base CX k f fd ps sp)(hr:lA k X.A)(hb:qu X.K fd ps ds)(hd:bh dvs ds)(hx:xG CX X E)
  (I:Inv X pins σ H s) (r:bh vs us) (h:sp (vs++dvs) H Q E):wpAny (Qx X.prog X.w) X.A (call (.ref f) us) (EP X pins σ Q) X.xe s:=by
 have r2:bh (vs++dvs) (us++ds):=r.append hd;have hl:(us++ds).length=ps.length:=by rw[<-r2.length];exact F.len _ _ _ _ h
 refine wpAny_call (codeAny_mono (F.run X.A X.stack s H ⟨us,[]⟩ (us++ds) (vs++dvs) Q E hr I.env0 (hb s us I.kIn hl) r2 h) fun r s' hq=>?_);cases r with
 |error e=>exact hx pins σ H s e s' I hq
 |ok fl=>
  cases fl with
  |ret u=>exact I.after hq
  |next=>exact False.elim hq
  |brk=>exact False.elim hq
  |cont=>exact False.elim hq
theorem Ci(F:pf X.prog X.w X.K X.mg X.base CX k f fd ps sp)(hr:lA k X.A)(hg:Gl X x)(hm:X.mg x=some (.ref f))(hk:PySem.W.keepIn X.K (.ref f)=true)(hb:qu X.K fd ps ds)(hd:bh dvs ds)(hx:xG CX X E)
  (ha:PA X (e::es) t) (hdb:(x == ("__debug__":Str))=false:=by decide) (he:QR (e::es) X.env=(false,eval e X.env)::QR es X.env:=by rfl) (hpl:(ZD pos (QR es X.env)).any (·.1)=false:=by rfl) :
  PE X (.Call (.Name x p) (e::es) [] pos) (Eo sp dvs E t):=by
 intro pins s σ H Q I h;refine wpAny_Call_Name_kw (wc I hg hm ?_ hdb);refine PySem.W.callWith_K (h₀:=X.base) I.ok.mod.kin hk (thn (ha pos pins s σ H _ I h) fun us s1 ⟨vs,H1,I1,r,q⟩=>⟨I1.kIn,?_⟩) he hpl;exact Ey F hr hb hd hx I1 r q
end
structure a5(N P:List Str)(sc:X2):Prop where
 kind:sc.kind=.function
 co:sc.isCoroutine=false
 gen:sc.isGenerator=false
 nd:N.Nodup
 pre:N.take P.length=P
 par:∀x∈P,sc.names.lookup x=some .local\/sc.names.lookup x=some .cell
 nofree:∀y∈sc.names,y.2≠.free
theorem oU{kindOf:Str->Option NameKind}{x:Str}:∀{binds:List (Str×Q6)} {m:Str->Option Q6},(∀v,(x,v)∉binds)->bindL kindOf binds m x=m x
 |[],_,_=>rfl
 |(n,v)::r,m,h=>by
  unfold bindL;rw[oU fun w hw=>h w (QU _ hw)];split
  ·have:x≠n:=by rintro rfl;exact h v QY
   simp[this]
  ·rfl
theorem oW{kindOf:Str->Option NameKind}{x:Str}:∀{binds:List (Str×Q6)} {m:Str->Option Q6},(∀v,(x,v)∉binds)->bindC kindOf binds m x=m x
 |[],_,_=>rfl
 |(n,v)::r,m,h=>by
  unfold bindC;rw[oW fun w hw=>h w (QU _ hw)];split
  ·rfl
  ·have:x≠n:=by rintro rfl;exact h v QY
   simp[this]
theorem oV{kindOf:Str->Option NameKind}{x:Str}{v:Q6}:∀{P:List Str} {vs:List Q6} {i:Nat} {m:Str->Option Q6},P.Nodup->P[i]?=some x->vs[i]?=some v->kindOf x=some .local->
  bindL kindOf (P.zip vs) m x=some v
 |[],_,_,_,_,h,_,_=>by simp at h
 |_::_,[],_,_,_,_,h,_=>by simp at h
 |p::P,w::vs,0,m,nd,h1,h2,hk=>by
  simp at h1 h2;subst h1;subst h2;show bindL kindOf ((p,w)::P.zip vs) m p=_;unfold bindL;rw[oU fun v hv=>(ZS.mp nd).1 (List.of_mem_zip hv).1,if_pos hk];simp
 |p::P,w::vs,i+1,m,nd,h1,h2,hk=>by
  show bindL kindOf ((p,w)::P.zip vs) m x=_;unfold bindL;exact oV (i:=i) (ZS.mp nd).2 (by simpa using h1) (by simpa using h2) hk
theorem oX{kindOf:Str->Option NameKind}{x:Str}{v:Q6}:∀{P:List Str} {vs:List Q6} {i:Nat} {m:Str->Option Q6},P.Nodup->P[i]?=some x->vs[i]?=some v->kindOf x≠some .local->
  bindC kindOf (P.zip vs) m x=some v
 |[],_,_,_,_,h,_,_=>by simp at h
 |_::_,[],_,_,_,_,h,_=>by simp at h
 |p::P,w::vs,0,m,nd,h1,h2,hk=>by
  simp at h1 h2;subst h1;subst h2;show bindC kindOf ((p,w)::P.zip vs) m p=_;unfold bindC;rw[oW fun v hv=>(ZS.mp nd).1 (List.of_mem_zip hv).1,if_neg hk];simp
 |p::P,w::vs,i+1,m,nd,h1,h2,hk=>by
  show bindC kindOf ((p,w)::P.zip vs) m x=_;unfold bindC;exact oX (i:=i) (ZS.mp nd).2 (by simpa using h1) (by simpa using h2) hk
def g9(N:List Str)(vs:List V):St:=vs.map some++Qr (N.length-vs.length) none
def xN(CX:CXT)(P:Qu)(w:Qm)(K:Q5)(mg:Str->Option Q6)(base:Heap)(N:List Str)(qual:Str)(scope:X2)(f:Addr)(cd:Q6)(A:Z9)(outer:List Env)(s:QQ)(H:Hp)(E:XK):Cx where
 prog:=P
 w:=w
 K:=K
 mg:=mg
 base:=base
 A:=A.deeper (envOfC qual scope s.heap.objs.size f cd)
 N:=N
 s₀:=s
 H₀:=H
 env:=envOfC qual scope s.heap.objs.size f cd
 outer:=outer
 stack:=envOfC qual scope s.heap.objs.size f cd::outer
 ex:=[]
 calm:=true
 fn:=fun _=>true
 pn:=[]
 xe:=fun e s'=>wpAny (Qx P w) (A.deeper (envOfC qual scope s.heap.objs.size f cd)) (leaving (envOfC qual scope s.heap.objs.size f cd) e) (fun _ s''=>CX outer H s E e s'') (fun e' s''=>CX outer H s E e' s'') s'
theorem rS{sc:X2}{n:Nat}{x:Str}(h:sc.names.lookup x=some .cell):∃c,(cellsFrom n sc.names []).lookup x=some c:=by
 have q:=PySem.W.cellsFrom_some sc.names n [] (.inl h);exact Option.isSome_iff_exists.mp q
theorem wx{CX:CXT}{P:Qu}{w:Qm}{K:Q5}{mg:Str->Option Q6}{base:Heap}{N ps:List Str}{qual:Str}{scope:X2}{f:Addr}{cd:Q6}{A:Z9}{outer:List Env}{s s1:QQ}{H:Hp}{E:XK}{us:List Q6}{vs:List V}
  (S:a5 N ps scope) (hd:A.handled=none) (e0:GN P w K mg base A outer s H) (hl:vs.length=ps.length) (r:bh vs us)
  (x:InCallC s s.heap.objs.size (bindL (envOfC qual scope s.heap.objs.size f cd).kindOf (ps.zip us) fun _=>none) (cellsFrom (s.heap.objs.size+1) scope.names []) (bindC (envOfC qual scope s.heap.objs.size f cd).kindOf (ps.zip us) fun _=>none) s1) :
  Inv (xN CX P w K mg base N qual scope f cd A outer s H E) [] (g9 N vs) H s1:=by
 have hpl:ps.length<=N.length:=by have:=congrArg List.length S.pre;rw[ZP]at this;omega
 obtain⟨h1,tk,rfl,hk⟩:=x.done;have noA:∀b:Addr,b∉(xN CX P w K mg base N qual scope f cd A outer s H E).ex:=fun b z=>absurd (show b∈([]:List Addr)from z) (by simp);refine⟨⟨e0.mod,S.kind,rfl,rfl,QJ _,fun y z c h1 h2=>?_,fun y hy=>?_,fun y c _ h=>?_,fun _=>hd,Around.frames_deeper e0.frames,.inr ⟨rfl,rfl⟩,fun b z=>absurd z (noA b),e0.bs,e0.bsz,fun b _ _=>noA b,fun b z=>absurd z (noA b),e0.funs,e0.frf⟩,
  rfl,e0.bare,Un.kept hk,⟨_,x.toInCall.ns,fun i y v h1 h2 h3=>?_⟩,fun y c h=>⟨_,x.cell y c h⟩,e0.hok.fresh (QJ _),fun y c h=>?_,fun p hp=>absurd (show p∈([]:List (Addr×Obj))from hp) (by simp),e0.hok.kept hk,?_⟩
 ·exact name_of_addr x.apart (PySem.mem_of_lookup h1) (PySem.mem_of_lookup h2)
 ·have hy:scope.names.lookup y=some .cell\/scope.names.lookup y=some .free:=hy;rcases hy with hy|hy
  ·exact rS hy
  ·exact absurd rfl (S.nofree _ (PySem.mem_of_lookup hy))
 ·exact Nat.le_of_lt (x.above y c (PySem.mem_of_lookup h))
 ·have hi:i<vs.length:=by
   unfold g9 at h2;by_cases hi:i<vs.length
   ·exact hi
   ·rw[Qw (by simpa using hi)]at h2;rw[Zn]at h2;split at h2<;>cases h2
  have ha:vs[i]?=some v:=by
   unfold g9 at h2;rw[Qv (by simpa using hi),Qn]at h2;cases e:vs[i]? with
   |none=>rw[e]at h2;cases h2
   |some a=>rw[e]at h2;cases h2;rfl
  obtain⟨u,hu,rv⟩:=r.get ha;have hp:ps[i]?=some y:=by
   rw[<-S.pre,List.getElem?_take_of_lt (by omega)];exact h1
  have ndP:ps.Nodup:=by rw[<-S.pre];exact S.nd.sublist (List.take_sublist _ _)
  refine⟨u,rv,?_⟩;rcases S.par y (Zf hp)with k|k
  ·exact .inl ⟨k,oV ndP hp hu k⟩
  ·obtain⟨c,e⟩:=rS (n:=s.heap.objs.size+1) k;refine .inr ⟨.inl k,c,e,?_⟩;have q:=x.cell y c e;rw[oX ndP hp hu (by show scope.names.lookup y≠_;rw[k];decide)]at q;exact q
 ·exact e0.hok.fresh (Nat.le_of_lt (x.above y c (PySem.mem_of_lookup h)))
 ·unfold g9;show _=N.length;rw[Qz,QZ,List.length_replicate];omega
theorem Jj{CX:CXT}{P:Qu}{w:Qm}{K:Q5}{mg:Str->Option Q6}{base:Heap}{k:Nat}{f:Addr}{name qual:Str}{params:Arguments}{body:List ZR}{scope:X2}{dV kV doc pm cdv ct oc:Q6}{an od:Option Addr}
  {osl:Array (Option Q6)} {N ps:List Str} {sp:Sp} (lk:K.lookup f=some ⟨oc,od,.func (PySem.W.fnOf name qual params body scope dV kV doc pm an cdv ct),osl⟩) (hcd:PySem.W.codeIn K cdv qual=true) (S:a5 N ps scope)
  (len:∀vs H Q E,sp vs H Q E->vs.length=ps.length)
  (hbody:∀(A:Z9) (outer:List Env) (s:QQ) (H:Hp) (vs:List V) (Q:VK) (E:XK),lA k (A.deeper (envOfC qual scope s.heap.objs.size f cdv))->sp vs H Q E->
   ∃t,PSs (xN CX P w K mg base N qual scope f cdv A outer s H E) body t/\t { nx:=fun _ H'=>Q .non H',rt:=Q } (g9 N vs) H) :
  pf P w K mg base CX (k+1) f (PySem.W.fnOf name qual params body scope dV kV doc pm an cdv ct) ps sp:=by
 refine⟨len,fun A outer s H args us vs Q E hr e0 hb r hsp=>?_⟩;have hl:=len _ _ _ _ hsp;have KX:K.In s.heap:=e0.mod.kin.keeps fun b o e=>(e0.bs b o e).1;have lim:s.heap.NoLimit:=e0.mod.nolimit.keeps fun b o e=>(e0.bs b o e).1;have hkind:∀y∈ps.zip us,scope.names.lookup y.1=some .local\/(scope.names.lookup y.1=some .cell/\((cellsFrom (s.heap.objs.size+1) scope.names []).lookup y.1).isSome=true):=fun⟨n,v⟩ hy=>by
  rcases S.par n (List.of_mem_zip hy).1 with q|q
  ·exact .inl q
  ·exact .inr ⟨q,PySem.W.cellsFrom_some _ _ _ (.inl q)⟩
 refine codeAny_call_function hr.depth (KX _ _ lk) rfl S.co S.gen rfl (PySem.W.codeRec_of KX hcd) (hb _ _ _ _ ?_);refine wpAny_newFunctionEnv_cells S.kind hkind fun env he s1 x=>?_;subst he;refine⟨lim.keeps x.toInCall.keep,codeAny_func ?_⟩;obtain⟨t,ht,hq⟩:=hbody A outer s H vs Q E (hr.deeper _) hsp;have I:Inv (xN CX P w K mg base N qual scope f cdv A outer s H E) [] (g9 N vs) H s1:=wx S hr.hd e0 hl r x;refine ZG (ht [] s1 (g9 N vs) H _ I hq) (fun fl s' hs=>?_) fun e s' hs=>hs;have fin:∀{σ':St} {H':Hp} {v:V} {u:Q6},Inv (xN CX P w K mg base N qual scope f cdv A outer s H E) [] σ' H' s'->bX v u->Q v H'->CE outer P w H s Q u s':=
  fun{σ' H' v u} J rv q=>⟨v,H',J.os,J.bare,J.base,J.hok,rv,q⟩
 cases fl with
 |ret u=>
  obtain⟨v,σ',H',J,rv,q⟩:=hs;exact fin J rv q
 |next=>
  obtain⟨σ',H',J,q⟩:=hs;exact fin (v:=V.non) (u:=Value.none) J rfl q
 |brk=>
  obtain⟨_,_,_,q⟩:=hs;exact False.elim q
 |cont=>
  obtain⟨_,_,_,q⟩:=hs;exact False.elim q
section
variable{X:Cx}{x:Str}{p pos:Pos}{e:Qq}{es:List Qq}{t:TA}{id T:String}{r:List V->Hp->VK->Prop}
def tCB(r:List V->Hp->VK->Prop)(t:TA):TE:=fun σ H Q=>t σ H fun vs H1=>r vs H1 Q
theorem yV(hc:cS X (.builtin id) r)(hg:Gl X x)(hm:X.mg x=none)(hv:Z7 x=some (.builtin id))(ha:PA X (e::es) t)(hn:x≠"__name__":=by decide)(hdb:(x == ("__debug__":Str))=false:=by decide)
  (he:QR (e::es) X.env=(false,eval e X.env)::QR es X.env:=by rfl) (hpl:(ZD pos (QR es X.env)).any (·.1)=false:=by rfl):PE X (.Call (.Name x p) (e::es) [] pos) (tCB r t):=by
 intro pins s σ H Q I h;refine wpAny_Call_Name_kw (jy I hg hm hv ?_ hn hdb);exact PyProof.Rows.callWith_builtin1 (thn (ha pos pins s σ H _ I h) fun us s1 ⟨vs,H1,I1,r1,q1⟩=>hc pins s1 σ H1 vs us Q I1 r1 q1) he hpl
theorem vC(hc:cS X (.type T) r)(hg:Gl X x)(hm:X.mg x=none)(hv:Z7 x=some (.type T))(ha:PA X (e::es) t)(hn:x≠"__name__":=by decide)(hdb:(x == ("__debug__":Str))=false:=by decide)
  (he:QR (e::es) X.env=(false,eval e X.env)::QR es X.env:=by rfl) (hpl:(ZD pos (QR es X.env)).any (·.1)=false:=by rfl):PE X (.Call (.Name x p) (e::es) [] pos) (tCB r t):=by
 intro pins s σ H Q I h;refine wpAny_Call_Name_kw (jy I hg hm hv ?_ hn hdb);exact PyProof.Rows.callWith_type1 (thn (ha pos pins s σ H _ I h) fun us s1 ⟨vs,H1,I1,r1,q1⟩=>hc pins s1 σ H1 vs us Q I1 r1 q1) he hpl
end
end L2
namespace HT
open PySem PyProof.Rows
section
variable{prog:Qu}{w:Qm}{A:Z9}{E:Q6->QQ->Prop}{s:QQ}
theorem cat_tup{t b:Addr}{vs ws:List Q6}{Q:Q6->QQ->Prop}(ht:IsTup s.heap t vs.toArray)(hb:IsTup s.heap b ws.toArray)(hv:vs≠[])
  (h1:ws=[]->Q (.ref t) s) (h2:ws≠[]->Q (.ref s.heap.objs.size) { s with heap:=s.heap.push { cls:=.type "tuple",data:=.seq (vs++ws).toArray } })
  (hsz:vs.length+ws.length<=QN):wpAny (Qx prog w) A (binaryOp .Add (.ref t) (.ref b)) Q E s:=by
 obtain⟨⟨cls,dd,data,sl⟩,ho,hc,n,hd⟩:=id ht;obtain⟨⟨cls2,dd2,data2,sl2⟩,ho2,hc2,n2,hd2⟩:=id hb;simp only at hc hd hc2 hd2;subst hc hd hc2 hd2;have e:vs.toArray++ws.toArray=(vs++ws).toArray:=by simp
 by_cases hw:ws=[]
 ·exact concat_meets ⟨_,ho,rfl⟩ ⟨_,ho2,rfl⟩ noFill_tuple_add seq_tuple_add PySem.F.slot_tuple_add PySem.F.entry_tuple_add (PySem.F.args_tuple_add_2 _ _)
   (tuple_addW1 t b vs.toArray ws.toArray n n2 dd dd2 sl sl2 (by simpa using hv) (by simp[hw])) ⟨ho,ho2,h1 hw⟩
 ·refine concat_meets ⟨_,ho,rfl⟩ ⟨_,ho2,rfl⟩ noFill_tuple_add seq_tuple_add PySem.F.slot_tuple_add PySem.F.entry_tuple_add (PySem.F.args_tuple_add_2 _ _)
   (tuple_addW2 t b vs.toArray ws.toArray n n2 dd dd2 sl sl2 (by simpa using hv) (by simpa using hw) (by rw[QM,QM];exact hsz)) ⟨ho,ho2,?_⟩
  rw[e];exact h2 hw
def sIx(n d:Nat):Option Int->Nat
 |none=>d
 |some v=>if v<0 then(v+(n:Int)).toNat else min v.toNat n
theorem sIx_none(n d:Nat):sIx n d none=d:=rfl
theorem sIx_nat(n d k:Nat):sIx n d (some (k:Int))=min k n:=by
 show(if (k:Int)<0 then((k:Int)+(n:Int)).toNat else min (k:Int).toNat n)=min k n;rw[if_neg (by omega),Zv]
theorem Ew(n d:Nat)(hd:d<=n)(o:Option Int):sIx n d o<=n:=by
 cases o with
 |none=>exact hd
 |some v=>
  show(if v<0 then(v+(n:Int)).toNat else min v.toNat n)<=n;by_cases hv:v<0
  ·rw[if_pos hv];omega
  ·rw[if_neg hv];exact Nat.min_le_right _ _
theorem xi(v:Int)(n d:Nat):(if v<0 then max (v+(n:Int)) 0 else min v (n:Int))=((sIx n d (some v):Nat):Int):=by
 show(if v<0 then max (v+(n:Int)) 0 else min v (n:Int))=(((if v<0 then(v+(n:Int)).toNat else min v.toNat n):Nat):Int);by_cases hv:v<0
 ·simp only[if_pos hv];omega
 ·simp only[if_neg hv];omega
theorem tL(lo hi:Option Int)(n:Nat):Builtin.Slice.sliceAdjust lo hi 1 (n:Int)=(((sIx n 0 lo:Nat):Int),((sIx n n hi:Nat):Int)):=by
 have h1:¬((1:Int)<0):=by omega
 unfold Builtin.Slice.sliceAdjust;simp only[h1,if_false];refine Prod.ext ?_ ?_
 ·cases lo with
  |none=>rfl
  |some v=>exact xi v n 0
 ·cases hi with
  |none=>rfl
  |some v=>exact xi v n n
theorem sJ(i j:Nat):Builtin.Slice.slicePlaces (i:Int) (j:Int) 1=j-i:=by
 unfold Builtin.Slice.slicePlaces;have h1:(1:Int)>0:=by omega
 simp only[h1,if_true,Int.ediv_one];split<;>omega
theorem lV{v:Q6}{o:Option Int}{Q:Option Int->QQ->Prop}(p:IsPart v o)(h:Q o s):wpAny (Qx prog w) A (Builtin.Slice.slicePartIndex v) Q E s:=by
 cases p with
 |none=>exact slicePart_none h
 |int i t=>exact slicePart_int h
theorem fq{sl:Addr}{vl vu:Q6}{lo hi:Option Int}{n:Nat}{Q:Int×Int×Nat->QQ->Prop}(hs:s.heap.IsSliceOf sl vl vu .none)(pl:IsPart vl lo)(pu:IsPart vu hi)
  (h:Q (((sIx n 0 lo:Nat):Int),1,sIx n n hi-sIx n 0 lo) s):wpAny (Qx prog w) A (Builtin.Slice.sliceApplied (.ref sl) (pure (n:Int))) Q E s:=by
 obtain⟨os,hos,hcs,hds⟩:=id hs;unfold Builtin.Slice.sliceApplied Builtin.Slice.sliceFields;refine Q2 (Q2 (ZJ hos hds (x:=vl) rfl (Q2 (ZJ hos hds (x:=vu) rfl (Q2 (ZJ hos hds (x:=.none) rfl (Q8 ?_)))))));refine Q2 (slicePart_none ?_);show wpAny _ _ (if ((1:Int) == 0)=true then _ else _) _ _ s;rw[if_neg (by decide)];refine Q2 (lV pl (Q2 (lV pu (Q2 (Q8 ?_)))));show wpAny _ _ (match Builtin.Slice.sliceAdjust lo hi 1 (n:Int)with|(lo,hi)=>pure (lo,(1:Int),Builtin.Slice.slicePlaces lo hi 1)) _ _ s;rw[tL lo hi n];show wpAny _ _ (pure (((sIx n 0 lo:Nat):Int),(1:Int),Builtin.Slice.slicePlaces ((sIx n 0 lo:Nat):Int) ((sIx n n hi:Nat):Int) 1)) _ _ s;rw[sJ];exact Q8 h
theorem yP(xs:Array Q6)(i k:Nat):((Qe k).filterMap fun(m:Nat)=>xs[((i:Int)+(m:Int)*1).toNat]?).toArray=((xs.toList.drop i).take k).toArray:=by
 have e:(fun(m:Nat)=>xs[((i:Int)+(m:Int)*1).toNat]?)=fun m=>xs[i+m]?:=by
  funext m;have:((i:Int)+(m:Int)*1).toNat=i+m:=by omega
  rw[this]
 rw[e];have:=pick_run xs i k;rw[List.filterMap_map]at this;have e2:((fun x=>xs[x]?) ∘ fun x=>i+x)=fun m=>xs[i+m]?:=rfl;rw[e2]at this;rw[this]
theorem getItem_tuple_cut{t sl:Addr}{items:Array Q6}{vl vu:Q6}{lo hi:Option Int}{Q:Q6->QQ->Prop}(ht:IsTup s.heap t items)(hs:s.heap.IsSliceOf sl vl vu .none)(pl:IsPart vl lo)(pu:IsPart vu hi)
  (hw:¬(sIx items.size 0 lo=0/\sIx items.size items.size hi=items.size))
  (h:Q (.ref s.heap.objs.size) { s with heap:=s.heap.push { cls:=.type "tuple",data:=.seq ((items.toList.drop (sIx items.size 0 lo)).take (sIx items.size items.size hi-sIx items.size 0 lo)).toArray } })
  (hsz:items.size<=QN):wpAny (Qx prog w) A (getItem (.ref t) (.ref sl)) Q E s:=by
 have htake:sizeOk (.seq ((items.toList.drop (sIx items.size 0 lo)).take (sIx items.size items.size hi-sIx items.size 0 lo)).toArray):=by
  show((items.toList.drop (sIx items.size 0 lo)).take (sIx items.size items.size hi-sIx items.size 0 lo)).toArray.size<=QN;rw[QM,ZP,List.length_drop,QF];omega
 have hj:sIx items.size items.size hi<=items.size:=Ew _ _ (QJ _) hi;obtain⟨os,hos,hcs,hds⟩:=id hs;have hTs:s.TypeIs (.ref sl) "slice":=⟨os,hos,hcs⟩;unfold getItem;try with_reducible refine wpAny_holding ?_
 first|refine Q2 (Q8 ?_)|skip
 refine Q2 (wpAny_sequenceKey ht.typeIs (by decide) ?_);refine Q2 (wpAny_callSpecial?_slot (name:=Str.ofString "__getitem__") ht.typeIs PyProof.Rows.slot_tuple_getitem
  (wpAny_call_entry PyProof.Rows.slot_tuple_getitem ht.typeIs entry_tuple_getitem ?_ (args_tuple_getitem _ _)))
 show wpAny _ _ (Builtin.Tuple.tupleItemsOf (.ref t) >>= _) _ _ s;refine Q2 (tupleItemsOf_ ht ?_);refine Q2 (wpAny_typeOf hTs ?_);rw[if_pos (by decide)];refine Q2 (fq hs pl pu ?_);have hno:¬((((sIx items.size 0 lo:Nat):Int) == 0&&(1:Int) == 1&&(sIx items.size items.size hi-sIx items.size 0 lo) == items.size)=true):=by
  intro q;rw[Z0,Z0]at q;have q1:((sIx items.size 0 lo:Nat):Int)=0:=eq_of_beq q.1.1;have q2:sIx items.size items.size hi-sIx items.size 0 lo=items.size:=eq_of_beq q.2;exact hw ⟨by omega,by omega⟩
 show wpAny _ _ (if (((sIx items.size 0 lo:Nat):Int) == 0&&(1:Int) == 1&&(sIx items.size items.size hi-sIx items.size 0 lo) == items.size)=true then _ else _) _ _ s;rw[if_neg hno,yP];first
  |exact Q2 (m:=Builtin.Tuple.tupleExact _) (wpAny_newObj_type (Q8 ⟨_,rfl,Q8 h⟩) htake)
  |exact Q2 (m:=Builtin.Tuple.tupleExact _) (wpAny_newObj_type (Q2 (Q8 (Q8 ⟨_,rfl,Q8 h⟩))) htake)
  |exact Q2 (Q2 (m:=Builtin.Tuple.tupleExact _) (wpAny_newObj_type (Q8 (Q8 ⟨_,rfl,Q8 h⟩)) htake))
  |exact Q2 (Q2 (m:=Builtin.Tuple.tupleExact _) (wpAny_newObj_type (Q8 ⟨_,rfl,Q8 h⟩) htake))
end
end HT
namespace L2
open PySem PySem.Spec PyProof.Rows
abbrev TO:=St->Hp->(Option Int->Hp->Prop)->Prop
def PO(X:Cx)(e:Option Qq)(t:TO):Prop:=
 ∀(pins:List (Addr×Obj)) (s:QQ) (σ:St) (H:Hp) (Q:Option Int->Hp->Prop),Inv X pins σ H s->t σ H Q->
  wpAny (Qx X.prog X.w) X.A (evalPart e X.env) (fun u s'=>∃o H',Inv X pins σ H' s'/\IsPart u o/\Q o H') X.xe s
def uJ:TO:=fun _ H Q=>Q none H
def Ei(t:TE):TO:=fun σ H Q=>t σ H fun x H1=>∃i,x=.int i/\Q (some i) H1
section
variable{X:Cx}{e:Qq}{te:TE}{lo hi:Option Qq}{tl th:TO}{pos p2:Pos}
theorem B9:PO X none uJ:=by
 intro pins s σ H Q I h;rw[evalPart_none];exact Q8 ⟨none,H,I,.none,h⟩
theorem B8(h:PE X e te):PO X (some e) (Ei te):=by
 intro pins s σ H Q I hw;rw[evalPart_some];refine thn (h pins s σ H _ I hw) fun u s1 hz=>?_;obtain⟨x,H1,I1,r1,q1⟩:=hz;obtain⟨i,rfl,q⟩:=q1;obtain⟨t,rfl⟩:=r1;exact⟨some i,H1,I1,.int i t,q⟩
def SlR(X:Cx)(r:V->Option Int->Option Int->Hp->VK->Prop):Prop:=
 ∀(pins:List (Addr×Obj)) (s:QQ) (σ:St) (H:Hp) (x:V) (v vl vu:Q6) (lo hi:Option Int) (sl:Addr) (Q:VK),Inv X pins σ H s->bX x v->s.heap.IsSliceOf sl vl vu .none->IsPart vl lo->IsPart vu hi->r x lo hi H Q->
  ∃T id,typeLookup (.type T) "__getitem__"=pure (some (.builtin id))/\s.TypeIs v T/\wpAny (Qx X.prog X.w) X.A (getItem v (.ref sl)) (EP X pins σ Q) X.xe s
theorem SlR.or{r r':V->Option Int->Option Int->Hp->VK->Prop}(h:SlR X r)(h':SlR X r'):SlR X (fun x lo hi H Q=>r x lo hi H Q\/r' x lo hi H Q):=by
 intro pins s σ H x v vl vu lo hi sl Q I rx hs pl pu q;rcases q with q|q
 ·exact h pins s σ H x v vl vu lo hi sl Q I rx hs pl pu q
 ·exact h' pins s σ H x v vl vu lo hi sl Q I rx hs pl pu q
def tSl(r:V->Option Int->Option Int->Hp->VK->Prop)(te:TE)(tl th:TO):TE:=fun σ H Q=>te σ H fun x H1=>tl σ H1 fun l H2=>th σ H2 fun u H3=>r x l u H3 Q
theorem yS{r:V->Option Int->Option Int->Hp->VK->Prop}(hr:SlR X r)(he:PE X e te)(hl:PO X lo tl)(hu:PO X hi th):PE X (.Subscript e (.Slice lo hi none p2) pos) (tSl r te tl th):=by
 intro pins s σ H Q I h;refine Subscript_ (thn (he pins s σ H _ I h) fun v s1 hz=>?_);obtain⟨x,H1,I1,r1,q1⟩:=hz;refine wpAny_Slice (thn (hl pins s1 σ H1 _ I1 q1) fun vl s2 ⟨l,H2,I2,pl,q2⟩=>thn (hu pins s2 σ H2 _ I2 q2) fun vu s3 hz=>?_);obtain⟨u,H3,I3,pu,q3⟩:=hz;rw[evalPart_none];refine Q8 ?_;have I4:Inv X pins σ H3 { s3 with heap:=s3.heap.push { cls:=.type "slice",data:=.fields #[vl,vu,.none] } }:=I3.kept (t':=s3.toks) fun b ob q=>Q4 _ q;obtain⟨T,id,hT,ht,hg⟩:=hr pins { s3 with heap:=s3.heap.push { cls:=.type "slice",data:=.fields #[vl,vu,.none] } } σ H3 x v vl vu l u s3.heap.objs.size Q I4 r1 (Heap.IsSliceOf.new ..) pl pu q3;show wpAny (Qx X.prog X.w) X.A (subscriptTail e (.Slice lo hi none p2) v (.ref s3.heap.objs.size)) (EP X pins σ Q) X.xe { s3 with heap:=s3.heap.push { cls:=.type "slice",data:=.fields #[vl,vu,.none] } };exact tail_any (ops:=[.ref s3.heap.objs.size,v]) ht hT hg (by with_unfolding_all rfl)
def AQ(xs:List V)(lo hi:Option Int):List V:=(xs.drop (HT.sIx xs.length 0 lo)).take (HT.sIx xs.length xs.length hi-HT.sIx xs.length 0 lo)
theorem kX(xs:List V)(lo hi:Option Int):(AQ xs lo hi).length<=xs.length:=by
 unfold AQ;rw[ZP,List.length_drop];omega
def Ks(K:Q5):V->Option Int->Option Int->Hp->VK->Prop:=fun x lo hi H Q=>∃a xs,x=.ref a/\SqT K H a xs/\
 ¬(HT.sIx xs.length 0 lo=0/\HT.sIx xs.length xs.length hi=xs.length)/\∀p,H p=none->Q (.ref p) (upd H p (.tup (AQ xs lo hi)))
theorem Ai:SlR X (Ks X.K):=by
 intro pins s σ H x v vl vu lo hi sl Q I rx hs pl pu h;obtain⟨a,xs,rfl,hx,hw,q⟩:=h;cases rx;obtain⟨its,r,ht,hz⟩:=I.tuple hx;have hlen:its.toArray.size=xs.length:=by rw[QM];exact r.length.symm
 refine⟨"tuple",_,PyProof.Rows.slot_tuple_getitem.lookup,ht.typeIs,?_⟩;refine HT.getItem_tuple_cut ht hs pl pu (by rw[hlen];exact hw) ?_ (by rw[hlen];exact hz);rw[hlen];refine⟨.ref s.heap.objs.size,_,I.laid (t':=s.toks) (o:=.tup (AQ xs lo hi)) (fun b ob q=>Q4 _ q) (QJ _) ?_,rfl,q _ (I.hok.fresh (QJ _))⟩;exact⟨Qo (kX xs lo hi) hz,_,(r.drop (HT.sIx xs.length 0 lo)).take (HT.sIx xs.length xs.length hi-HT.sIx xs.length 0 lo),xP.new _ _⟩
def Ia(K:Q5):R2:=fun x y H Q=>∃a b xs ys,x=.ref a/\y=.ref b/\SqT K H a xs/\SqT K H b ys/\xs≠[]/\xs.length+ys.length<=QN/\
 (ys=[]->Q (.ref a) H)/\(ys≠[]->∀p,H p=none->Q (.ref p) (upd H p (.tup (xs++ys))))
theorem bh.nil_iff{xs:List V}{us:List Q6}(r:bh xs us):us=[]↔xs=[]:=by
 cases r with
 |nil=>simp
 |cons _ _=>simp
theorem Cr:OpR X (binaryOp .Add) (Ia X.K):=by
 intro pins s σ H x y v u Q I rx ry h;obtain⟨a,b,xs,ys,rfl,rfl,ha,hb,hx,hz,q1,q2⟩:=h;cases rx;cases ry;obtain⟨its,r1,p1,_⟩:=I.tuple ha;obtain⟨its2,r2,p2,_⟩:=I.tuple hb;refine HT.cat_tup p1 p2 (fun z=>hx (r1.nil_iff.mp z)) (fun z=>⟨.ref a,H,I,rfl,q1 (r2.nil_iff.mp z)⟩) (fun z=>?_) (by rw[<-r1.length,<-r2.length];exact hz);refine⟨.ref s.heap.objs.size,_,I.laid (t':=s.toks) (o:=.tup (xs++ys)) (fun b ob q=>Q4 _ q) (QJ _) ?_,rfl,q2 (fun w=>z (r2.nil_iff.mpr w)) _ (I.hok.fresh (QJ _))⟩;exact⟨by rw[Qz];exact hz,_,r1.append r2,xP.new _ _⟩
end
def ixN(n:Nat)(i:Int):Option Nat:=if 0<=i then(if i<n then some i.toNat else none)else if -(n:Int)<=i then some (i+n).toNat else none
def atI{α:Type}(xs:List α)(i:Int):Option α:=(ixN xs.length i).bind fun j=>xs[j]?
theorem wm{n:Nat}{i:Int}{j:Nat}(h:ixN n i=some j):seqIndex? i n=some j/\j<n/\-(n:Int)<=i/\i<n:=by
 unfold ixN at h;by_cases h0:0<=i
 ·rw[if_pos h0]at h;by_cases h1:i<n
  ·rw[if_pos h1]at h;have e:i.toNat=j:=Option.some.inj h;exact⟨by rw[seqIndex_of h0 h1,e],by omega,by omega,h1⟩
  ·rw[if_neg h1]at h;cases h
 ·rw[if_neg h0]at h;by_cases h1:-(n:Int)<=i
  ·rw[if_pos h1]at h;have e:(i+n).toNat=j:=Option.some.inj h;exact⟨by rw[seqIndex_neg (by omega) h1,e],by omega,h1,by omega⟩
  ·rw[if_neg h1]at h;cases h
theorem xy{α:Type}{xs:List α}{i:Int}{v:α}(h:atI xs i=some v):∃j,seqIndex? i xs.length=some j/\xs[j]?=some v/\j<xs.length/\-(xs.length:Int)<=i/\i<xs.length:=by
 unfold atI at h;cases e:ixN xs.length i with
 |none=>rw[e]at h;cases h
 |some j=>
  rw[e]at h;obtain⟨h1,h2,h3,h4⟩:=wm e;exact⟨j,h1,h,h2,h3,h4⟩
theorem d9{α:Type}{xs:List α}{j:Nat}{v:α}(h:xs[j]?=some v):atI xs (j:Int)=some v:=by
 have hj:j<xs.length:=(Q9.mp h).1;have e:ixN xs.length (j:Int)=some j:=by
  unfold ixN;rw[if_pos (by omega),if_pos (by omega)];simp
 unfold atI;rw[e];exact h
def qq(b:Qq):Prop:=∀o i,subscripted b false o i=operate [o,i] (getItem o i)
def IxR(X:Cx)(r:R2):Prop:=
 ∀(value slice:Qq) (pins:List (Addr×Obj)) (s:QQ) (σ:St) (H:Hp) (x y:V) (v u:Q6) (Q:VK),Inv X pins σ H s->bX x v->bX y u->r x y H Q->
  subscripted slice false v u=operate [v,u] (getItem v u)->wpAny (Qx X.prog X.w) X.A (subscriptTail value slice v u) (EP X pins σ Q) X.xe s
def MtR(X:Cx)(id:String)(r:V->List V->Hp->VK->Prop):Prop:=
 ∀(pins:List (Addr×Obj)) (s:QQ) (σ:St) (H:Hp) (x:V) (xs:List V) (v:Q6) (us:List Q6) (Q:VK),Inv X pins σ H s->bX x v->bh xs us->r x xs H Q->
  wpAny (Qx X.prog X.w) X.A (call (.builtin id) (v::us)) (EP X pins σ Q) X.xe s
section
variable{X:Cx}{a b:Qq}{ta tb:TE}{pos:Pos}
theorem IxR.or{r r':R2}(h:IxR X r)(h':IxR X r'):IxR X (fun x y H Q=>r x y H Q\/r' x y H Q):=by
 intro value slice pins s σ H x y v u Q I rx ry q hs;rcases q with q|q
 ·exact h value slice pins s σ H x y v u Q I rx ry q hs
 ·exact h' value slice pins s σ H x y v u Q I rx ry q hs
theorem Iu{r:R2}(hr:IxR X r)(ha:PE X a ta)(hb:PE X b tb)(hs:qq b):PE X (.Subscript a b pos) (tOp r ta tb):=by
 intro pins s σ H Q I h;exact Subscript_ (Jv ha hb I h fun v u s2 x y H2 I2 rx ry q=>hr a b pins s2 σ H2 x y v u Q I2 rx ry q (hs _ _))
def Kw(K:Q5):R2:=fun x y H Q=>∃p xs i v,x=.ref p/\y=.int i/\SqL K H p xs/\atI xs i=some v/\Q v H
def Kv(K:Q5):R2:=fun x y H Q=>∃p xs i v,x=.ref p/\y=.int i/\SqT K H p xs/\atI xs i=some v/\Q v H
theorem CL:IxR X (Kw X.K):=by
 intro value slice pins s σ H x y v u Q I rx ry h hs;obtain⟨p,xs,i,z,rfl,rfl,hq,he,q⟩:=h;cases rx;obtain⟨t,rfl⟩:=ry;obtain⟨its,r,pl,hz⟩:=I.list hq;obtain⟨j,h1,h2,h3,h4,h5⟩:=xy he;obtain⟨w,ew,rw'⟩:=r.get h2;have hl:=r.length;have hn:=rm;have fin:EP X pins σ Q w s:=⟨z,H,I,rw',q⟩;by_cases h0:0<=i
 ·have hj:i.toNat=j:=by
   rw[seqIndex_of h0 h5]at h1;exact Option.some.inj h1
  exact item_listR pl.isList h0 (by omega) (by rw[hj];simpa using ew) fin hs
 ·have hj:(i+(its.toArray.size:Int)).toNat=j:=by
   rw[seqIndex_neg (by omega) h4]at h1;rw[QM,<-hl];exact Option.some.inj h1
  exact subscriptTail_builtinR (x:=w) pl.isList.typeIs slot_list_getitem.lookup
   (wpAny_getItem_list_neg (Q:=fun r s'=>r=w/\EP X pins σ Q r s') pl.isList (by omega) (by rw[QM]<;>omega) (by omega) (by rw[hj];simpa using ew) ⟨rfl,fin⟩) hs
theorem FO:IxR X (Kv X.K):=by
 intro value slice pins s σ H x y v u Q I rx ry h hs;obtain⟨p,xs,i,z,rfl,rfl,hq,he,q⟩:=h;cases rx;obtain⟨t,rfl⟩:=ry;obtain⟨its,r,pl,hz⟩:=I.tuple hq;obtain⟨j,h1,h2,h3,h4,h5⟩:=xy he;obtain⟨w,ew,rw'⟩:=r.get h2;have hl:=r.length;have hn:=rm;have fin:EP X pins σ Q w s:=⟨z,H,I,rw',q⟩;exact subscriptTail_builtinR (x:=w) pl.typeIs slot_tuple_getitem.lookup
  (getItem_tuple (j:=j) (Q:=fun r s'=>r=w/\EP X pins σ Q r s') pl (by omega) (by omega) (by rw[QM,<-hl];exact h1) (by simpa using ew) ⟨rfl,fin⟩) hs
theorem sQ(its:List Q6)(n j:Nat)(u:Q6):Obj.mapSeq (·.setIfInBounds j u) { cls:=.type "list",data:=.seq its.toArray n }={ cls:=.type "list",data:=.seq (its.set j u).toArray n }:=by
 simp[Obj.mapSeq]
theorem Inv.lst{pins:List (Addr×Obj)}{σ:St}{H:Hp}{s:QQ}{p:Addr}{xs:List V}(I:Inv X pins σ H s)(h:H p=some (.lst xs)) :
  ∃(its:List Q6) (n:Nat),bh xs its/\s.heap.get? p=some { cls:=.type "list",data:=.seq its.toArray n }/\xs.length<=QN:=by
 obtain⟨z,its,n,r,e⟩:=I.hok p _ h;exact⟨its,n,r,e,z⟩
theorem Inv.lstUpd{pins:List (Addr×Obj)}{σ:St}{H:Hp}{s:QQ}{p:Addr}{xs ys:List V}{its its':List Q6}{n n':Nat}{f:Obj->Obj}(I:Inv X pins σ H s)(h:H p=some (.lst xs))
  (ho:s.heap.get? p=some { cls:=.type "list",data:=.seq its.toArray n }) (hf:f { cls:=.type "list",data:=.seq its.toArray n }={ cls:=.type "list",data:=.seq its'.toArray n' }) (r:bh ys its') (hz:ys.length<=QN) (t:Nat) :
  Inv X pins σ (upd H p (.lst ys)) { s with heap:=s.heap.update p f,toks:=t }:=by
 have e:(s.heap.update p f).get? p=some { cls:=.type "list",data:=.seq its'.toArray n' }:=by
  rw[Zx f ho (by rw[hf]<;>rfl),hf]
 refine I.write (x:=p) (e:=p) (by rw[h];trivial) (.inl rfl) (fun b u hb q=>(Heap.get?_update_other _ _ (Ne.symm hb)).trans q) ⟨_,e⟩ ?_;exact⟨hz,its',n',r,e⟩
def HX:V->V->V->Hp->(Hp->Prop)->Prop:=fun o i v H Q=>∃p xs k j,o=.ref p/\i=.int k/\H p=some (.lst xs)/\ixN xs.length k=some j/\Q (upd H p (.lst (xs.set j v)))
theorem mO:Jy X HX:=by
 intro pins s σ H o i v ov iv u Q I ro ri rv h;obtain⟨p,xs,k,j,rfl,rfl,hp,hj,q⟩:=h;cases ro;obtain⟨t,rfl⟩:=ri;obtain⟨its,n,r,ho,hz⟩:=I.lst hp;obtain⟨h1,h2,h3,h4⟩:=wm hj;have hl:=r.length;have hn:=rm;have I':Inv X pins σ (upd H p (.lst (xs.set j v))) { s with heap:=s.heap.update p (Obj.mapSeq (·.setIfInBounds j u)) }:=
  I.lstUpd hp ho (sQ its n j u) (r.set rv j) (by rw[List.length_set];exact hz) s.toks
 by_cases h0:0<=k
 ·have hk:k.toNat=j:=by
   rw[seqIndex_of h0 h4]at h1;exact Option.some.inj h1
  exact PySem.W.ki_setAt ho h0 (by omega) (by rw[QM,<-hl];exact h4) (by rw[hk];exact⟨_,I',q⟩)
 ·have hk:(k+(its.toArray.size:Int)).toNat=j:=by
   rw[seqIndex_neg (by omega) h3]at h1;rw[QM,<-hl];exact Option.some.inj h1
  exact PySem.W.ki_setBack ho (by omega) (by rw[QM,<-hl];exact h3) (by omega) (by rw[hk];exact⟨_,I',q⟩)
theorem nX(lo hi:Option Int)(n:Nat):(sliceBounds lo hi none n).1=((HT.sIx n 0 lo:Nat):Int)/\(sliceBounds lo hi none n).2.1=((HT.sIx n n hi:Nat):Int)/\(sliceBounds lo hi none n).2.2=1:=by
 refine⟨?_,?_,rfl⟩
 ·cases lo with
  |none=>simp[sliceBounds,HT.sIx]
  |some i=>
   simp only[sliceBounds,HT.sIx,Option.getD_none,show(1:Int)>0 by decide,if_true];by_cases h:i<0
   ·simp only[h,if_true]<;>omega
   ·simp only[h,if_false]<;>omega
 ·cases hi with
  |none=>simp[sliceBounds,HT.sIx]
  |some i=>
   simp only[sliceBounds,HT.sIx,Option.getD_none,show(1:Int)>0 by decide,if_true];by_cases h:i<0
   ·simp only[h,if_true]<;>omega
   ·simp only[h,if_false]<;>omega
theorem mN(its:List Q6)(lo hi:Option Int):slicePick its.toArray lo hi none=((its.drop (HT.sIx its.length 0 lo)).take (HT.sIx its.length its.length hi-HT.sIx its.length 0 lo)).toArray:=by
 obtain⟨h1,h2,h3⟩:=nX lo hi its.toArray.size;unfold slicePick;rw[h1,h2,h3];simp only[sliceRange_one,pick_run,QM]<;>rfl
def Kt(K:Q5):V->Option Int->Option Int->Hp->VK->Prop:=fun x lo hi H Q=>∃a xs,x=.ref a/\SqL K H a xs/\∀p,H p=none->Q (.ref p) (upd H p (.lst (AQ xs lo hi)))
theorem uP:SlR X (Kt X.K):=by
 intro pins s σ H x v vl vu lo hi sl Q I rx hs pl pu h;obtain⟨a,xs,rfl,hx,q⟩:=h;cases rx;obtain⟨its,r,ht,hz⟩:=I.list hx;have hlen:=r.length;refine⟨"list",_,slot_list_getitem.lookup,ht.isList.typeIs,?_⟩;refine wpAny_getItem_list_slice ht.isList hs pl pu .none (by simp) ?_ (by rw[QM]<;>omega);rw[mN,<-hlen];refine⟨.ref s.heap.objs.size,_,I.laid (t':=s.toks) (o:=.lst (AQ xs lo hi)) (fun b ob q=>Q4 _ q) (QJ _) ?_,rfl,q _ (I.hok.fresh (QJ _))⟩;exact⟨Qo (kX xs lo hi) hz,_,0,(r.drop (HT.sIx xs.length 0 lo)).take (HT.sIx xs.length xs.length hi-HT.sIx xs.length 0 lo),QV _ rfl⟩
def lN:V->Bool
 |.non=>true
 |.bl _=>true
 |.int _=>true
 |.str _=>true
 |_=>false
def eqV:V->V->Bool
 |.non,.non=>true
 |.bl a,.bl b=>a == b
 |.bl a,.int b=>(if a then 1 else 0) == b
 |.int a,.bl b=>a == (if b then 1 else 0)
 |.int a,.int b=>a == b
 |.str a,.str b=>a == b
 |_,_=>false
theorem F5{A:Z9}{s:QQ}{y x:V}{u v:Q6}(ry:bX y u)(rx:bX x v)(fy:lN y=true)(fx:lN x=true):SeqAt.EqAt A s u v (eqV y x):=by
 cases y with
 |non=>
  cases ry;cases x with
  |non=>cases rx;exact SeqAt.EqAt.same _
  |bl b=>cases rx;exact SeqAt.EqAt.none_bool b
  |int b=>obtain⟨t,rfl⟩:=rx;exact SeqAt.EqAt.none_int b t
  |str b=>obtain⟨t,rfl⟩:=rx;exact SeqAt.EqAt.none_str b t
  |_=>exact absurd (show false=true from fx) QC
 |bl a=>
  cases ry;cases x with
  |non=>cases rx;exact SeqAt.EqAt.bool_none a
  |bl b=>cases rx;exact SeqAt.EqAt.bool_bool a b
  |int b=>obtain⟨t,rfl⟩:=rx;exact SeqAt.EqAt.bool_int a b t
  |str b=>obtain⟨t,rfl⟩:=rx;exact SeqAt.EqAt.bool_str a b t
  |_=>exact absurd (show false=true from fx) QC
 |int a=>
  obtain⟨t',rfl⟩:=ry;cases x with
  |non=>cases rx;exact SeqAt.EqAt.int_none a t'
  |bl b=>cases rx;exact SeqAt.EqAt.int_bool a t' b
  |int b=>obtain⟨t,rfl⟩:=rx;exact SeqAt.EqAt.int_int a t' b t
  |str b=>obtain⟨t,rfl⟩:=rx;exact SeqAt.EqAt.int_str a t' b t
  |_=>exact absurd (show false=true from fx) QC
 |str a=>
  obtain⟨t',rfl⟩:=ry;cases x with
  |non=>cases rx;exact SeqAt.EqAt.str_none a t'
  |bl b=>cases rx;exact SeqAt.EqAt.str_bool a t' b
  |int b=>obtain⟨t,rfl⟩:=rx;exact SeqAt.EqAt.str_int a t' b t
  |str b=>obtain⟨t,rfl⟩:=rx;exact SeqAt.EqAt.str_str a t' b t
  |_=>exact absurd (show false=true from fx) QC
 |_=>exact absurd (show false=true from fy) QC
def eqU(x:V)(u:Q6):Bool:=match u with
 |.none=>eqV .non x
 |.bool b=>eqV (.bl b) x
 |.int i _=>eqV (.int i) x
 |.str z _=>eqV (.str z) x
 |_=>false
theorem AL{x y:V}{u:Q6}(r:bX y u)(f:lN y=true):eqU x u=eqV y x:=by
 cases y with
 |non=>cases r;rfl
 |bl b=>cases r;rfl
 |int i=>obtain⟨t,rfl⟩:=r;rfl
 |str z=>obtain⟨t,rfl⟩:=r;rfl
 |_=>exact absurd (show false=true from f) QC
theorem qo{x:V}:∀{xs:List V} {us:List Q6},bh xs us->xs.all lN=true->us.any (eqU x)=xs.any fun y=>eqV y x
 |_,_,.nil,_=>rfl
 |y::xs,u::us,.cons r t,f=>by
  rw[List.all_cons,Z0]at f;rw[Zo,Zo,AL r f.1,qo t f.2]
theorem nj{A:Z9}{s:QQ}{x:V}{v:Q6}(rx:bX x v)(fx:lN x=true):∀{xs:List V} {us:List Q6},bh xs us->xs.all lN=true->∀u∈us,SeqAt.EqAt A s u v (eqU x u)
 |_,_,.nil,_=>fun u hu=>by cases hu
 |y::xs,u::us,.cons r t,f=>fun u' hu=>by
  rw[List.all_cons,Z0]at f;rcases QL.mp hu with rfl|hu
  ·rw[AL r f.1];exact F5 r rx f.1 fx
  ·exact nj rx fx t f.2 u' hu
def inV(x:V)(xs:List V):Bool:=xs.any fun y=>eqV y x
def rIn(K:Q5)(neg:Bool):R2:=fun x y H Q=>∃p xs,y=.ref p/\(SqL K H p xs\/SqT K H p xs)/\lN x=true/\xs.all lN=true/\Q (.bl (if neg then !inV x xs else inV x xs)) H
theorem vE:OpR X (compareOp .In) (rIn X.K false):=by
 intro pins s σ H x y v u Q I rx ry h;obtain⟨p,xs,rfl,hq,fx,fs,q⟩:=h;cases ry;rcases hq with hq|hq
 ·obtain⟨its,r,pl,hz⟩:=I.list hq;refine SeqAt.in_listAt (eqU x) pl.isList (fun w hw=>nj rx fx r fs w (by simpa using hw)) ⟨.bl _,H,I,rfl,?_⟩;rw[show its.toArray.any (eqU x)=its.any (eqU x)by simp,qo r fs];exact q
 ·obtain⟨its,r,pl,hz⟩:=I.tuple hq;refine SeqAt.in_tupleAt (eqU x) pl (fun w hw=>nj rx fx r fs w (by simpa using hw)) ⟨.bl _,H,I,rfl,?_⟩;rw[show its.toArray.any (eqU x)=its.any (eqU x)by simp,qo r fs];exact q
theorem oR:cS X (.builtin "len") (fun xs H Q=>∃p ys,xs=[.ref p]/\(SqL X.K H p ys\/SqT X.K H p ys)/\Q (.int ys.length) H):=by
 intro pins s σ H xs us Q I r h;obtain⟨p,ys,rfl,hq,q⟩:=h;obtain⟨u,rfl,rx⟩:=f6 r;cases rx;have hn:=rm;rcases hq with hq|hq
 ·obtain⟨its,r',pl,hz⟩:=I.list hq;have hlen:=r'.length;exact Calls.call_len_list pl.isList (by simp only[QM]<;>omega) ⟨.int ys.length,H,I.tok _,⟨s.toks+1,by rw[QM,hlen]⟩,q⟩
 ·obtain⟨its,r',pl,hz⟩:=I.tuple hq;have hlen:=r'.length;exact len_tuple pl (by simp only[QM]<;>omega) ⟨.int ys.length,H,I.tok _,⟨s.toks+1,by rw[QM,hlen]⟩,q⟩
theorem cS.or{f:Q6}{r r':List V->Hp->VK->Prop}(h:cS X f r)(h':cS X f r'):cS X f (fun xs H Q=>r xs H Q\/r' xs H Q):=by
 intro pins s σ H xs us Q I rs q;rcases q with q|q
 ·exact h pins s σ H xs us Q I rs q
 ·exact h' pins s σ H xs us Q I rs q
theorem cy:cS X (.type "list") (fun xs H Q=>∃p ys,xs=[.ref p]/\(SqL X.K H p ys\/SqT X.K H p ys)/\∀l,H l=none->Q (.ref l) (upd H l (.lst ys))):=by
 intro pins s σ H xs us Q I r h;obtain⟨p,ys,rfl,hq,q⟩:=h;obtain⟨u,rfl,rx⟩:=f6 r;cases rx;have fin:∀(its:List Q6),bh ys its->ys.length<=QN->∀(h':Heap) (c':Nat),(∀b o',s.heap.get? b=some o'->h'.get? b=some o')->
   h'.get? s.heap.objs.size=some { cls:=.type "list",dict:=none,data:=.seq its.toArray c',slots:=#[] }->EP X pins σ Q (.ref s.heap.objs.size) { s with heap:=h' }:=fun its r' hz h' c' kp e=>
  ⟨.ref s.heap.objs.size,_,I.laid (t':=s.toks) kp (QJ _) (show bR X.prog X.w _ h' _ (.lst ys)from⟨hz,its,c',r',e⟩),rfl,q _ (I.hok.fresh (QJ _))⟩
 rcases hq with hq|hq
 ·obtain⟨its,r',pl,hz⟩:=I.list hq;have hlen:=r'.length;obtain⟨o,ho,hc,n,hd⟩:=pl.isList;exact call_list_seq p (.inl rfl) ho hc hd (fun h' c' kp e=>fin its r' hz h' c' kp e) (by simp only[QM]<;>omega)
 ·obtain⟨its,r',pl,hz⟩:=I.tuple hq;have hlen:=r'.length;obtain⟨o,ho,hc,n,hd⟩:=pl;exact call_list_seq p (.inr rfl) ho hc hd (fun h' c' kp e=>fin its r' hz h' c' kp e) (by simp only[QM]<;>omega)
theorem dG:cS X (.type "tuple") (fun xs H Q=>∃p ys,xs=[.ref p]/\((SqL X.K H p ys/\∀l,H l=none->Q (.ref l) (upd H l (.tup ys)))\/(SqT X.K H p ys/\Q (.ref p) H))):=by
 intro pins s σ H xs us Q I r h;obtain⟨p,ys,rfl,h⟩:=h;obtain⟨u,rfl,rx⟩:=f6 r;cases rx;rcases h with⟨hq,q⟩|⟨hq,q⟩
 ·obtain⟨its,r',pl,hz⟩:=I.list hq;have hlen:=r'.length;refine call_tuple_list pl.isList (fun h' kp=>?_) (by simp only[QM]<;>omega);have I1:Inv X pins σ H { s with heap:=h' }:=I.kept (t':=s.toks) kp;have I2:Inv X pins σ (upd H h'.objs.size (.tup ys)) { s with heap:=h'.push { cls:=.type "tuple",data:=.seq its.toArray } }:=
   I1.laid (t':=s.toks) (fun b o e=>Q4 _ e) (QJ _) (show bR X.prog X.w _ _ _ (.tup ys)from⟨hz,its,r',xP.new _ _⟩)
  exact⟨.ref h'.objs.size,_,I2,rfl,q _ (I1.hok.fresh (QJ _))⟩
 ·obtain⟨its,r',pl,hz⟩:=I.tuple hq;exact call_tuple_same pl ⟨.ref p,H,I,rfl,q⟩
def tyV(K:Q5)(T:String)(x:V)(H:Hp):Prop:=match x with
 |.str _=>T="str"
 |.int _=>T="int"
 | .ref p=>(T="list"/\∃xs,SqL K H p xs)\/(T="tuple"/\∃o,K.lookup p=some o/\o.cls=.type "tuple"/\o.dict=none)\/
   (T="dict"/\((∃kvs,H p=some (.dK kvs))\/∃kvs,H p=some (.dT kvs)))\/(T="set"/\∃S n,H p=some (.set S n))
 |_=>False
theorem Eh{pins:List (Addr×Obj)}{σ:St}{H:Hp}{s:QQ}{T:String}{x:V}{v:Q6}(I:Inv X pins σ H s)(r:bX x v)(ty:tyV X.K T x H) :
  s.TypeIs v T/\∀a,v=.ref a->∃ob,s.heap.get? a=some ob/\ob.dict=none:=by
 cases x with
 |str z=>
  obtain⟨t,rfl⟩:=r;cases (show T="str" from ty);exact⟨typeIs_str s z t,fun _ e=>nomatch e⟩
 |int i=>
  obtain⟨t,rfl⟩:=r;cases (show T="int" from ty);exact⟨typeIs_int s i t,fun _ e=>nomatch e⟩
 |ref p=>
  cases r;rcases ty with⟨rfl,xs,hq⟩|⟨rfl,o,hk,hc,hd⟩|⟨rfl,hk⟩|⟨rfl,S,n,hk⟩
  ·obtain⟨its,_,pl,_⟩:=I.list hq;refine⟨pl.isList.typeIs,fun a e=>?_⟩;cases e;obtain⟨o,n,e,c,hd,_⟩:=pl;exact⟨o,e,hd⟩
  ·refine⟨⟨o,I.kIn p o hk,hc⟩,fun a e=>?_⟩;cases e;exact⟨o,I.kIn _ o hk,hd⟩
  ·have z:∃o,s.heap.get? p=some o/\o.ExactDict:=by
    rcases hk with⟨kvs,hk⟩|⟨kvs,hk⟩
    ·obtain⟨_,_,_,_,o,_,_,e,ex,_⟩:=I.hok p _ hk;exact⟨o,e,ex⟩
    ·obtain⟨_,_,_,_,o,_,_,e,ex,_⟩:=I.hok p _ hk;exact⟨o,e,ex⟩
   obtain⟨o,e,ex⟩:=z;refine⟨⟨o,e,ex.1⟩,fun a e2=>?_⟩;cases e2;exact⟨o,e,ex.2.1⟩
  ·obtain⟨o,_,_,_,e,ex,_⟩:=I.hok p _ hk;refine⟨⟨o,e,ex.1⟩,fun a e2=>?_⟩;cases e2;exact⟨o,e,ex.2.1⟩
 |_=>exact False.elim ty
def tBM(K:Q5)(T:String)(r:V->List V->Hp->VK->Prop)(to:TE)(t:TA):TE:=fun σ H Q=>to σ H fun x H1=>tyV K T x H1/\t σ H1 fun xs H2=>r x xs H2 Q
variable{o e:Qq}{es:List Qq}{to:TE}{t:TA}{name:Str}{apos cpos:Pos}{T id:String}{r:V->List V->Hp->VK->Prop}
theorem Iw(pa:PlainAttrs T)(slot:Slot T name id)(hty:typeOf (.builtin id)=pure (.type "method_descriptor"))(hm:MtR X id r)(ho:PE X o to)(ha:PA X (e::es) t)
  (hbase:attributeBase o name X.env (eval o X.env)=eval o X.env:=by rfl)
  (hfew:((ZD cpos (QR (e::es) X.env)).all (fun x=>!x.1)&&(backToKw cpos (keywordEach [] X.env)).all (fun x=>x.1.isSome)
   && decide ((e::es).length+([]:List Keyword).length+(if ([]:List Keyword).isEmpty then 0 else 1)<30))=true:=by rfl)
  (hline:(apos.endLine == cpos.line)=true:=by rfl) (hs:QR (e::es) X.env=(false,eval e X.env)::QR es X.env:=by rfl) (hplain:(ZD cpos (QR es X.env)).any (·.1)=false:=by rfl) :
  PE X (.Call (.Attribute o name apos) (e::es) [] cpos) (tBM X.K T r to t):=by
 intro pins s σ H Q I h;refine wpAny_Call_method_late hbase hfew hline rfl (thn (ho pins s σ H _ I h) fun v s1 hz=>?_);obtain⟨x,H1,I1,r1,ty,q1⟩:=hz;obtain⟨h1,h2⟩:=Eh I1 r1 ty;refine⟨T,id,pa,slot,hty,h1,h2,?_⟩;have hA:=ha cpos pins s1 σ H1 _ I1 q1;rw[hs]at hA ⊢;refine Calls.callWith_builtin (by show(false||(ZD cpos (QR es X.env)).any (·.1))=false;rw[hplain]<;>rfl) (Calls.evalArgs_plain ?_);exact thn hA fun us s2 ⟨vs,H2,I2,r2,q2⟩=>hm pins s2 σ H2 x vs v us Q I2 r1 r2 q2
end
def MtM(X:Cx)(id:String)(r:V->List V->Hp->VK->Prop):Prop:=
 ∀(pins:List (Addr×Obj)) (s:QQ) (σ:St) (H:Hp) (x:V) (xs:List V) (v:Q6) (us:List Q6) (Q:VK),Inv X pins σ H s->bX x v->bh xs us->r x xs H Q->
  wpAny (Qx X.prog X.w) X.A (call (.builtin id) (v::us)) (EP X pins σ Q) X.xe s
theorem bh.one:∀{x:V} {us:List Q6},bh [x] us->∃u,us=[u]/\bX x u
 |_,_,.cons r .nil=>⟨_,rfl,r⟩
theorem bh.eraseIdx:∀{xs:List V} {us:List Q6} (i:Nat),bh xs us->bh (xs.eraseIdx i) (us.eraseIdx i)
 |_,_,_,.nil=>.nil
 |_,_,0,.cons _ t=>t
 |_,_,i+1,.cons r t=>.cons r (bh.eraseIdx i t)
theorem bh.rep{xs:List V}{us:List Q6}(h:bh xs us):∀k:Nat,bh (Qr k xs).flatten (Qr k us).flatten
 |0=>.nil
 |k+1=>by
  rw[Zy,Zy,X0,X0];exact bh.append h (bh.rep h k)
theorem oz{α:Type}:∀(l:List α) (i:Nat),(l.eraseIdx i).length<=l.length
 |[],_=>QJ _
 |_::_,0=>Nat.le_succ _
 |_::r,i+1=>Nat.succ_le_succ (oz r i)
theorem kN(its:List Q6):∀(k:Nat) (acc:List Q6),
  List.foldl (fun x1 x2=>x1++x2) acc.toArray (Qr k its.toArray)=(acc++(Qr k its).flatten).toArray
 |0,acc=>by simp
 |k+1,acc=>by
  have e:acc.toArray++its.toArray=(acc++its).toArray:=by simp
  have e2:(acc++its)++(Qr k its).flatten=acc++(Qr (k+1) its).flatten:=by
   rw[Zy,X0,QB]
  rw[<-e2,<-kN its k (acc++its),<-e,Zy,List.foldl_cons]
section
variable{X:Cx}{pins:List (Addr×Obj)}{σ:St}{H:Hp}{s:QQ}{l:Addr}{xs ys:List V}
theorem Inv.lset{its its':List Q6}{n:Nat}{f:Array Q6->Array Q6}{t':Nat}(I:Inv X pins σ H s)(hH:H l=some (.lst xs))
  (e:s.heap.get? l=some { cls:=.type "list",data:=.seq its.toArray n }) (hf:f its.toArray=its'.toArray) (hv:bh ys its') (hz:ys.length<=QN) :
  Inv X pins σ (upd H l (.lst ys)) { s with heap:=s.heap.update l (Obj.mapSeq f),toks:=t' }:=by
 have q:=PySem.IsL.update e f;rw[hf]at q;refine I.write (x:=l) (e:=l) (by rw[hH];exact trivial) (.inl rfl) (fun b' u hb hu=>(Heap.get?_update_other s.heap (Obj.mapSeq f) (Ne.symm hb)).trans hu) ⟨_,q⟩ ?_;exact⟨hz,its',_,hv,q⟩
theorem Inv.lnew{its:List Q6}{t':Nat}(I:Inv X pins σ H s)(hv:bh ys its)(hz:ys.length<=QN) :
  Inv X pins σ (upd H s.heap.objs.size (.lst ys)) { s with heap:=s.heap.push { cls:=.type "list",data:=.seq its.toArray },toks:=t' }:=
 I.laid (fun _ _ q=>Q4 _ q) (QJ _) ⟨hz,its,0,hv,QV _ rfl⟩
theorem Inv.fresh(I:Inv X pins σ H s):H s.heap.objs.size=none:=I.hok.fresh (QJ _)
theorem Inv.lstM(I:Inv X pins σ H s)(hH:H l=some (.lst xs)):xs.length<=QN/\∃(its:List Q6) (n:Nat),bh xs its/\xs.length=its.length/\s.heap.get? l=some { cls:=.type "list",data:=.seq its.toArray n }:=by
 obtain⟨z,its,n,r,e⟩:=I.hok l _ hH;exact⟨z,its,n,r,r.length,e⟩
theorem zb{n:Nat}(h:n<=QN):Builtin.List.listTooLong n=false:=by
 unfold Builtin.List.listTooLong;exact decide_eq_false (by omega)
end
section
variable{X:Cx}
def va:V->List V->Hp->VK->Prop:=fun x vs H Q=>∃l xs y,x=.ref l/\vs=[y]/\H l=some (.lst xs)/\xs.length<QN/\Q .non (upd H l (.lst (xs++[y])))
theorem kF:MtM X "list.append" va:=by
 intro pins s σ H x vs v us Q I rx rv h;obtain⟨l,xs,y,rfl,rfl,hH,hz,q⟩:=h;cases rx;obtain⟨u,rfl,ru⟩:=rv.one;obtain⟨z,its,n,r,hl,e⟩:=I.lstM hH;refine call_meets F.slot_list_append ⟨_,e,rfl⟩ F.entry_list_append (F.args_list_append_2 _ _) (PySem.list_append l its.toArray n u (by rw[QM];omega)) ⟨e,?_⟩;refine⟨.non,_,I.lset (its':=its++[u]) hH e (by simp) (r.append (.cons ru .nil)) ?_,rfl,q⟩;rw[Qz,ZY];omega
def Aq:V->List V->Hp->VK->Prop:=fun x vs H Q=>∃l xs i k y,x=.ref l/\vs=[.int i]/\H l=some (.lst xs)/\-(2^63)<=i/\i<2^63/\seqIndex? i xs.length=some k/\xs[k]?=some y/\Q y (upd H l (.lst (xs.eraseIdx k)))
theorem zc:MtM X "list.pop" Aq:=by
 intro pins s σ H x vs v us Q I rx rv h;obtain⟨l,xs,i,k,y,rfl,rfl,hH,h1,h2,hk,hy,q⟩:=h;cases rx;obtain⟨u,rfl,ru⟩:=rv.one;obtain⟨t,rfl⟩:=ru;obtain⟨z,its,n,r,hl,e⟩:=I.lstM hH;obtain⟨w,hw,rw'⟩:=r.get hy;refine call_meets F.slot_list_pop ⟨_,e,rfl⟩ F.entry_list_pop (F.args_list_pop_2 _ _)
  (MeetsSeq.list_pop_at l its.toArray n i t k w (fitsIndex_both h1 h2) (by rw[QM,<-hl];exact hk) (by rw[<-Qb];exact hw) (by rw[QM];omega)) ⟨e,?_⟩
 refine⟨y,_,I.lset (its':=its.eraseIdx k) hH e ?_ (r.eraseIdx k) ?_,rw',q⟩
 ·show its.toArray.eraseIdxIfInBounds k=(its.eraseIdx k).toArray;rw[List.eraseIdxIfInBounds_toArray]
 ·have:=oz xs k;omega
def Gv:R2:=fun x y H Q=>∃l b xs zs,x=.ref l/\y=.ref b/\H l=some (.lst xs)/\H b=some (.lst zs)/\xs.length+zs.length<=QN/\∀p,H p=none->Q (.ref p) (upd H p (.lst (xs++zs)))
theorem Fl:OpR X (binaryOp .Add) Gv:=by
 intro pins s σ H x y v u Q I rx ry h;obtain⟨l,b,xs,zs,rfl,rfl,hH,hB,hz,q⟩:=h;cases rx;cases ry;obtain⟨z,its,n,r,hl,e⟩:=I.lstM hH;obtain⟨z2,its2,n2,r2,hl2,e2⟩:=I.lstM hB;refine PySem.P.add_list e e2 ?_ (by rw[QM,QM];omega);have ea:its.toArray++its2.toArray=(its++its2).toArray:=by simp
 rw[ea];exact⟨.ref _,_,I.lnew (t':=s.toks) (r.append r2) (by rw[Qz];omega),rfl,q _ I.fresh⟩
def HY:R2:=fun x y H Q=>∃l k xs,x=.ref l/\y=.int k/\H l=some (.lst xs)/\-(2^63)<=k/\k<2^63/\xs.length*k.toNat<=QN/\
 ∀p,H p=none->Q (.ref p) (upd H p (.lst (Qr k.toNat xs).flatten))
theorem pR{α:Type}(xs:List α)(k:Nat):(Qr k xs).flatten.length=k*xs.length:=by
 induction k with
 |zero=>simp
 |succ k ih=>rw[Zy,X0,Qz,ih,Nat.succ_mul,Nat.add_comm]
theorem Ff:OpR X (binaryOp .Mult) HY:=by
 intro pins s σ H x y v u Q I rx ry h;obtain⟨l,k,xs,rfl,rfl,hH,h1,h2,hz,q⟩:=h;cases rx;obtain⟨t,rfl⟩:=ry;obtain⟨z,its,n,r,hl,e⟩:=I.lstM hH;have hlen:its.toArray.size*k.toNat<=QN:=by rw[QM,<-hl];exact hz
 have hcap:¬its.toArray.size*k.toNat>(2^63-1) / 8:=by
  have:(QN:Nat)<=(2^63-1) / 8:=by decide
  omega
 have hfit:¬(!Builtin.List.listFitsIndex k)=true:=by
  rw[fitsIndex_both h1 h2];exact QC
 have hlong:¬Builtin.List.listTooLong (its.toArray.size*k.toNat)=true:=by
  rw[zb hlen];exact QC
 have hnew:List.foldl (fun x1 x2=>x1++x2) #[] (Qr (if its.toArray.isEmpty=true then 0 else k.toNat) its.toArray)=(Qr k.toNat its).flatten.toArray:=by
  have f0:∀m:Nat,List.foldl (fun x1 x2=>x1++x2) #[] (Qr m its.toArray)=(Qr m its).flatten.toArray:=fun m=>by
   have:=kN its m [];rw[ZX]at this;exact this
  rw[f0];cases its with
  |nil=>simp
  |cons a r'=>rw[if_neg (by simp)]
 refine wpAny_binaryOp_repeat_ref (T:="list") (U:="int") (by decide) ⟨_,e,rfl⟩ (fun s'=>typeIs_int s' k t) noFill_list_mul F.fills_int_mul F.slot_int_rmul repeat_list F.slot_int_index.lookup
  (call_meets F.slot_int_rmul (typeIs_int s k t) F.entry_int_rmul (F.args_int_rmul_2 _ _) (int___rmul___int_list k t l its.toArray n)
   ⟨e,rfl,⟨_,e,rfl⟩,call_meets F.slot_list_mul ⟨_,e,rfl⟩ F.entry_list_mul (F.args_list_mul_2 _ _) (AutoListH.list___mul___list_int_3 l its.toArray n k t hfit hcap hlong) ⟨e,?_⟩⟩)
 rw[hnew];exact⟨.ref _,_,I.lnew (t':=s.toks) (r.rep k.toNat) (by rw[pR,Nat.mul_comm];exact hz),rfl,q _ I.fresh⟩
end
section
variable{κ:Type}[DecidableEq κ]
def lI(kvs:List (κ×V))(k:κ):Option V:=(kvs.find? fun kv=>decide (kv.1=k)).map (·.2)
def o8(kvs:List (κ×V))(k:κ)(v:V):List (κ×V):=
 if (kvs.any fun kv=>decide (kv.1=k))=true then kvs.map (fun kv=>if kv.1=k then(kv.1,v)else kv)else kvs++[(k,v)]
theorem mK{p:κ×V}{r:List (κ×V)}{k:κ}(e:p.1=k):lI (p::r) k=some p.2:=by simp[lI,Zk,e]
theorem mL{p:κ×V}{r:List (κ×V)}{k:κ}(e:¬p.1=k):lI (p::r) k=lI r k:=by simp[lI,Zk,e]
theorem qA(k:κ):∀kvs:List (κ×V),(kvs.any fun kv=>decide (kv.1=k))=(lI kvs k).isSome
 |[]=>rfl
 |p::r=>by
  rw[Zo];by_cases e:p.1=k
  ·simp only[mK e,decide_eq_true e,Bool.true_or,Option.isSome_some]
  ·rw[mL e,decide_eq_false e,Bool.false_or];exact qA k r
theorem kI(kvs:List (κ×V))(k:κ)(v:V):(o8 kvs k v).length<=kvs.length+1:=by
 unfold o8;split
 ·rw[QZ];omega
 ·rw[Qz,QD,List.length_nil];omega
theorem tR.isSome_eq{o:Option V}{u:Option Q6}(r:tR o u):o.isSome=u.isSome:=by
 cases o with
 |none=>cases u with
  |none=>rfl
  |some _=>exact(show False from r).elim
 |some _=>cases u with
  |none=>exact(show False from r).elim
  |some _=>rfl
theorem KV.val{kvs:List (κ×V)}{vs:List (κ×Q6)}(r:KV kvs vs)(k:κ):tR (lI kvs k) (valueAt vs k):=by
 unfold KV at r;induction r with
 |nil=>exact True.intro
 |@cons p q ps qs h t ih=>
  obtain⟨h1,h2⟩:=h;by_cases e:p.1=k
  ·have e':q.1=k:=h1.symm.trans e;have b:valueAt (q::qs) k=some q.2:=by simp[valueAt,Zk,e']
   rw[mK e,b];exact h2
  ·have e':¬q.1=k:=fun z=>e (h1.trans z);have b:valueAt (q::qs) k=valueAt qs k:=by simp[valueAt,Zk,e']
   rw[mL e,b];exact ih
theorem KV.any{kvs:List (κ×V)}{vs:List (κ×Q6)}(r:KV kvs vs)(k:κ):(kvs.any fun kv=>decide (kv.1=k))=vs.any fun kv=>decide (kv.1=k):=by
 unfold KV at r;induction r with
 |nil=>rfl
 |cons h t ih=>rw[Zo,Zo,ih,h.1]
theorem KV.repl{kvs:List (κ×V)}{vs:List (κ×Q6)}(r:KV kvs vs)(k:κ){y:V}{u:Q6}(ry:bX y u) :
  KV (kvs.map fun kv=>if kv.1=k then(kv.1,y)else kv) (vs.map fun kv=>if kv.1=k then(kv.1,u)else kv):=by
 unfold KV at r ⊢;induction r with
 |nil=>exact .nil
 |@cons p q ps qs h t ih=>
  rw[Qk,Qk];refine .cons ?_ ih;obtain⟨h1,h2⟩:=h;by_cases e:p.1=k
  ·rw[if_pos e,if_pos (h1.symm.trans e)];exact⟨h1,ry⟩
  ·rw[if_neg e,if_neg (fun z=>e (h1.trans z))];exact⟨h1,h2⟩
theorem KV.put{kvs:List (κ×V)}{vs:List (κ×Q6)}(r:KV kvs vs)(k:κ){y:V}{u:Q6}(ry:bX y u):KV (o8 kvs k y) (stored vs k u):=by
 unfold o8 stored;rw[r.any k];by_cases e:(vs.any fun kv=>decide (kv.1=k))=true
 ·rw[if_pos e,if_pos e];exact r.repl k ry
 ·rw[if_neg e,if_neg e];exact Paired.snoc r ⟨rfl,ry⟩
theorem KV.length{kvs:List (κ×V)}{vs:List (κ×Q6)}(r:KV kvs vs):kvs.length=vs.length:=Paired.length r
end
theorem zp{P:Qu}{w:Qm}{k:Key}{u:Q6}(r:bX (kV k) u):(bA P w).is k u=true:=by
 cases k with
 |inl i=>obtain⟨t,e⟩:=(show ∃t,u=Value.int i t from r);subst e;exact pO P w i t
 |inr x=>obtain⟨t,e⟩:=(show ∃t,u=Value.str x t from r);subst e;exact pN P w x t
theorem kK{P:Qu}{w:Qm}:∀{ks:List Key} {us:List Q6},bh (ks.map kV) us->ItemsAre (bA P w) ks us
 |[],_,r=>by rw[Zl]at r;cases r;exact .nil
 |k::ks,_,r=>by
  rw[Qk]at r;cases r with
  |cons h t=>exact .cons (zp h) (kK t)
abbrev KT(H:Hp):List (List Key×V)->List (List Key×Addr×Q6)->Prop:=Paired fun p q=>p.1=q.1/\H q.2.1=some (.tup (p.1.map kV))/\bX p.2 q.2.2
theorem KT.val{H:Hp}{kvs:List (List Key×V)}{xs:List (List Key×Addr×Q6)}(r:KT H kvs xs)(k:List Key):tR (lI kvs k) ((atKey xs k).map (·.2)):=by
 induction r with
 |nil=>exact True.intro
 |@cons p q ps qs h t ih=>
  obtain⟨h1,_,h2⟩:=h;by_cases e:p.1=k
  ·have e':q.1=k:=h1.symm.trans e;have b:atKey (q::qs) k=some q.2:=by simp[atKey,Zk,e']
   rw[mK e,b];exact h2
  ·have e':¬q.1=k:=fun z=>e (h1.trans z);have b:atKey (q::qs) k=atKey qs k:=by simp[atKey,Zk,e']
   rw[mL e,b];exact ih
theorem KT.repl{H:Hp}{kvs:List (List Key×V)}{xs:List (List Key×Addr×Q6)}(r:KT H kvs xs)(k:List Key){y:V}{u:Q6}(ry:bX y u) :
  KT H (kvs.map fun kv=>if kv.1=k then(kv.1,y)else kv) (xs.map (putAt k u)):=by
 induction r with
 |nil=>exact .nil
 |@cons p q ps qs h t ih=>
  rw[Qk,Qk];refine .cons ?_ ih;obtain⟨h1,h2,h3⟩:=h;unfold putAt;by_cases e:p.1=k
  ·rw[if_pos e,if_pos (h1.symm.trans e)];exact⟨h1,h2,ry⟩
  ·rw[if_neg e,if_neg (fun z=>e (h1.trans z))];exact⟨h1,h2,h3⟩
theorem KT.put{H:Hp}{kvs:List (List Key×V)}{xs:List (List Key×Addr×Q6)}(r:KT H kvs xs)(k:List Key){b:Addr}{y:V}{u:Q6}(hb:H b=some (.tup (k.map kV)))(ry:bX y u) :
  KT H (o8 kvs k y) (storedH xs k b u):=by
 have e:(kvs.any fun kv=>decide (kv.1=k))=(atKey xs k).isSome:=by
  rw[qA,(r.val k).isSome_eq,Option.isSome_map]
 unfold o8 storedH;rw[e];by_cases q:(atKey xs k).isSome=true
 ·rw[if_pos q,if_pos q];exact r.repl k ry
 ·rw[if_neg q,if_neg q];exact Paired.snoc r ⟨rfl,hb,ry⟩
theorem KT.keeps{H H':Hp}{kvs:List (List Key×V)}{xs:List (List Key×Addr×Q6)}(r:KT H kvs xs)(ht:∀b ys,H b=some (.tup ys)->H' b=some (.tup ys)):KT H' kvs xs:=
 Paired.mapP r fun _ _ z=>⟨z.1,ht _ _ z.2.1,z.2.2⟩
section
variable{P:Qu}{w:Qm}{H:Hp}{h:Heap}{a:Addr}
theorem EB{u:HO}(ok:HOk P w H h)(e:Rd H a u):bR P w H h a u:=e.ok ok
theorem wR{kvs:List (Key×V)}(ok:HOk P w H h)(e:Rd H a (.dK kvs)):kvs.length<=QN/\(a == sysModules)=false/\∃vs,KV kvs vs/\h.DictOf (bA P w) a vs:=
 show bR P w H h a (.dK kvs)from EB ok e
theorem Jo{kvs:List (Key×V)}(ok:HOk P w H h)(e:H a=some (.dK kvs)):kvs.length<=QN/\(a == sysModules)=false/\∃vs,KV kvs vs/\h.DictOf (bA P w) a vs:=wR ok (.inl e)
theorem rq{ks:List Key}(ok:HOk P w H h)(e:H a=some (.tup (ks.map kV))):(tupleKind (bA P w)).is h ks a:=by
 obtain⟨_,its,r,o,h1,h2,n,h3⟩:=(show bR P w H h a (.tup (ks.map kV))from ok a _ e);exact⟨o,its.toArray,n,h1,h2.1,h3,by simpa using kK r⟩
theorem tJ{kvs:List (List Key×V)}(ok:HOk P w H h)(e:Rd H a (.dT kvs)):kvs.length<=QN/\(a == sysModules)=false/\
  ∃xs,KT H kvs xs/\h.DictOfH (tupleKind (bA P w)) a xs:=by
 obtain⟨z,y,xs,r,o,es,ep,h1,h2,h3,h4,h5⟩:=(show bR P w H h a (.dT kvs)from EB ok e);refine⟨z,y,xs,r,o,es,ep,h1,h2,h3,h4,fun x hx=>?_,h5⟩;have all:∀{l:List (List Key×V)} {m:List (List Key×Addr×Q6)},KT H l m->∀x∈m,(tupleKind (bA P w)).is h x.1 x.2.1:=by
  intro l m q;induction q with
  |nil=>intro x hx;exact nomatch hx
  |@cons p q ps qs hq t ih=>
   intro x hx;rcases QL.mp hx with e|hx
   ·subst e;exact rq ok (by rw[<-hq.1];exact hq.2.1)
   ·exact ih x hx
 exact all r x hx
theorem Jn{kvs:List (List Key×V)}(ok:HOk P w H h)(e:H a=some (.dT kvs)):kvs.length<=QN/\(a == sysModules)=false/\
  ∃xs,KT H kvs xs/\h.DictOfH (tupleKind (bA P w)) a xs:=tJ ok (.inl e)
end
def DGet(H:Hp)(a:Addr)(y:V)(r:Option V):Prop:=
 (∃kvs k,Rd H a (.dK kvs)/\y=kV k/\r=lI kvs k)\/∃kvs k b,Rd H a (.dT kvs)/\y=.ref b/\H b=some (.tup (k.map kV))/\r=lI kvs k
def AX(H:Hp)(a:Addr)(y v:V)(H':Hp):Prop:=
 (∃kvs k,H a=some (.dK kvs)/\y=kV k/\kvs.length<QN/\H'=upd H a (.dK (o8 kvs k v)))\/
 ∃kvs k b,H a=some (.dT kvs)/\y=.ref b/\H b=some (.tup (k.map kV))/\kvs.length<QN/\H'=upd H a (.dT (o8 kvs k v))
theorem DGet.k{H:Hp}{a:Addr}{kvs:List (Key×V)}{k:Key}(e:H a=some (.dK kvs)):DGet H a (kV k) (lI kvs k):=.inl ⟨kvs,k,.inl e,rfl,rfl⟩
theorem AX.k{H:Hp}{a:Addr}{kvs:List (Key×V)}{k:Key}{v:V}(e:H a=some (.dK kvs))(hl:kvs.length<QN):AX H a (kV k) v (upd H a (.dK (o8 kvs k v))):=.inl ⟨kvs,k,e,rfl,hl,rfl⟩
theorem AX.t{H:Hp}{a b:Addr}{kvs:List (List Key×V)}{k:List Key}{v:V}(e:H a=some (.dT kvs))(eb:H b=some (.tup (k.map kV)))(hl:kvs.length<QN) :
  AX H a (.ref b) v (upd H a (.dT (o8 kvs k v))):=.inr ⟨kvs,k,b,e,rfl,eb,hl,rfl⟩
section
variable{X:Cx}{pins:List (Addr×Obj)}{σ:St}{H:Hp}{s:QQ}{a:Addr}{y v:V}{u r:Q6}{o:Option V}{A:Z9}{E:Q6->QQ->Prop}
theorem Inv.big(I:Inv X pins σ H s):sysModules<s.heap.objs.size:=by
 have h:mainGlobals<s.heap.objs.size:=(I.mod.glob.keeps I.bk).lt;exact Nat.lt_trans (by decide) h
theorem w9{Q:Q6->QQ->Prop}(hu:A.units+1<cLine)(I:Inv X pins σ H s)(g:DGet H a y (some v))(ry:bX y u)(h:∀w' s',Inv X pins σ H s'->bX v w'->Q w' s') :
  wpAny (Qx X.prog X.w) A (getItem (.ref a) u) Q E s:=by
 rcases g with⟨kvs,k,e,ey,l⟩|⟨kvs,k,b,e,ey,eb,l⟩
 ·subst ey;obtain⟨z,hd,vs,rel,dd⟩:=wR I.hok e;obtain⟨w',hw,rw'⟩:=tR.some_of (v:=v) (o:=valueAt vs k) (by rw[l];exact rel.val k);exact wpAny_getItem_of (zp ry) dd.mapOf hw (h w' _ (I.tok _) rw')
 ·subst ey;cases (show u=Value.ref b from ry);obtain⟨z,hd,xs,rel,dd⟩:=tJ I.hok e;obtain⟨w',hw,rw'⟩:=tR.some_of (v:=v) (o:=(atKey xs k).map (·.2)) (by rw[l];exact rel.val k);obtain⟨p,hp,hp2⟩:=ZQ.mp hw;refine wpAny_getItem_heap (tupleKind_room_in1 hu) (rq I.hok eb) dd hp ?_;rw[hp2];exact h w' _ (I.tok _) rw'
theorem KH{Q:Q6->QQ->Prop}(hu:A.units+1<cLine)(I:Inv X pins σ H s)(g:DGet H a y o)(ry:bX y u)(h:∀s',Inv X pins σ H s'->Q (.bool o.isSome) s') :
  wpAny (Qx X.prog X.w) A (compareOp .In u (.ref a)) Q E s:=by
 rcases g with⟨kvs,k,e,ey,l⟩|⟨kvs,k,b,e,ey,eb,l⟩
 ·subst ey;obtain⟨z,hd,vs,rel,dd⟩:=wR I.hok e;refine wpAny_in_of (zp ry) hd dd.mapOf ?_;rw[<-(rel.val k).isSome_eq,<-l];exact h _ (I.tok _)
 ·subst ey;cases (show u=Value.ref b from ry);obtain⟨z,hd,xs,rel,dd⟩:=tJ I.hok e;refine wpAny_in_heap (tupleKind_room_in1 hu) (rq I.hok eb) hd dd ?_;have q:=(rel.val k).isSome_eq;rw[Option.isSome_map]at q;rw[<-q,<-l];exact h _ (I.tok _)
theorem wY{h':Heap}{t':Nat}{ob:HO}(I:Inv X pins σ H s)(mu:Mut (H a))(hs:Heap.SameBut a s.heap h')(he:∃q,h'.get? a=some q)(new:bR X.prog X.w (upd H a ob) h' a ob) :
  Inv X pins σ (upd H a ob) { s with heap:=h',toks:=t' }:=
 I.write (x:=a) (e:=a) mu (.inl rfl) (fun b q hb z=>(hs.2 b hb).trans z) he new
theorem F6{P:Qu}{w:Qm}{H':Hp}{h':Heap}{kvs:List (Key×V)}{vs:List (Key×Q6)}(z:kvs.length<=QN)(hd:(a == sysModules)=false)(rel:KV kvs vs)(dd:h'.DictOf (bA P w) a vs) :
  bR P w H' h' a (.dK kvs):=⟨z,hd,vs,rel,dd⟩
theorem wZ{H':Hp}{Q:Unit->QQ->Prop}(hu:A.units+1<cLine)(I:Inv X pins σ H s)(g:AX H a y v H')(ry:bX y u)(rv:bX v r)(h:∀s',Inv X pins σ H' s'->Q () s') :
  wpAny (Qx X.prog X.w) A (setItem (.ref a) u r) Q E s:=by
 rcases g with⟨kvs,k,e,ey,l,eH⟩|⟨kvs,k,b,e,ey,eb,l,eH⟩
 ·subst ey eH;obtain⟨z,hd,vs,rel,dd⟩:=Jo I.hok e;have hz:vs.length<=QN:=by rw[<-rel.length];exact z
  have hl:(o8 kvs k v).length<=QN:=by have:=kI kvs k v;omega
  refine wpAny_setItem_pairs (hsz:=hz) (zp ry) dd fun h' dd' hs=>h _ ?_;have he:∃q,h'.get? a=some q:=let ⟨q,_,_,hq,_⟩:=dd';⟨q,hq⟩
  exact wY I (by rw[e];exact True.intro) hs he (F6 hl hd (rel.put k rv) dd')
 ·subst ey eH;cases (show u=Value.ref b from ry);obtain⟨z,hd,xs,rel,dd⟩:=Jn I.hok e;have hz:xs.length<=QN:=by rw[<-Paired.length rel];exact z
  have hl:(o8 kvs k v).length<=QN:=by have:=kI kvs k v;omega
  refine wpAny_setItem_heap (hsz:=hz) (tupleKind_room_in1 hu) (rq I.hok eb) dd fun h' dd' hs=>h _ ?_;obtain⟨q,es,ep,hq,h2,h3,h4,_,h5⟩:=dd';refine wY I (by rw[e];exact True.intro) hs ⟨q,hq⟩ ⟨hl,hd,_,(rel.put k eb rv).keeps fun c ys ec=>?_,q,es,ep,hq,h2,h3,h4,h5⟩;rw[bc (IK ec e (fun z=>nomatch z))];exact ec
end
section
variable{X:Cx}{pins:List (Addr×Obj)}{σ:St}{H:Hp}{s:QQ}{a:Addr}{kvs:List (Key×V)}{A:Z9}{E:Q6->QQ->Prop}
theorem Jp{Q:Q6->QQ->Prop}(I:Inv X pins σ H s)(e:Rd H a (.dK kvs))(h:∀t s',Inv X pins σ H s'->Q (.int kvs.length t) s'):wpAny (Qx X.prog X.w) A (call (.builtin "len") [.ref a]) Q E s:=by
 obtain⟨z,hd,vs,rel,dd⟩:=wR I.hok e;refine call_len_dict hd dd (by rw[<-rel.length];rw[sizeLine_eq]at z;omega) ?_;rw[<-rel.length];exact h _ _ (I.tok _)
end
def Dj(i:Qq):Prop:=∀ov iv,subscripted i false ov iv=operate [ov,iv] (getItem ov iv)
theorem uK{prog:Qu}{w:Qm}{A:Z9}{E:Q6->QQ->Prop}{s:QQ}{env:Env}{value slice:Qq}{pos:Pos}{T id:String}{Q:Q6->QQ->Prop}
  (hl:typeLookup (.type T) "__getitem__"=pure (some (.builtin id))) (hs:Dj slice)
  (h:wpAny (Qx prog w) A (eval value env) (fun o s₁=>wpAny (Qx prog w) A (eval slice env) (fun i s₂=>s₂.TypeIs o T/\wpAny (Qx prog w) A (getItem o i) Q E s₂) E s₁) E s) :
  wpAny (Qx prog w) A (eval (.Subscript value slice pos) env) Q E s:=by
 refine Subscript_ (ZG h (fun o s₁ h₁=>ZG h₁ (fun i s₂ h₂=>?_) fun _ _ x=>x) fun _ _ x=>x);obtain⟨hT,h₂⟩:=h₂;unfold subscriptTail;refine Q2 ?_;rw[getitemInPython_of_ne hT.not_modules];refine Q2 (wpAny_specialOf hT hl ?_);have fin:wpAny (Qx prog w) A (subscripted slice false o i) (fun r s₃=>wpAny (Qx prog w) A (letTemporaryGo value o r >>= fun _=>pure r) Q E s₃) E s₂:=by
  rw[hs o i];exact wpAny_operating (ZG h₂ (fun r s₃ h₃=>Q2 (wpAny_letTemporaryGo (Q8 h₃))) fun _ _ x=>x)
 first
  |exact Q8 (Q2 fin)
  |exact Q2 (Q8 (Q2 fin))
  |exact Q2 fin
theorem qh{X:Cx}{pins:List (Addr×Obj)}{σ:St}{H:Hp}{s:QQ}{a:Addr}{y:V}{o:Option V}(I:Inv X pins σ H s)(g:DGet H a y o):s.TypeIs (.ref a) "dict":=by
 rcases g with⟨kvs,k,e,_,_⟩|⟨kvs,k,b,e,_,_,_⟩
 ·obtain⟨_,_,vs,_,dd⟩:=wR I.hok e;exact dd.typeIs
 ·obtain⟨_,_,xs,_,dd⟩:=tJ I.hok e;exact dd.typeIs
def En(td ty:TE):TE:=fun σ H Q=>td σ H fun x H1=>ty σ H1 fun y H2=>∃a v,x=.ref a/\DGet H2 a y (some v)/\Q v H2
def HR(ty td:TE):TE:=fun σ H Q=>ty σ H fun y H1=>td σ H1 fun x H2=>∃a o,x=.ref a/\DGet H2 a y o/\Q (.bl o.isSome) H2
def Ex(td ty tv:TE):TS:=fun D σ H=>tv σ H fun v H1=>td σ H1 fun x H2=>ty σ H2 fun y H3=>∃a H4,x=.ref a/\AX H3 a y v H4/\D.nx σ H4
section
variable{X:Cx}{o i value:Qq}{pos pos':Pos}{td ty tv:TE}
theorem Ce(hu:X.A.units+1<cLine)(ho:PE X o td)(hi:PE X i ty)(hs:Dj i):PE X (.Subscript o i pos) (En td ty):=by
 intro pins s σ H Q I h;refine uK PySem.F.slot_dict_getitem.lookup hs (thn (ho pins s σ H _ I h) fun u s1 ⟨x,H1,I1,rx,q1⟩=>thn (hi pins s1 σ H1 _ I1 q1) fun iv s2 hz=>?_);obtain⟨y,H2,I2,ry,a,v,ex,g,q2⟩:=hz;subst ex;obtain rfl:u=Value.ref a:=rx;exact⟨qh I2 g,w9 hu I2 g ry fun w' s3 I3 rw'=>⟨v,H2,I3,rw',q2⟩⟩
theorem E8(hu:X.A.units+1<cLine)(hi:PE X i ty)(ho:PE X o td):PC X .In i o (HR ty td):=by
 intro pins s σ H Q I h;refine thn (hi pins s σ H _ I h) fun iv s1 ⟨y,H1,I1,ry,q1⟩=>thn (ho pins s1 σ H1 _ I1 q1) fun u s2 hz=>?_;obtain⟨x,H2,I2,rx,a,ov,ex,g,q2⟩:=hz;subst ex;obtain rfl:u=Value.ref a:=rx;exact KH hu I2 g ry fun s3 I3=>⟨.bl ov.isSome,H2,I3,rfl,q2⟩
theorem B7(hu:X.A.units+1<cLine)(ho:PE X o td)(hi:PE X i ty)(hv:PE X value tv)(hs:Ze value (some (.Subscript o i pos')) pos.line X.env=pure false) :
  PS X (.Assign [.Subscript o i pos'] value pos) (Ex td ty tv):=by
 intro pins s σ H D I h;refine wpAny_Assign_Subscript (thn (hv pins s σ H _ I h) fun r s1 ⟨v,H1,I1,rv,q1⟩=>thn (ho pins s1 σ H1 _ I1 q1) fun u s2 ⟨x,H2,I2,rx,q2⟩=>thn (hi pins s2 σ H2 _ I2 q2) fun iv s3 hz=>?_) hs;obtain⟨y,H3,I3,ry,a,H4,ex,g,q3⟩:=hz;subst ex;obtain rfl:u=Value.ref a:=rx;exact wZ hu I3 g ry rv fun s4 I4=>⟨σ,H4,I4,q3⟩
end
theorem zF{P:Qu}{w:Qm}{H:Hp}(h:Heap)(hb:sysModules<h.objs.size):bR P w H (h.push { cls:=.type "dict",data:=.dict #[] }) h.objs.size (.dT []):=
 ⟨ZN _,beq_eq_false_iff_ne.mpr (Ne.symm (Qj hb)),[],.nil,_,#[],0,QV _ rfl,⟨rfl,rfl,rfl⟩,rfl,rfl,Zm⟩
def Ah:TE:=fun _ H Q=>∀p,H p=none->Q (.ref p) (upd H p (.dT []))
section
variable{X:Cx}{pos:Pos}
theorem yT:PE X (.Dict [] [] pos) Ah:=fun pins s σ H Q I h=>
 wpAny_Dict_empty ⟨.ref s.heap.objs.size,_,I.laid (a:=s.heap.objs.size) (o:=.dT []) (t':=s.toks) (fun _ _ q=>Q4 _ q) (QJ _) (zF s.heap I.big),rfl,h _ (I.hok.fresh (QJ _))⟩
end
end L2
namespace Att
open PySem PySem.W PySem.Calls PyProof.Rows
theorem kL{P:Params}{h:Heap}:∀(ns:List Int) (vs:List Q6),WellAll P h vs (ns.map WData.int)->IntsAre vs ns:=by
 intro ns;induction ns with
 |nil=>
  intro vs w;rw[Zl]at w;cases w;exact .nil
 |cons n ns ih=>
  intro vs w;rw[Qk]at w;cases w with
  |cons a b=>
   cases a;exact .cons _ _ (ih _ b)
theorem uS{l:OpenLaw}{n:Nat}(hn:l.most=some n){P:Params}{h:Heap}{args:List WData}{vals:List Q6}
  (hpre:l.row.toRowW.claim.pre args=true) (hwl:WellAll P h vals args) :
  ∃a vs ns,vals=[Value.ref a]/\args=[WData.list (ns.map WData.int)]/\h.get? a=some { cls:=.type "list",data:=.seq vs.toArray }/\IntsAre vs ns/\ns.length<=n:=by
 have hsh:WShape.hasAll [] args [.list .int]=true:=(pre_splitW hpre).1;have hc:l.pre.holds [] { args:=args }=true:=(pre_splitW hpre).2;obtain⟨d,r,rfl,h1,h2⟩:=hasAllW_cons hsh;obtain rfl:=hasAllW_nil h2;obtain⟨xs,rfl,h3⟩:=hasW_list h1;obtain⟨ns,rfl⟩:=items_int h3;have hlen:ns.length<=n:=by
  unfold OpenLaw.pre at hc;have h4:(WTm.not (.lt (.lit (.int (n:Int))) (.len (.arg 0)))).holds [] { args:=[.list (ns.map .int)] }=true:=by
   have h4:=(holds_andW hc).1;rw[hn]at h4;exact h4
  have h5:=condW_of h4 (w_not (w_lt w_lit (w_len_list (w_arg rfl))));rw[QZ]at h5;refine Nat.le_of_not_lt fun q=>?_;have q':(n:Int)<((ns.length:Nat):Int):=by omega
  first
   |(rw[decide_eq_true q']at h5;exact absurd h5 (by decide))
   |(simp at h5;omega)
 cases hwl with
 |cons w1 w2=>
  cases w2;cases w1 with
  |list ho hall=>exact⟨_,_,ns,rfl,rfl,ho,kL ns _ hall,hlen⟩
theorem vv(l:OpenLaw)(args:List WData):l.row.toRowW.claim.post args (.bool true) args=true:=
 postW_of (r:=l.row.toRowW) (X:=(true == true))
  (show WShape.has [] (.bool true) .bool=true by first|rfl|decide|simp[WShape.has,WShape.arms,WShape.armsAll])
  (show(WTm.eq .res (.lit (.bool true))).value [] { args:=args,res:=some (.bool true),after:=args }=some (.bool (true == true))from w_eq_bool (w_res rfl) w_lit) rfl
theorem attach_call{l:OpenLaw}{n:Nat}{q:Qu}{loose:List Str}{XP:(Str->Option Q6)->Heap->Prop}{YP:Qm->Heap->Prop}{d:DefRec}
  (hn:l.most=some n) (hdf:d.params.defaults=[])
  (call:∀(w:Qm) (s₀ s₁:QQ) (mg mb:Str->Option Q6) (fa:Addr) (o:Obj) (pm cd doc:Q6) (a:Addr) (vs:List Q6) (ns:List Int),
   Ground q loose [] XP w s₀ mg mb s₁.heap->YP w s₁.heap->
   s₁.heap.get? fa=some o->o.data=.func (docDef d.name d.params d.body d.scope pm cd doc)->s₁.heap.CodeRec cd d.name->mg d.name=some (.ref fa)->
   s₁.heap.get? a=some { cls:=.type "list",data:=.seq vs.toArray }->IntsAre vs ns->ns.length<=n->s₁.gens=#[]->
   codeAny (Qx l.prog w) callerA (.call (.ref fa) ⟨[.ref a],[]⟩) (fun r s'=>r=.ok (.ret (.bool true))/\OldK s₁.heap s'.heap/\s'.os=s₁.os/\AllBare s'.gens) s₁) :
  WalkO q loose XP YP l.row.toRowW d [] (fun f vs=>PySem.call f vs):=by
 intro w s₀ s₁ mg mb G Y fa o pm cd doc dV kV ho hd hcd hD hmg hg args vals as hpre hlay hrd hwl hlo;obtain rfl:dV=.none:=Dflts.none hD hdf;obtain rfl:kV=.none:=Dflts.noKw hD;obtain⟨a,vs,ns,rfl,rfl,hobj,hints,hlen⟩:=uS hn hpre hwl;refine enter_call (codeAny_mono (call w s₀ s₁ mg mb fa o pm cd doc a vs ns G Y ho (fd_plain hd) hcd hmg hobj hints hlen hg) fun r s' hq=>?_);obtain⟨rfl,h2,h3,h4⟩:=hq;exact⟨.inl ⟨.bool true,.bool true,[],rfl,fun _=>rfl,.bool true,vv l _,fun _=>⟨List.Pairwise.nil,fun _ hm=>(nomatch hm)⟩⟩,h2,h3,h4⟩
end Att
namespace L2
open PySem PySem.Spec PyProof.Rows
theorem g6:∀{vs:List Q6} {ns:List Int},IntsAre vs ns->bh (ns.map V.int) vs
 |_,_,.nil=>.nil
 |_,_,.cons n t h=>.cons ⟨t,rfl⟩ (g6 h)
def GK(H:Hp):Prop:=∀b,H b=none\/∃o xs,H b=some (.frz o (.lst xs))
theorem zo{P:Qu}{w:Qm}{K:Q5}{mg mb:Str->Option Q6}{CX:CXT}{k:Nat}{fa a:Addr}{fd:Zp}{x:Str}{sp:Sp}{s₁:QQ}{vs:List Q6}{ns:List Int}
  (KX:K.In s₁.heap) (hns:s₁.heap.Ns mainGlobals mg) (hb:s₁.heap.Ns builtinsNs mb) (hbb:∀x:Str,x≠"__name__"->mb x=Z7 x) (hlim:s₁.heap.NoLimit) (hg:s₁.gens=#[])
  (ha:s₁.heap.get? a=some { cls:=.type "list",data:=.seq vs.toArray }) (hi:IntsAre vs ns) (hl:ns.length<=QN) (hr:lA k callerA)
  (F:∀base:Heap,K.In base->base.Ns mainGlobals mg->pf P w K mg base CX k fa fd [x] sp) (hbind:∀(s:QQ) (u:Q6),BindsTo s fd ⟨[u],[]⟩ [(x,u)])
  (hsp:∀H:Hp,GK H->SqL K H a (ns.map V.int)->sp [.ref a] H (fun v _=>v=.bl true) fun _ _ _=>False)
  (hCX:∀H e s',CX [] H s₁ (fun _ _ _=>False) e s'->False) :
  codeAny (Qx P w) callerA (.call (.ref fa) ⟨[.ref a],[]⟩) (fun r s'=>r=.ok (.ret (.bool true))/\OldK s₁.heap s'.heap/\s'.os=s₁.os/\AllBare s'.gens) s₁:=by
 have rv:=g6 hi;have lenV:=hi.length;have core:∀H:Hp,GK H->SqL K H a (ns.map V.int)->HOk P w H s₁.heap->(∀b,H b≠none->b=a)->(H a≠none->K.lookup a=none)->
   codeAny (Qx P w) callerA (.call (.ref fa) ⟨[.ref a],[]⟩) (fun r s'=>r=.ok (.ret (.bool true))/\OldK s₁.heap s'.heap/\s'.os=s₁.os/\AllBare s'.gens) s₁:=by
  intro H hO hS hok hA hK;have base_of:∀{b:Addr} {o:Obj},s₁.heap.get? b=some o->H b=none->(zy s₁.heap H).get? b=some o:=fun e n=>zx e n;have noA:∀{b:Addr} {o:Obj} {es:Array DictEntry} {ep:Nat},s₁.heap.get? b=some o->o.data=.dict es ep->H b=none:=fun{b o es ep} e d=>by
   cases q:H b with
   |none=>rfl
   |some u=>
    have e':b=a:=hA b (by rw[q];simp);subst e';rw[ha]at e;cases e;have d':Data.seq vs.toArray _=Data.dict es ep:=d;cases d'
  have nsK:∀{b:Addr} {m:Str->Option Q6},s₁.heap.Ns b m->(zy s₁.heap H).Ns b m:=fun{b m} ⟨o,es,ep,e,d,r⟩=>⟨o,es,ep,base_of e (noA e d),d,r⟩;have hKb:K.In (zy s₁.heap H):=fun b o e=>base_of (KX b o e) (by
   cases q:H b with
   |none=>rfl
   |some u=>
    have e':b=a:=hA b (by rw[q];simp);subst e';rw[hK (by rw[q];simp)]at e;cases e)
  have hM:Mod K mg (zy s₁.heap H):=⟨hKb,nsK hns,⟨mb,nsK hb,hbb⟩,let ⟨mc,h1,h2⟩:=hlim;⟨mc,nsK h1,h2⟩⟩;have e0:GN P w K mg (zy s₁.heap H) callerA [] s₁ H:=⟨rfl,hM,fun b o e=>Ct e,Nat.le_of_eq (wz _ _),trivial,fun b hb=>absurd (show b∈([]:List Addr)from hb) (by simp),hok,.of_eq hg⟩;refine codeAny_mono ((F _ hKb (nsK hns)).run callerA [] s₁ H ⟨[.ref a],[]⟩ [.ref a] [.ref a] _ _ hr e0 (hbind s₁ (.ref a)) (.cons rfl .nil) (hsp H hO hS)) fun r s' h=>?_;cases r with
  |error e=>exact(hCX H e s' h).elim
  |ok fl=>
   cases fl with
   |next=>exact False.elim h
   |brk=>exact False.elim h
   |cont=>exact False.elim h
   |ret u=>
    obtain⟨v,H',os,bare,un,hok',r',q⟩:=h;have q':v=.bl true:=q;subst q';obtain rfl:u=Value.bool true:=r';refine⟨rfl,OldK.of_keep fun b o e=>?_,os,bare⟩;cases q:H b with
    |none=>exact un.keep b o e q (by intro z;exact absurd (show b∈([]:List Addr)from z) (by simp)) (by simp)
    |some u=>
     rcases hO b with z|⟨ob,xs,z⟩
     ·rw[q]at z;cases z
     ·have z2:=un.frzs b ob _ z;obtain⟨e1,_⟩:=hok b _ z;obtain⟨e2,_⟩:=hok' b _ z2;rw[e]at e1;cases e1;exact e2
 cases hk:K.lookup a with
 |some o=>
  have e:=KX a o hk;rw[ha]at e;cases e;refine core (fun _=>none) (fun _=>.inl rfl) (.inr ⟨_,vs.toArray,_,hk,rfl,rfl,rfl,by rw[QM,lenV];exact hl,by simpa using rv⟩) (fun b u z=>by have z':(none:Option HO)=some u:=z;cases z') (fun b z=>absurd rfl z) fun z=>absurd rfl z
 |none=>
  refine core (fun b=>if b=a then some (.frz { cls:=.type "list",data:=.seq vs.toArray } (.lst (ns.map V.int)))else none) (fun b=>?_) (.inl (.inr ⟨{ cls:=.type "list",data:=.seq vs.toArray },if_pos rfl⟩)) (fun b u z=>?_) (fun b z=>?_) fun _=>hk
  ·by_cases hb:b=a
   ·exact .inr ⟨_,_,if_pos hb⟩
   ·exact .inl (if_neg hb)
  ·by_cases hb:b=a
   ·have z':=(if_pos hb).symm.trans z;cases z';subst hb;exact⟨ha,by rw[QZ];exact hl,vs,_,rv,ha⟩
   ·have z':=(if_neg hb).symm.trans z;cases z'
  ·by_cases hb:b=a
   ·exact hb
   ·exact absurd (if_neg hb) z
theorem BA{l:PySem.W.OpenLaw}{n k:Nat}{q:Qu}{loose:List Str}{XP:(Str->Option Q6)->Heap->Prop}{YP:Qm->Heap->Prop}{d:DefRec}{K:Params->Q5}{CX:Qm->CXT}{sp:Qm->Sp}{x:Str}
  (hn:l.most=some n) (hn2:n<=QN) (hdf:d.params.defaults=[]) (hr:lA k callerA)
  (hY:∀(w:Qm) (h:Heap),YP w h->(K w.params).In h)
  (F:∀(w:Qm) (mg:Str->Option Q6) (fa:Addr) (h:Heap),(K w.params).In h->h.Ns mainGlobals mg->mg d.name=some (.ref fa)->
   ∃fd:Zp,(∀(s:QQ) (u:Q6),BindsTo s fd ⟨[u],[]⟩ [(x,u)])/\
    ∀base:Heap,(K w.params).In base->base.Ns mainGlobals mg->pf l.prog w (K w.params) mg base (CX w) k fa fd [x] (sp w))
  (hsp:∀(w:Qm) (H:Hp) (a:Addr) (ns:List Int),ns.length<=n->GK H->SqL (K w.params) H a (ns.map V.int)->sp w [.ref a] H (fun v _=>v=.bl true) fun _ _ _=>False)
  (hCX:∀(w:Qm) (H:Hp) (s:QQ) (e:Q6) (s':QQ),CX w [] H s (fun _ _ _=>False) e s'->False) :
  PySem.W.WalkO q loose XP YP l.row.toRowW d [] (fun f vs=>PySem.call f vs):=by
 refine Att.attach_call hn hdf fun w s₀ s₁ mg mb fa o pm cd doc a vs ns G Y ho hd hcd hmg hobj hints hlen hg=>?_;have KX:=hY w _ Y;obtain⟨fd,hb,hF⟩:=F w mg fa _ KX G.T.g hmg;exact zo KX G.T.g G.T.b G.T.builtins G.T.nolimit hg hobj hints (Qo hlen hn2) hr hF hb (fun H hO hS=>hsp w H a ns hlen hO hS) fun H e s'=>hCX w H s₁ e s'
def gO(s:ZR):Arguments:=match s with
 |.FunctionDef _ a _ _ _ _ _ _ _ _=>a
 |_=>{ posonlyargs:=[],args:=[],vararg:=none,kwonlyargs:=[],kw_defaults:=[],kwarg:=none,defaults:=[] }
def dX(s:ZR):List ZR:=match s with
 |.FunctionDef _ _ b _ _ _ _ _ _ _=>b
 |_=>[]
def aE(s:ZR):X2:=match s with
 |.FunctionDef _ _ _ _ _ _ sc _ _ _=>sc
 |_=>{ kind:=.function,names:=[],isGenerator:=false,isCoroutine:=false }
abbrev CX0:CXT:=fun _ _ _ _ _ _=>False
abbrev E0:XK:=fun _ _ _=>False
theorem IA{X:Cx}:xG CX0 X E0:=fun _ _ _ _ _ _ _ h=>h.elim
structure Fun(K:Q5)(x qual:Str)(st:ZR)(f:Addr)(fd:Zp):Prop where
 ex:∃(oc:Q6) (od:Option Addr) (kV doc pm:Q6) (an:Option Addr) (cdv ct:Q6) (osl:Array (Option Q6)),
  fd=PySem.W.fnOf x qual (gO st) (dX st) (aE st) .none kV doc pm an cdv ct/\K.lookup f=some ⟨oc,od,.func fd,osl⟩/\PySem.W.codeIn K cdv qual=true
 kp:PySem.W.keepIn K (.ref f)=true
section
variable{P:Qu}{w:Qm}{K:Q5}{mg:Str->Option Q6}{base:Heap}
theorem Fun.ok{x qual:Str}{st:ZR}{f:Addr}{fd:Zp}{N ps:List Str}{k:Nat}{sp:Sp}(F:Fun K x qual st f fd)(S:a5 N ps (aE st))(len:∀vs H Q E,sp vs H Q E->vs.length=ps.length)
  (hbody:∀(cdv:Q6) (A:Z9) (outer:List Env) (s:QQ) (H:Hp) (vs:List V) (Q:VK) (E:XK),lA k (A.deeper (envOfC qual (aE st) s.heap.objs.size f cdv))->sp vs H Q E->
   ∃t,PSs (xN CX0 P w K mg base N qual (aE st) f cdv A outer s H E).nox (dX st) t/\t { nx:=fun _ H'=>Q .non H',rt:=Q } (g9 N vs) H):pf P w K mg base CX0 (k+1) f fd ps sp:=by
 obtain⟨oc,od,kV,doc,pm,an,cdv,ct,osl,rfl,lk,hcd⟩:=F.ex;refine Jj lk hcd S len fun A outer s H vs Q E hr hsp=>?_;obtain⟨t,h,q⟩:=hbody cdv A outer s H vs Q E hr hsp;exact⟨t,h.nox,q⟩
theorem Fun.binds{x qual:Str}{st:ZR}{f:Addr}{fd:Zp}{ps:List Str}(F:Fun K x qual st f fd)
  (h:∀(kV doc pm:Q6) (an:Option Addr) (cdv ct:Q6) (us:List Q6),us.length=ps.length->bindArgs (PySem.W.fnOf x qual (gO st) (dX st) (aE st) .none kV doc pm an cdv ct) ⟨us,[]⟩=pure (ps.zip us)):qu K fd ps []:=by
 obtain⟨oc,od,kV,doc,pm,an,cdv,ct,osl,rfl,lk,hcd⟩:=F.ex;exact .all (h kV doc pm an cdv ct)
theorem FY{x qual:Str}{st:ZR}{f:Addr}{oc:Q6}{od an:Option Addr}{osl:Array (Option Q6)}{kV doc pm cdv ct:Q6}(l:K.lookup f=some ⟨oc,od,.func (PySem.W.fnOf x qual (gO st) (dX st) (aE st) .none kV doc pm an cdv ct),osl⟩)
  (c:PySem.W.codeIn K cdv qual=true) (k:PySem.W.keepIn K (.ref f)=true):Fun K x qual st f (PySem.W.fnOf x qual (gO st) (dX st) (aE st) .none kV doc pm an cdv ct):=⟨⟨oc,od,kV,doc,pm,an,cdv,ct,osl,rfl,l,c⟩,k⟩
end
theorem eL{A:Z9}{k:Nat}(hr:lA k A):A.units+1<cLine:=Nat.lt_of_le_of_lt (Nat.add_le_add_left (by decide:1<=64) _) hr.units
theorem uN{n:Nat}(h:n<=1000):n<QN:=Nat.lt_of_le_of_lt h (by decide)
section
variable{X:Cx}
theorem pv(i:Nat){x:Str}{pos:Pos}(hN:X.N[i]?=some x:=by rfl)(hv:Vis X.env.scope x:=by first|exact Or.inl rfl|exact Or.inr (Or.inl rfl)|exact Or.inr (Or.inr rfl))(hd:(x == ("__debug__":Str))=false:=by decide)
  (hcd:(x == ("__classdict__":Str))=false:=by decide):PE X (.Name x pos) (Gr i):=EV hN hv hd hcd
theorem xl:cS X (.builtin "len") (fun xs H Q=>∃a kvs,xs=[V.ref a]/\H a=some (.dK kvs)/\Q (.int kvs.length) H):=by
 intro pins s σ H xs us Q I r h;obtain⟨a,kvs,rfl,ha,q⟩:=h;obtain⟨u,rfl,ru⟩:=f6 r;cases ru;exact Jp I (.inl ha) fun t s' I'=>⟨.int kvs.length,H,I',⟨t,rfl⟩,q⟩
end
theorem CN{A B:Prop}(h:B):if false=true then A else B:=by
 rw[if_neg QC];exact h
theorem CM{A B:Prop}(h:A):if true=true then A else B:=by
 rw[if_pos rfl];exact h
def tQ(H H':Hp):Prop:=∀b o,H b=some o->H' b=some o
theorem tQ.refl(H:Hp):tQ H H:=fun _ _ h=>h
end L2
namespace OG
open PySem PySem.Spec PyProof.Rows L2
structure WE(X:Cx)(e:Qq)(t:TE):Prop where
 h:PE X e t
structure WT(X:Cx)(e:Qq)(t:TT):Prop where
 h:PT X e t
structure WW(X:Cx)(e:Qq)(t:TT):Prop where
 h:PW X e t
structure WA(X:Cx)(es:List Qq)(t:TA):Prop where
 h:PA X es t
structure WS(X:Cx)(st:ZR)(t:TS):Prop where
 h:PS X st t
structure WSs(X:Cx)(st:List ZR)(t:TS):Prop where
 h:PSs X st t
structure WI(X:Cx)(tg iter:Qq)(wi:TI):Prop where
 h:PI X tg iter wi
structure WG(X:Cx)(target:Qq)(t:TG):Prop where
 h:PG X target t
structure WGs(X:Cx)(ts:List Qq)(t:TGs):Prop where
 h:PGs X ts t
structure WC(X:Cx)(op:CmpOp)(a b:Qq)(t:TE):Prop where
 h:PC X op a b t
structure WO(X:Cx)(e:Option Qq)(t:TO):Prop where
 h:PO X e t
section
variable{X:Cx}
theorem ak{i j pos}:WE X (.Constant (.int i) j pos) (tC (.int i)):=⟨E3 ⟩
theorem br{b j pos}:WE X (.Constant (.bool b) j pos) (tC (.bl b)):=⟨Iy ⟩
theorem pB{j pos}:WE X (.Constant .none j pos) (tC .non):=⟨E1 ⟩
theorem Br{x j pos}:WE X (.Constant (.str x) j pos) (tC (.str x)):=⟨EX ⟩
end
section
variable{X:Cx}
variable{a b:Qq}{pos:Pos}
theorem Bw{op:CmpOp}{t:TE}(h:WC X op a b t)(h1:behindInMarks op b=false:=by first|exact nobehind _ (by decide) (by decide)|rfl):WE X (.Compare a [op] [b] pos) t:=⟨E5 h.h h1⟩
theorem Bk{op:CmpOp}{t:TE}(h:WC X op a b t)(h1:behindInMarks op b=false:=by first|exact nobehind _ (by decide) (by decide)|rfl):WT X (.Compare a [op] [b] pos) (tB t):=⟨EL h.h h1⟩
end
section
variable{X:Cx}
variable{pos:Pos}
theorem Bi{e:Qq}{t:TE}(h:WE X e t)(he:∀whole,isTrue e X.env whole=(do let v <-whole;standAt e.pos;holding [v] (truthy v)):=by intro _;rfl):WT X e (tB t):=⟨EJ h.h he⟩
end
section
variable{X:Cx}
variable{a:Qq}{pos:Pos}
variable{tA:TT}
theorem xY(ha:WT X a tA):WW X (.BoolOp .And [a] pos) tA:=⟨B2 ha.h⟩
theorem Bg(ha:WT X a tA):WW X (.BoolOp .Or [a] pos) tA:=⟨EG ha.h⟩
end
section
variable{X:Cx}
variable{a b:Qq}{pos:Pos}
variable{tA tB':TT}{rest:List Qq}
theorem Bh(ha:WT X a tA)(hb:WW X (.BoolOp .And (b::rest) pos) tB'):WW X (.BoolOp .And (a::b::rest) pos) (JL tA tB'):=⟨EH ha.h hb.h⟩
theorem D5(ha:WT X a tA)(hb:WW X (.BoolOp .Or (b::rest) pos) tB'):WW X (.BoolOp .Or (a::b::rest) pos) (tOr tA tB'):=⟨Il ha.h hb.h⟩
end
section
variable{X:Cx}
variable{a:Qq}{pos:Pos}
variable{tA:TT}
theorem Bj(ha:WT X a tA):WT X (.UnaryOp .Not a pos) (JH tA):=⟨EK ha.h⟩
end
section
variable{X:Cx}
variable{a:Qq}{pos:Pos}
theorem Bt{op}{t:TE}(h:WE X a t):WE X (.BoolOp op [a] pos) t:=⟨EY h.h⟩
end
section
variable{X:Cx}
variable{a b:Qq}{ta tb:TE}{pos:Pos}
variable{rest:List Qq}
theorem Bx(ha:WE X a ta)(hb:WE X (.BoolOp .And (b::rest) pos) tb):WE X (.BoolOp .And (a::b::rest) pos) (Er ta tb):=⟨E6 ha.h hb.h⟩
theorem D8(ha:WE X a ta)(hb:WE X (.BoolOp .Or (b::rest) pos) tb):WE X (.BoolOp .Or (a::b::rest) pos) (JG ta tb):=⟨Iq ha.h hb.h⟩
end
section
variable{X:Cx}
variable{a:Qq}{ta:TE}{pos:Pos}
theorem Bu(ha:WE X a ta):WE X (.UnaryOp .Not a pos) (Ej ta):=⟨EZ ha.h⟩
end
section
variable{X:Cx}
theorem x6 :WSs X [] Ek:=⟨B5 ⟩
end
section
variable{X:Cx}{st:ZR}{rest:List ZR}{t u:TS}
theorem uk(h1:WS X st t)(h2:WSs X rest u):WSs X (st::rest) (JE t u):=⟨yM h1.h h2.h⟩
end
section
variable{X:Cx}{st:ZR}{t:TS}
theorem x5(h1:WS X st t):WSs X [st] t:=⟨B4 h1.h⟩
end
section
variable{X:Cx}{e:Qq}{te:TE}{pos:Pos}
theorem x8(he:WE X e te)(hs:Ze e none pos.line X.env=pure false:=by rfl):WS X (.Expr e pos) (El te):=⟨B6 he.h hs⟩
theorem Bm(he:WE X e te):WS X (.Return (some e) pos) (JF te):=⟨EN he.h⟩
end
section
variable{X:Cx}{t u:TS}{pos:Pos}
theorem D6{c:Qq}{a b:List ZR}{tc:TT}(hc:WT X c tc)(ha:WSs X a t)(hb:WSs X b u):WS X (.If c a b pos) (JK tc t u):=⟨Im hc.h ha.h hb.h⟩
end
section
variable{X:Cx}{pos:Pos}
theorem aF{i:Nat}{x:Str}(hN:X.N.Nodup)(hi:X.N[i]?=some x)(hx:Loc X.env.scope x)(hf:X.fn x=true\/X.env.scope.names.lookup x=some .local:=by first|exact .inl rfl|exact .inr rfl|assumption):WG X (.Name x pos) (sY i):=⟨Cc hN hi hx hf⟩
end
section
variable{X:Cx}
theorem yd :WGs X [] J6:=⟨Cb ⟩
theorem uq{e:Qq}{es:List Qq}{t:TG}{u:TGs}(h1:WG X e t)(h2:WGs X es u)(hs:(assignEach (e::es) X.env).map (·.2)=assign e X.env::(assignEach es X.env).map (·.2):=by rfl):WGs X (e::es) (FX t u):=⟨yR h1.h h2.h hs⟩
end
section
variable{X:Cx}{pos:Pos}
theorem Bp{es:List Qq}{k:Nat}{t:TGs}{n:Nat}(hc:X.calm=true)(h:WGs X es t)(hn:(assignEach es X.env).length=n:=by rfl)(hst:(assignEach es X.env).findIdx? (·.1)=none:=by rfl):WG X (.Tuple es k pos) (J4 X.K n t):=⟨ET hc h.h hn hst⟩
theorem Bq {o i : Qq} {to ti : TE} {t : GJ} (ho : WE X o to) (hi : WE X i ti) (hs : Jy X t) (ha : ∀ v, assign (.Subscript o i pos) X.env v = (do
   let ov <-holding [v] (eval o X.env)
   let iv <-holding [v,ov] (eval i X.env)
   standAt pos
   holding [v,ov,iv] (setItem ov iv v)
   release [v,ov,iv] []):=by intro _;rfl):WG X (.Subscript o i pos) (J5 to ti t):=⟨EU ho.h hi.h hs ha⟩
theorem uo{tg e:Qq}{te:TE}{g:TG}(he:WE X e te)(hg:WG X tg g)(hs:swapsWithSole [tg] e pos.line X.env=pure false:=by rfl)(hw:swappedStores [tg] e X.env=pure none:=by rfl)(h1:(assignEach [tg] X.env).map (·.2)=[assign tg X.env]:=by rfl):WS X (.Assign [tg] e pos) (Ep te g):=⟨ER he.h hg.h hs hw h1⟩
theorem Bl{i:Nat}{x:Str}{e:Qq}{te:TE}{pos':Pos}(hN:X.N.Nodup)(hi:X.N[i]?=some x)(hx:Loc X.env.scope x)(he:WE X e te)(hs:Ze e (some (.Name x pos')) pos.line X.env=pure false:=by rfl)(hf:X.fn x=true\/X.env.scope.names.lookup x=some .local:=by first|exact .inl rfl|exact .inr rfl|assumption):WS X (.Assign [.Name x pos'] e pos) (Ep te (sY i)):=⟨EM hN hi hx he.h hs hf⟩
theorem um{c:Qq}{body:List ZR}{tc:TT}{tb:TS}(hp:PassesOwn (Qx X.prog X.w) X.A X.env X.xe)(hc:WT X c tc)(hb:WSs X body tb):WS X (.While c body [] pos) (uI tc tb):=⟨yN hp hc.h hb.h⟩
end
section
variable{X:Cx}{tg:Qq}
theorem yc{l:Qq}{tl:TE}(hl:WE X l tl):WI X tg l (FW X.K tl):=⟨Ca hl.h⟩
theorem Bo{l:Qq}{tl:TE}(hl:WE X l tl):WI X tg l (J3 X.K tl):=⟨ES hl.h⟩
theorem su{a:Qq}{ta:TA}{p pos:Pos}(hg:Gl X "range")(hm:X.mg "range"=none)(ha:WA X [a] ta)(hs:QR [a] X.env=[(false,eval a X.env)]:=by rfl):WI X tg (.Call (.Name "range" p) [a] [] pos) (FV ta):=⟨vB hg hm ha.h hs⟩
theorem Bn{iter:Qq}{body:List ZR}{wi:TI}{g:TG}{tb:TS}{pos:Pos}(hp:PassesOwn (Qx X.prog X.w) X.A X.env X.xe)(hc:X.calm=true)(hi:WI X tg iter wi)(hg:WG X tg g)(hb:WSs X body tb)(hs:∀x,foldedSetIterable iter X.env x=pure x:=by intro _;rfl):WS X (.For tg iter body [] pos) (HQ wi g tb):=⟨EO hp hc hi.h hg.h hb.h hs⟩
end
section
variable{X:Cx}{a b:Qq}{ta tb:TE}{pos:Pos}
theorem D9{op:Operator}{r:R2}(ho:OpR X (binaryOp op) r)(ha:WE X a ta)(hb:WE X b tb):WE X (.BinOp a op b pos) (tOp r ta tb):=⟨Ir ho ha.h hb.h⟩
end
section
variable{X:Cx}{a:Qq}{ta:TE}{pos:Pos}
theorem D7{op:UnaryOp}{r:V->Hp->VK->Prop}(ho:UnR X (unaryOp op) r)(ha:WE X a ta):WE X (.UnaryOp op a pos) (tUn r ta):=⟨Ip ho ha.h⟩
end
section
variable{X:Cx}{a b:Qq}{ta tb:TE}{pos:Pos}
theorem qy{op:CmpOp}{r:R2}(ho:OpR X (compareOp op) r)(ha:WE X a ta)(hb:WE X b tb)(hm:behindInMarks op b=false):WE X (.Compare a [op] [b] pos) (tOp r ta tb):=⟨Cg ho ha.h hb.h hm⟩
theorem xZ{op:CmpOp}{r:R2}(ho:OpR X (compareOp op) r)(ha:WE X a ta)(hb:WE X b tb)(hm:behindInMarks op b=false):WT X (.Compare a [op] [b] pos) (yt (tOp r ta tb)):=⟨B3 ho ha.h hb.h hm⟩
end
section
variable{X:Cx}{a b c:Qq}{ta tb tc:TE}{pos:Pos}
theorem uw{op op':CmpOp}{r r':R2}(ho:OpR X (compareOp op) r)(ho':OpR X (compareOp op') r')(ha:WE X a ta)(hb:WE X b tb)(hc:WE X c tc)(hm:lastMarks [op,op'] [b,c]=false:=by with_unfolding_all rfl):WE X (.Compare a [op,op'] [b,c] pos) (nR r r' ta tb tc):=⟨yU ho ho' ha.h hb.h hc.h hm⟩
theorem uj{op op':CmpOp}{r r':R2}(ho:OpR X (compareOp op) r)(ho':OpR X (compareOp op') r')(ha:WE X a ta)(hb:WE X b tb)(hc:WE X c tc)(hm:lastMarks [op,op'] [b,c]=false:=by with_unfolding_all rfl):WT X (.Compare a [op,op'] [b,c] pos) (yt (nR r r' ta tb tc)):=⟨yL ho ho' ha.h hb.h hc.h hm⟩
end
section
variable{X:Cx}
theorem dQ :WA X [] HP:=⟨Fb ⟩
end
section
variable{X:Cx}{e:Qq}{es:List Qq}{te:TE}{t:TA}
theorem bS(ha:WE X e te)(hr:WA X es t)(hs:QR (e::es) X.env=(false,eval e X.env)::QR es X.env:=by rfl):WA X (e::es) (BH te t):=⟨Cm ha.h hr.h hs⟩
end
section
variable{X:Cx}{es:List Qq}{t:TA}{pos:Pos}
theorem ur{x1}(h:WA X es t):WE X (.Tuple es x1 pos) (JD t):=⟨EW h.h⟩
theorem Bv(h:WA X es t):WE X (.List es pos) (JJ t):=⟨E2 h.h⟩
end
section
variable{X:Cx}{x:Str}{p pos:Pos}{e:Qq}{es:List Qq}{t:TA}{id:String}{r:List V->Hp->VK->Prop}
theorem fA(hc:cS X (.builtin id) r)(hg:Gl X x)(hm:X.mg x=none)(hv:Z7 x=some (.builtin id))(ha:WA X (e::es) t)(hn:x≠"__name__":=by decide)(hdb:(x == ("__debug__":Str))=false:=by decide)(he:QR (e::es) X.env=(false,eval e X.env)::QR es X.env:=by rfl)(hpl:(ZD pos (QR es X.env)).any (·.1)=false:=by rfl):WE X (.Call (.Name x p) (e::es) [] pos) (tCB r t):=⟨yV hc hg hm hv ha.h hn hdb he hpl⟩
end
section
variable{X:Cx}{x:Str}{p pos:Pos}{e:Qq}{es:List Qq}{t:TA}{T:String}{r:List V->Hp->VK->Prop}
theorem fW(hc:cS X (.type T) r)(hg:Gl X x)(hm:X.mg x=none)(hv:Z7 x=some (.type T))(ha:WA X (e::es) t)(hn:x≠"__name__":=by decide)(hdb:(x == ("__debug__":Str))=false:=by decide)(he:QR (e::es) X.env=(false,eval e X.env)::QR es X.env:=by rfl)(hpl:(ZD pos (QR es X.env)).any (·.1)=false:=by rfl):WE X (.Call (.Name x p) (e::es) [] pos) (tCB r t):=⟨vC hc hg hm hv ha.h hn hdb he hpl⟩
end
section
variable{X:Cx}
theorem yb :WO X none uJ:=⟨B9 ⟩
end
section
variable{X:Cx}{e:Qq}{te:TE}
theorem ya(h:WE X e te):WO X (some e) (Ei te):=⟨B8 h.h⟩
end
section
variable{X:Cx}{e:Qq}{te:TE}{lo hi:Option Qq}{tl th:TO}{pos p2:Pos}
theorem nJ{r:V->Option Int->Option Int->Hp->VK->Prop}(hr:SlR X r)(he:WE X e te)(hl:WO X lo tl)(hu:WO X hi th):WE X (.Subscript e (.Slice lo hi none p2) pos) (tSl r te tl th):=⟨yS hr he.h hl.h hu.h⟩
end
section
variable{X:Cx}{a b:Qq}{ta tb:TE}{pos:Pos}
theorem Ea{r:R2}(hr:IxR X r)(ha:WE X a ta)(hb:WE X b tb)(hs:qq b):WE X (.Subscript a b pos) (tOp r ta tb):=⟨Iu hr ha.h hb.h hs⟩
end
section
variable{X:Cx}
variable{o e:Qq}{es:List Qq}{to:TE}{t:TA}{name:Str}{apos cpos:Pos}{T id:String}{r:V->List V->Hp->VK->Prop}
theorem ux (pa : PlainAttrs T) (slot : Slot T name id) (hty : typeOf (.builtin id) = pure (.type "method_descriptor")) (hm : MtR X id r) (ho : WE X o to) (ha : WA X (e :: es) t) (hbase : attributeBase o name X.env (eval o X.env) = eval o X.env := by rfl) (hfew : ((ZD cpos (QR (e :: es) X.env)).all (fun x => !x.1) && (backToKw cpos (keywordEach [] X.env)).all (fun x => x.1.isSome)
   && decide ((e::es).length+([]:List Keyword).length+(if ([]:List Keyword).isEmpty then 0 else 1)<30))=true:=by rfl) (hline:(apos.endLine == cpos.line)=true:=by rfl) (hs:QR (e::es) X.env=(false,eval e X.env)::QR es X.env:=by rfl) (hplain:(ZD cpos (QR es X.env)).any (·.1)=false:=by rfl):WE X (.Call (.Attribute o name apos) (e::es) [] cpos) (tBM X.K T r to t):=⟨Iw pa slot hty hm ho.h ha.h hbase hfew hline hs hplain⟩
end
section
variable{X:Cx}{o i:Qq}{pos:Pos}{td ty:TE}
theorem yf(hu:X.A.units+1<cLine)(ho:WE X o td)(hi:WE X i ty)(hs:Dj i):WE X (.Subscript o i pos) (En td ty):=⟨Ce hu ho.h hi.h hs⟩
end
section
variable{X:Cx}{o i:Qq}{td ty:TE}
theorem By(hu:X.A.units+1<cLine)(hi:WE X i ty)(ho:WE X o td):WC X .In i o (HR ty td):=⟨E8 hu hi.h ho.h⟩
end
section
variable{X:Cx}{o i value:Qq}{pos pos':Pos}{td ty tv:TE}
theorem qw(hu:X.A.units+1<cLine)(ho:WE X o td)(hi:WE X i ty)(hv:WE X value tv)(hs:Ze value (some (.Subscript o i pos')) pos.line X.env=pure false):WS X (.Assign [.Subscript o i pos'] value pos) (Ex td ty tv):=⟨B7 hu ho.h hi.h hv.h hs⟩
end
section
variable{X:Cx}{pos:Pos}
theorem uu :WE X (.Dict [] [] pos) Ah:=⟨yT ⟩
end
section
variable{X:Cx}
theorem wpv(i:Nat){x:Str}{pos:Pos}(hN:X.N[i]?=some x:=by rfl)(hv:Vis X.env.scope x:=by first|exact Or.inl rfl|exact Or.inr (Or.inl rfl)|exact Or.inr (Or.inr rfl))(hd:(x == ("__debug__":Str))=false:=by decide)(hcd:(x == ("__classdict__":Str))=false:=by decide):WE X (.Name x pos) (Gr i):=⟨pv i hN hv hd hcd⟩
end
theorem WW.pt{X:Cx}{e:Qq}{t:TT}(h:WW X e t):WT X e t:=⟨h.h.pt⟩
section
variable{X:Cx}{e:Qq}
def tN(i j:Int):Prop:=0<j/\j.natAbs.log2<9000
theorem rh:OpR X (binaryOp .FloorDiv) (rI tN fun i j=>.int (i / j)):=opI fun i j _ _ _ _ _ hc q=>by
 refine PyProof.Rows.floordiv_int (by have:=hc.1;omega) ?_ (.inl (PyProof.noPylong_of_log2 hc.2));rw[Int.fdiv_eq_ediv_of_nonneg i (Int.le_of_lt hc.1)];exact q
theorem gI:OpR X (compareOp .IsNot) (fun x y H Q=>∃k l,x=.bl k/\y=.bl l/\Q (.bl (k !=l)) H):=by
 rintro pins s σ H x y v u Q I rx ry ⟨k,l,rfl,rfl,q⟩;cases rx;cases ry;exact PyProof.Rows.isnot_bool ⟨.bl (k !=l),H,I,rfl,q⟩
theorem qj:cS X (.builtin "isinstance") (fun xs H Q=>∃(x:V) (T:String) (t:Q6) (k:Bool),xs=[x,.ty T]/\se X.K H x t/\PySem.W.kitOne X.K t (.type T)=some k/\Q (.bl k) H):=by
 rintro pins s σ H xs us Q I r ⟨x,T,t,k,rfl,ty,e,q⟩;obtain⟨u,w',rfl,ru,rw'⟩:=pC r;cases rw';exact wo I ru ty e fun tk=>⟨.bl k,H,I.tok tk,rfl,q⟩
end
theorem dE{H:Hp}{p:Addr}(h:H p=none)(o:HO):tQ H (upd H p o):=fun b u q=>by rw[bc (cu q h)];exact q
def Def(K:Q5)(mg:Str->Option Q6)(x:Str)(st:ZR)(ps:List Str):Prop:=
 ∃f fd,Fun K x x st f fd/\qu K fd ps []/\mg x=some (.ref f)
def Has(P:Qu)(w:Qm)(K:Q5)(mg:Str->Option Q6)(base:Heap)(x:Str)(k:Nat)(ps:List Str)(sp:Sp):Prop:=
 ∃f fd,pf P w K mg base CX0 k f fd ps sp/\qu K fd ps []/\PySem.W.keepIn K (.ref f)=true/\mg x=some (.ref f)
section
variable{P:Qu}{w:Qm}{K:Q5}{mg:Str->Option Q6}{base:Heap}{x:Str}{st:ZR}{ps N:List Str}{k j:Nat}{sp:Sp}
theorem Has.mono(h:Has P w K mg base x j ps sp)(l:j<=k):Has P w K mg base x k ps sp:=by
 obtain⟨f,fd,a,b,c,d⟩:=h;exact⟨f,fd,a.mono l,b,c,d⟩
theorem Def.has(d:Def K mg x st ps)(S:a5 N ps (aE st))(len:∀vs H Q E,sp vs H Q E->vs.length=ps.length)
  (hbody:∀(f:Addr) (cdv:Q6) (A:Z9) (outer:List Env) (s:QQ) (H:Hp) (vs:List V) (Q:VK) (E:XK),lA k (A.deeper (envOfC x (aE st) s.heap.objs.size f cdv))->sp vs H Q E->
   ∃t,WSs (xN CX0 P w K mg base N x (aE st) f cdv A outer s H E).nox (dX st) t/\t { nx:=fun _ H'=>Q .non H',rt:=Q } (g9 N vs) H):Has P w K mg base x (k+1) ps sp:=by
 obtain⟨f,fd,F,b,m⟩:=d;exact⟨f,fd,F.ok S len (fun cdv A outer s H vs Q E hr h=>let ⟨t,a,b⟩:=hbody f cdv A outer s H vs Q E hr h;⟨t,a.h,b⟩),b,F.kp,m⟩
end
theorem Eb{X:Cx}{k:Nat}{ps:List Str}{sp:Sp}{x:Str}{p pos:Pos}{e:Qq}{es:List Qq}{t:TA}(F:Has X.prog X.w X.K X.mg X.base x k ps sp)(hr:lA k X.A)(hg:Gl X x)
  (ha:WA X (e::es) t) (hdb:(x == ("__debug__":Str))=false:=by decide) (he:QR (e::es) X.env=(false,eval e X.env)::QR es X.env:=by rfl) (hpl:(ZD pos (QR es X.env)).any (·.1)=false:=by rfl) :
  WE X (.Call (.Name x p) (e::es) [] pos) (Eo sp [] E0 t):=by
 obtain⟨f,fd,a,b,c,d⟩:=F;exact⟨Ci a hr hg d c b .nil IA ha.h hdb he hpl⟩
structure Blt(mg:Str->Option Q6):Prop where
 len:mg "len"=none
 isinstance:mg "isinstance"=none
 int:mg "int"=none
 bool:mg "bool"=none
 str:mg "str"=none
 tuple:mg "tuple"=none
 list:mg "list"=none
 range:mg "range"=none
 min:mg "min"=none
 sum:mg "sum"=none
 all:mg "all"=none
 zip:mg "zip"=none
 sorted:mg "sorted"=none
 dict:mg "dict"=none
 enumerate:mg "enumerate"=none
 any:mg "any"=none
 max:mg "max"=none
 set:mg "set"=none
theorem nW{n:Nat}(h:n<=1000):n<=QN:=Nat.le_of_lt (uN h)
theorem sR{n:Nat}(h:n<2^60):n.log2<1920:=by
 by_cases e:n=0
 ·subst e;decide
 ·have:=(Nat.log2_lt e).mpr h;omega
theorem jQ:Z7 "int"=some (.type "int"):=rfl
theorem lu:Z7 "bool"=some (.type "bool"):=rfl
theorem aV:Z7 "tuple"=some (.type "tuple"):=rfl
theorem d7:Z7 "list"=some (.type "list"):=rfl
theorem lq:Z7 "isinstance"=some (.builtin "isinstance"):=rfl
theorem zS:Z7 "min"=some (.builtin "min"):=rfl
theorem zT:Z7 "max"=some (.builtin "max"):=rfl
theorem de:Z7 "all"=some (.builtin "all"):=rfl
theorem fi:Z7 "sorted"=some (.builtin "sorted"):=rfl
theorem cU{X:Cx}{x:Str}{T:String}{pos:Pos}(hg:Gl X x)(hm:X.mg x=none)(hv:Z7 x=some (.type T))(hn:x≠"__name__":=by decide)(hd:(x == ("__debug__":Str))=false:=by decide):WE X (.Name x pos) (tC (.ty T)):=
 ⟨Cj hg hm hv rfl hn hd⟩
theorem mI{X:Cx}{x:Str}{i:Int}{pos:Pos}(hg:Gl X x)(hm:∃t,X.mg x=some (.int i t))(hd:(x == ("__debug__":Str))=false:=by decide):WE X (.Name x pos) (tC (.int i)):=by
 obtain⟨t,hm⟩:=hm;exact⟨Cd hg hm ⟨t,rfl⟩ hd⟩
theorem Fun.okW{P:Qu}{w:Qm}{K:Q5}{mg:Str->Option Q6}{base:Heap}{x qual:Str}{st:ZR}{f:Addr}{fd:Zp}{N ps:List Str}{k:Nat}{sp:Sp}(F:Fun K x qual st f fd)(S:a5 N ps (aE st))(len:∀vs H Q E,sp vs H Q E->vs.length=ps.length)
  (hbody:∀(cdv:Q6) (A:Z9) (outer:List Env) (s:QQ) (H:Hp) (vs:List V) (Q:VK) (E:XK),lA k (A.deeper (envOfC qual (aE st) s.heap.objs.size f cdv))->sp vs H Q E->
   ∃t,WSs (xN CX0 P w K mg base N qual (aE st) f cdv A outer s H E).nox (dX st) t/\t { nx:=fun _ H'=>Q .non H',rt:=Q } (g9 N vs) H):pf P w K mg base CX0 (k+1) f fd ps sp:=
 F.ok S len fun cdv A outer s H vs Q E hr h=>let ⟨t,a,b⟩:=hbody cdv A outer s H vs Q E hr h;⟨t,a.h,b⟩
def ph(env:Env):List (Str×Addr)->Prop
 |[]=>True
 |p::r=>env.cells.lookup p.1=some p.2/\ph env r
theorem ph.look{env:Env}:∀{cl:List (Str×Addr)} {y:Str} {c:Addr},ph env cl->cl.lookup y=some c->env.cells.lookup y=some c
 |[],_,_,_,h=>by simp at h
 |(n,d)::r,y,c,a,h=>by
  obtain⟨a1,a2⟩:=a;rw[List.lookup_cons]at h;by_cases e:(y == n)=true
  ·rw[e]at h;have e':y=n:=by simpa using e
   subst e';cases h;exact a1
  ·have e':(y == n)=false:=by simpa using e
   rw[e']at h;exact ph.look a2 h
abbrev cxC(X:Cx)(Nc:List Str)(scope:X2)(cl:List (Str×Addr))(s3:QQ)(H3:Hp)(fp:List Addr):Cx where
 prog:=X.prog
 w:=X.w
 K:=X.K
 mg:=X.mg
 base:=X.base
 A:=X.A
 N:=Nc
 s₀:=s3
 H₀:=H3
 env:=compEnvC scope cl s3.heap.objs.size X.env
 outer:=X.stack
 stack:=X.stack
 ex:=fp
 fn:=fun _=>false
 calm:=X.calm
 pn:=[]
 xe:=fun _ _=>False
def stC(n:Nat)(caps:List Nat)(σ:L2.St):L2.St:=Qr n none++caps.map fun i=>(σ[i]?).getD none
def yu(wi:TI)(g:TG)(te:TE)(n:Nat)(caps:List Nat):TE:=fun σ H Q=>wi σ H fun J H1=>∀l,H1 l=none->∃W:Nat->Nat->L2.St->Hp->Prop,(∃m,W 0 m (stC n caps σ) (upd H1 l (.lst [])))/\
 ∀i m σ' H2,W i m σ' H2->(J.stop i H2/\Q (.ref l) H2)\/(J.go i H2/\∃N:L2.St->Hp->Prop,(∀σ'' H',N σ'' H'->∃m',m'<m/\W (i+1) m' σ'' H')/\
  ∀x H3,J.yld i H2 x H3->g x σ' H3 fun σ2 H4=>te σ2 H4 fun v H5=>∃ys,H5 l=some (.lst ys)/\ys.length<QN/\N σ2 (upd H5 l (.lst (ys++[v]))))
theorem oO{prog:Qu}{w:Qm}{A:Z9}{R:Result->QQ->Prop}{s:QQ}{elt target iter:Qq}{scope:X2}{pos:Pos}{it acc:Q6}{env:Env}(I:Nat->QQ->Prop)
  (turn:∀n s,I n s->wpAny (Qx prog w) A (pyNext it) (fun r s₁=>match r with
   |none=>R (.ok .next) s₁
   | some v=>wpAny (Qx prog w) A (letOwnedTupleGo target it v) (fun _ s₁'=>wpAny (Qx prog w) A (assign target env v) (fun _ s₂=>wpAny (Qx prog w) A (eval elt env) (fun x s₃=>
     wpAny (Qx prog w) A (call (.builtin "list.append") [acc,x]) (fun _ s₄=>∃m,m<n/\I m s₄) (fun _ _=>False) s₃)
     (fun _ _=>False) s₂) (fun _ _=>False) s₁') (fun _ _=>False) s₁) (fun _ _=>False) s)
  (n:Nat) (h:I n s) :
  codeAny (Qx prog w) A (.compLoop (.ListComp elt [⟨target,iter,[],0⟩] scope pos) 0 it acc env) R s:=by
 refine codeAny_loop rfl I (fun n s hI=>?_) n h;show wpAny _ _ ((compTurn (.ListComp elt [⟨target,iter,[],0⟩] scope pos) 0 it acc env).onRaise (fun x=>do noteFrame x env;theTreesLotGoes x)) _ _ s;refine wpAny_noted ?_;rw[compTurn_list1];refine Q2 (wpAny_standAt (Q2 (ZG (turn n s hI) (fun r s₁ h₁=>?_) fun _ _ h'=>h'.elim)));cases r with
 |none=>exact Q8 h₁
 |some v=>
  refine Q2 (ZG h₁ (fun _ s₁' h₁'=>?_) fun _ _ h'=>h'.elim);exact Q2 (ZG h₁' (fun _ s₂ h₂=>Q2 (Q2 (ZG h₂ (fun x s₃ h₃=>Q2 (ZG h₃
   (fun _ s₄ h₄=>Q8 (Q8 ⟨rfl,h₄⟩)) fun _ _ h'=>h'.elim)) fun _ _ h'=>h'.elim))) fun _ _ h'=>h'.elim)
section
variable{X:Cx}{pins:List (Addr×Obj)}{σ:L2.St}{H:Hp}{s:QQ}{Nc capN:List Str}{scope:X2}{cl:List (Str×Addr)}{fp:List Addr}{n:Nat}{caps:List Nat}
def Cap(X:Cx)(scope:X2)(cl:List (Str×Addr))(i:Nat)(y:Str):Prop:=X.N[i]?=some y/\X.env.scope.names.lookup y=some .cell/\(relabel scope X.env).names.lookup y=some .cell/\∃c,cl.lookup y=some c
theorem Inv.comp{h1:Heap}{t':Nat}(I:Inv X pins σ H s)(hc:X.calm=true)(f2:∀b∈fp,tW X pins H b)(fo:∀b∈fp,b<s.heap.objs.size)(hkind:scope.kind=.function)(hcl:ph X.env cl)
  (hhas:((relabel scope X.env).names.all fun p=>!(p.2 == .cell||p.2 == .free)||(cl.lookup p.1).isSome)=true)
  (hcap:Paired (Cap X scope cl) caps capN) (tn:List Str) (hN:Nc=tn++capN) (hn:tn.length=n)
  (hns:h1.Ns s.heap.objs.size (fun _=>none)) (hk:∀b o,s.heap.get? b=some o->h1.get? b=some o) :
  Inv (cxC X Nc scope cl s H fp) [] (stC n caps σ) H { s with heap:=h1,toks:=t' }:=by
 have lkc:∀y c,cl.lookup y=some c->X.env.cells.lookup y=some c:=fun y c e=>hcl.look e;refine⟨⟨I.ok.mod,?_,I.ok.glob,I.ok.blt,QJ _,fun x y c a b=>I.ok.inj x y c (lkc _ _ a) (lkc _ _ b),fun x hx=>?_,fun x c z=>(nomatch z),I.ok.hd,I.ok.frames,.inl rfl,fun b hb=>⟨Qj (fo b hb),fun x c e=>(f2 b hb).2.2.2.2.1 x c (lkc _ _ e)⟩,I.bs,Qo I.ok.bsz I.sz,
  fun b o e hb=>?_,fun b hb z=>?_,I.stack,I.stkFree⟩,rfl,I.bare,Un.kept hk,⟨_,hns,fun i y v h1' h2 h3=>?_⟩,fun y c e=>?_,I.hok.fresh (QJ _),fun y c e=>I.freeC y c (lkc _ _ e),fun p hp=>(by simp at hp),I.hok.kept hk,?_⟩
 ·exact hkind
 ·have hx':(relabel scope X.env).names.lookup x=some .cell\/(relabel scope X.env).names.lookup x=some .free:=hx;have mem:∀{k},(relabel scope X.env).names.lookup x=some k->(x,k)∈(relabel scope X.env).names:=fun{k} e=>by
   generalize (relabel scope X.env).names=L at e;induction L with
   |nil=>simp at e
   |cons p r ih=>
    obtain⟨a,b⟩:=p;rw[List.lookup_cons]at e;by_cases q:(x == a)=true
    ·rw[q]at e;cases e;have:x=a:=by simpa using q
     subst this;exact QY
    ·rw[show(x == a)=false by simpa using q]at e;exact QU _ (ih e)
  have fin:∀{k},(k=NameKind.cell\/k=.free)->(relabel scope X.env).names.lookup x=some k->∃c,cl.lookup x=some c:=fun{k} hk' e=>by
   have:=Z8.mp hhas _ (mem e);dsimp only at this;have q:(cl.lookup x).isSome=true:=by
    rcases hk' with z|z<;>subst z<;>simpa using this
   exact Option.isSome_iff_exists.mp q
  rcases hx' with e|e
  ·exact fin (.inl rfl) e
  ·exact fin (.inr rfl) e
 ·rcases(f2 b hb).2.2.2.1 with z|z
  ·exact I.ok.noex b o e z
  ·exact absurd (Qy (QK e) I.ok.bsz) (Nat.not_lt.mpr z)
 ·rcases QL.mp (I.stkSub b z)with q|q
  ·exact(f2 b hb).2.1 q
  ·exact(f2 b hb).2.2.1 q
 ·obtain⟨m,hm,hl⟩:=I.loc;have h2':(stC n caps σ)[i]?=some (some v):=h2;have h1'':Nc[i]?=some y:=h1';unfold stC at h2';by_cases hi:i<n
  ·rw[Qv (by simpa using hi),Zn,if_pos hi]at h2';cases h2'
  ·rw[Qw (by simp;omega),List.length_replicate,Qn]at h2';rw[hN,Qw (by omega),hn]at h1'';have key:∀(j:Nat) {caps:List Nat} {capN:List Str},Paired (Cap X scope cl) caps capN->capN[j]?=some y->(Option.map (fun i=>(σ[i]?).getD none) caps[j]?)=some (some v)->∃k,Cap X scope cl k y/\σ[k]?=some (some v):=by
    intro j;induction j with
    |zero=>
     intro caps capN P e1 e2;cases P with
     |nil=>simp at e1
     |@cons a b l r p t=>
      simp at e1 e2;subst e1;cases q:σ[a]? with
      |none=>rw[q]at e2;simp at e2
      |some w'=>rw[q]at e2;simp at e2;subst e2;exact⟨a,p,q⟩
    |succ j ih=>
     intro caps capN P e1 e2;cases P with
     |nil=>simp at e1
     |cons p t=>exact ih t (by simpa using e1) (by simpa using e2)
   obtain⟨k,⟨c1,c2,c3,c,c4⟩,e⟩:=key _ hcap h1'' h2';obtain⟨u,r,lk⟩:=hl k y v c1 e (.inr (.inl c2));refine⟨u,r,.inr ⟨.inl c3,c,c4,?_⟩⟩;rcases lk with⟨z,_⟩|⟨_,c',e',o,ho,hd⟩
   ·have z':X.env.scope.names.lookup y=some .local:=z;rw[c2]at z';cases z'
   ·rw[lkc _ _ c4]at e';cases e';exact⟨o,hk _ _ ho,hd⟩
 ·obtain⟨v,o,ho,hd⟩:=I.cell y c (lkc _ _ e);exact⟨v,o,hk _ _ ho,hd⟩
 ·show(stC n caps σ).length=Nc.length;have pl:caps.length=capN.length:=Paired.length hcap;unfold stC;rw[Qz,List.length_replicate,QZ,hN,Qz,hn,pl]
end
theorem rR{X:Cx}{Nc capN tn:List Str}{scope:X2}{cl:List (Str×Addr)}{n:Nat}{caps:List Nat}{tg iter elt:Qq}{pos:Pos}{wi:TI}{g:TG}{te:TE}
  (hc:X.calm=true) (hi:WI X tg iter wi) (hg:∀s3 H3 fp,WG (cxC X Nc scope cl s3 H3 fp) tg g) (he:∀s3 H3 fp,WE (cxC X Nc scope cl s3 H3 fp) elt te)
  (hclos:closureFor scope X.env=pure cl) (hkind:scope.kind=.function) (hnl:∀x∈scope.names,x.2=.local->scope.names.lookup x.1=some .local) (hcell:∀x∈scope.names,x.2≠.cell)
  (hcl:ph X.env cl) (hhas:((relabel scope X.env).names.all fun p=>!(p.2 == .cell||p.2 == .free)||(cl.lookup p.1).isSome)=true)
  (hcap:Paired (Cap X scope cl) caps capN) (hN:Nc=tn++capN) (hn:tn.length=n)
  {use:Option (Q6->Sem Unit)} {pins:List (Addr×Obj)} {σ:L2.St} {H:Hp} {s:QQ} {Q:VK} {Qf:Q6->QQ->Prop} (I:Inv X pins σ H s) (h:yu wi g te n caps σ H Q)
  (hend:∀(D C:Addr) (s6:QQ) (H5:Hp) (m:Str->Option Q6),Inv X pins σ H5 s6->s6.heap.Ns C m->H5 C=none->C≠X.env.locals->X.s₀.heap.objs.size<=C->(∀x c,X.env.cells.lookup x=some c->c≠C)->(∀p∈X.pn++pins,p.1≠C)->Q (.ref D) H5->compPost (Qx X.prog X.w) X.A X.xe use Qf (.ref D) C (.ok .next) s6)
  (hs:∀x,foldedSetIterable iter X.env x=pure x) :
  wpAny (Qx X.prog X.w) X.A (comprehension (.ListComp elt [⟨tg,iter,[],0⟩] scope pos) scope X.env (firstIterPos [⟨tg,iter,[],0⟩] pos) (newList []) (firstAsync [⟨tg,iter,[],0⟩]) (firstIter [⟨tg,iter,[],0⟩] X.env) use) Qf X.xe s:=by
 refine wpAny_comprehension_free (use:=use) (g:=⟨tg,iter,[],0⟩) (gs:=[]) rfl hs hclos hkind hnl (thn (hi.h pins s σ H _ I h) fun v s1 h1=>thn h1 fun itv s2 h2=>?_);obtain⟨it,fp,tnn,J,H2,rfl,I2,T,st2,f2,hW⟩:=h2;have hD:=I2.fresh;obtain⟨W,⟨m0,w0⟩,turn⟩:=hW _ hD;refine wpAny_newObj_type (wpAny_newFunctionEnv hcell (by intro y hy;simp at hy) (fun h₁ hns₁ hsb₁=>?_) hkind);dsimp only at hns₁ hsb₁ ⊢;have I3:Inv X pins σ (upd H2 s2.heap.objs.size (.lst [])) { s2 with heap:=s2.heap.push { cls:=.type "list",dict:=none,data:=.seq ([]:List Q6).toArray },toks:=s2.toks }:=I2.lnew (its:=[]) .nil (ZN _);generalize hs3:({ s2 with heap:=s2.heap.push { cls:=.type "list",dict:=none,data:=.seq ([]:List Q6).toArray },toks:=s2.toks }:QQ)=s3 at I3;have es3:s3.heap=s2.heap.push { cls:=.type "list",dict:=none,data:=.seq ([]:List Q6).toArray }:=by rw[<-hs3]
 generalize hDD:s2.heap.objs.size=D at *;have kept:∀b o,s3.heap.get? b=some o->h₁.get? b=some o:=fun b o e=>by
  have lt:=QK e;rw[es3]at lt e;exact hsb₁.extBut b o (Qj lt) (Q4 _ e)
 have old:∀b o,s2.heap.get? b=some o->s3.heap.get? b=some o:=fun b o e=>by rw[es3];exact Q4 _ e
 have ltD:∀b∈fp,b<D:=fun b hb=>by
  obtain⟨o,e,_⟩:=T.obj 0 _ st2 b hb;rw[<-hDD];exact QK e
 have fo:∀b∈fp,b<s3.heap.objs.size:=fun b hb=>by
  obtain⟨o,e,_⟩:=T.obj 0 _ st2 b hb;exact QK (old _ _ e)
 have f3:∀b∈fp,tW X pins (upd H2 D (.lst [])) b:=fun b hb=>by
  refine⟨?_,(f2 b hb).2⟩;rw[bc (Qj (ltD b hb))];exact(f2 b hb).1
 rw[<-es3]at hns₁ hsb₁ ⊢;have Ic:=fun t'=>Inv.comp (h1:=h₁) (t':=t') (Nc:=Nc) (n:=n) I3 hc f3 fo hkind hcl hhas hcap tn hN hn hns₁ kept;have stat:∀{H':Hp},(∀b∈fp,H' b=none)->∀b∈fp,tW (cxC X Nc scope cl s3 (upd H2 D (.lst [])) fp) [] H' b:=fun hn' b hb=>by
  refine⟨hn' b hb,Qj (fo b hb),fun z=>?_,.inl hb,fun x c e=>(f2 b hb).2.2.2.2.1 x c (hcl.look e),fun p hp=>(by simp at hp)⟩;rcases QL.mp (I3.stkSub b z)with q|q
  ·exact(f2 b hb).2.1 q
  ·exact(f2 b hb).2.2.1 q
 have loop:∀s4:QQ,(∃t',s4={ s3 with heap:=h₁,toks:=t' })->codeAny (Qx X.prog X.w) X.A (.compLoop (.ListComp elt [⟨tg,iter,[],0⟩] scope pos) 0 (.ref it) (.ref D) (compEnvC scope cl s3.heap.objs.size X.env))
   (compPost (Qx X.prog X.w) X.A X.xe use Qf (.ref D) s3.heap.objs.size) s4:=by
  rintro s4 ⟨t',rfl⟩;refine oO (fun n' s'=>∃i σ' H',Inv (cxC X Nc scope cl s3 (upd H2 D (.lst [])) fp) [] σ' H' s'/\tnn i s'.heap/\(∀b∈fp,H' b=none)/\W i n' σ' H') ?_ m0
   ⟨0,_,_,Ic t',T.keep 0 _ _ st2 fun b hb o e=>kept _ _ (old _ _ e),fun b hb=>(f3 b hb).1,w0⟩
  rintro n' s5 ⟨i,σ5,H5,I5,st5,fr5,w5⟩;rcases turn i n' σ5 H5 w5 with⟨stop,qn⟩|⟨go,N,hN',step⟩
  ·refine thn (T.done (cxC X Nc scope cl s3 (upd H2 D (.lst [])) fp) rfl rfl rfl hc i [] s5 σ5 H5 (fun _ _=>False) I5 (stat fr5) st5 stop) fun r s6 ⟨hr,I6⟩=>?_;subst hr;obtain⟨m,hm,_⟩:=I6.loc;have I7:Inv X pins σ H5 s6:=Inv.call' (ch:=fp) I3 I6.os I6.base I6.hok I6.bare fun b hb=>⟨(f2 b hb).2.2.2.1,(f2 b hb).2.1,(f2 b hb).2.2.2.2.1,(f2 b hb).2.2.2.2.2⟩;exact hend D _ s6 H5 m I7 hm I6.free (Ne.symm (Qj I3.lt)) I3.sz (fun x c e=>by
     obtain⟨v',o,ho,_⟩:=I3.cell x c e;exact Qj (QK ho)) (fun p hp=>Qj (QK (I3.pin p hp).1)) qn
  ·refine thn (T.item (cxC X Nc scope cl s3 (upd H2 D (.lst [])) fp) rfl rfl rfl hc i [] s5 σ5 H5 (fun _ _=>False) I5 (stat fr5) st5 go) fun r s6 ⟨u,hr,h6⟩=>?_;subst hr;refine thn h6 fun _ s7 hz=>?_;obtain⟨x,H7,I7,r7,y7,st7,fr7⟩:=hz;have I7':=I7.pinned (stat fr7) (T.obj _ _ st7);refine thn ((hg s3 (upd H2 D (.lst [])) fp).h _ s7 σ5 H7 x u _ I7' r7 (step x H7 y7)) fun _ s8 hz=>?_;obtain⟨σ8,H8,I8,q8⟩:=hz;refine thn ((he s3 (upd H2 D (.lst [])) fp).h _ s8 σ8 H8 _ I8 q8) fun v9 s9 hz=>?_;obtain⟨x9,H9,I9,r9,ys,hy,hlt,q9⟩:=hz;refine thn (kF (X:=cxC X Nc scope cl s3 (upd H2 D (.lst [])) fp) _ s9 σ8 H9 (.ref D) [x9] (.ref D) [v9] (fun _ H'=>N σ8 H') I9 rfl (.cons r9 .nil) ⟨D,ys,x9,rfl,rfl,hy,hlt,q9⟩) fun _ s10 hz=>?_;obtain⟨_,H10,I10,_,q10⟩:=hz;obtain⟨m',hm,w10⟩:=hN' σ8 H10 q10;refine⟨m',hm,i+1,σ8,H10,I10.unpinned,T.keep _ _ _ st7 fun b hb o e=>(I10.pin (b,o) (Qt _ (Qt _ (dN hb e)))).1,fun b hb=>?_,w10⟩;obtain⟨o,e,d⟩:=T.obj _ _ st7 b hb;exact(I10.pin (b,o) (Qt _ (Qt _ (dN hb e)))).2.1
 have e4:∀t',({ s2 with heap:=h₁,toks:=t' }:QQ)={ s3 with heap:=h₁,toks:=t' }:=fun t'=>by rw[<-hs3]
 refine codeAny_compStart_list (loop _ ⟨_,e4 _⟩) (T.self _ 0 _ _ _ (T.keep 0 _ _ st2 fun b hb o e=>kept _ _ (old _ _ e)) (loop _ ⟨_,e4 _⟩))
theorem qx{X:Cx}{Nc capN tn:List Str}{scope:X2}{cl:List (Str×Addr)}{n:Nat}{caps:List Nat}{tg iter elt:Qq}{pos:Pos}{wi:TI}{g:TG}{te:TE}
  (hc:X.calm=true) (hi:WI X tg iter wi) (hg:∀s3 H3 fp,WG (cxC X Nc scope cl s3 H3 fp) tg g) (he:∀s3 H3 fp,WE (cxC X Nc scope cl s3 H3 fp) elt te)
  (hclos:closureFor scope X.env=pure cl) (hkind:scope.kind=.function) (hnl:∀x∈scope.names,x.2=.local->scope.names.lookup x.1=some .local) (hcell:∀x∈scope.names,x.2≠.cell)
  (hcl:ph X.env cl) (hhas:((relabel scope X.env).names.all fun p=>!(p.2 == .cell||p.2 == .free)||(cl.lookup p.1).isSome)=true)
  (hcap:Paired (Cap X scope cl) caps capN) (hN:Nc=tn++capN) (hn:tn.length=n)
  (hs:∀x,foldedSetIterable iter X.env x=pure x:=by intro _;rfl) :
  WE X (.ListComp elt [⟨tg,iter,[],0⟩] scope pos) (yu wi g te n caps):=by
 constructor;intro pins s σ H Q I h;rw[eval_ListComp];refine rR hc hi hg he hclos hkind hnl hcell hcl hhas hcap hN hn I h (fun D C s6 H5 m I7 hm fr nl sz cn pn qn=>⟨m,hm,fun h' hs'=>?_⟩) hs;exact⟨.ref D,H5,I7.turned (t':=s6.toks) (it:=C) (fun b o hb e=>hs'.extBut b o hb e) fr nl (.inr sz) cn pn,rfl,qn⟩
section
variable{X:Cx}
theorem uD:∀{bs:List Bool} {us:List Q6} {i:Nat} {v:Q6},bh (bs.map V.bl) us->us[i]?=some v->∃b,bs[i]?=some b/\v=.bool b
 |[],_,_,_,r,e=>by cases r;simp at e
 |b::bs,_,0,_,.cons r _,e=>by
  have r':_=Value.bool b:=r;simp at e;subst e;exact⟨b,by simp,r'⟩
 |b::bs,_,i+1,v,.cons _ t,e=>by
  obtain⟨b',e1,e2⟩:=uD (i:=i) (v:=v) t (by simpa using e);exact⟨b',by simpa using e1,e2⟩
theorem zU(bs:List Bool):(Qe bs.length).all (fun i=>(bs[i]?).getD true)=bs.all id:=by
 rw[ZE,Z8,Z8];constructor
 ·intro h b hb;obtain⟨i,hi,e⟩:=List.mem_iff_getElem.mp hb;have:=h i (Ql.mpr hi);rw[Q7 hi,ZV,e]at this;exact this
 ·intro h i hi;have hi':=Ql.mp hi;have:=h _ (ZK hi');rw[Q7 hi',ZV];exact this
theorem Cv{h:Heap}{b:Addr}{o:Obj}(e:h.get? b=some o):¬b∈[h.objs.size]:=fun z=>by
 have z':b=h.objs.size:=by simpa using z
 exact absurd (QK e) (by rw[z'];exact Nat.lt_irrefl _)
theorem c8(hc:X.calm=true):cS X (.builtin "all") (fun xs H Q=>∃(p:Addr) (bs:List Bool),xs=[.ref p]/\SqL X.K H p (bs.map V.bl)/\Q (.bl (bs.all id)) H):=by
 intro pins s σ H xs us Q I r h;obtain⟨p,bs,rfl,hq,q⟩:=h;obtain⟨u,rfl,rx⟩:=f6 r;cases rx;obtain⟨its,rv,pl,hz⟩:=I.list hq;have hlen:=rv.length;rw[QZ]at hlen;refine call_all_walk (wpAny_pyIter_list pl.isList ?_);have lt:p<s.heap.objs.size:=by obtain⟨o,e,_⟩:=pl.isList;exact QK e
 refine⟨s.heap.objs.size,_,_,_,_,_,fun i=>(bs[i]?).getD true,rfl,Walks.list (show X.A.in1.handled=none from I.ok.hd hc) s.heap.objs.size p (Qj lt) its.toArray,⟨⟨_,QV _ rfl,rfl,rfl⟩,pl.isList.at fun o e=>Q4 _ e⟩,?_,fun h' tk hk=>?_⟩
 ·intro i v s' Q' E' hP hQ;have hP':its.toArray[i]?=some v:=hP;obtain⟨b,e1,e2⟩:=uD rv (by simpa using hP');subst e2;dsimp only at hQ;rw[e1,ZV]at hQ;exact wpAny_truthy_bool hQ
 ·have e:(Qe its.toArray.size).all (fun i=>(bs[i]?).getD true)=bs.all id:=by
   rw[QM,<-hlen];exact zU bs
  rw[e];exact⟨.bl (bs.all id),H,I.kept fun b o e=>hk b o (Cv e) (Q4 _ e),rfl,q⟩
end
open PySem.AutoSeq1 (wpAny_loadPart')
theorem zP{prog:Qu}{w:Qm}{A:Z9}{E:Q6->QQ->Prop}{s:QQ}{t b:Addr}{vs ws:List Q6}{Q:Q6->QQ->Prop}(ht:IsTup s.heap t vs.toArray)(hb:IsTup s.heap b ws.toArray)(hv:vs=[])
  (h1:Q (.ref b) s):wpAny (Qx prog w) A (binaryOp .Add (.ref t) (.ref b)) Q E s:=by
 obtain⟨⟨cls,dd,data,sl⟩,ho,hc,n,hd⟩:=id ht;obtain⟨⟨cls2,dd2,data2,sl2⟩,ho2,hc2,n2,hd2⟩:=id hb;simp only at hc hd hc2 hd2;subst hc hd hc2 hd2;exact concat_meets ⟨_,ho,rfl⟩ ⟨_,ho2,rfl⟩ noFill_tuple_add seq_tuple_add PySem.F.slot_tuple_add PySem.F.entry_tuple_add (PySem.F.args_tuple_add_2 _ _)
   (tuple_addW0 t b vs.toArray ws.toArray n n2 dd dd2 sl sl2 (by simp[hv])) ⟨ho,ho2,h1⟩
theorem jB:fillsNumberSlot (.type "tuple") "mul"=pure false:=
 PySem.fillsNumberSlot_seq (id:="tuple.__mul__") (r:=some (.builtin "tuple.__rmul__")) F.slot_tuple_mul.lookup (by decide +kernel) F.slot_tuple_rmul.lookup (by decide +kernel)
theorem n8:seqRepeat? (.type "tuple")=pure (some (.builtin "tuple.__mul__")):=by
 unfold seqRepeat?;rw[PySem.seqSlot_of (T:="tuple") (name:="__mul__") (id:="tuple.__mul__") F.slot_tuple_mul.lookup (by decide +kernel),PySem.seqSlot_of (T:="tuple") (name:="__rmul__") (id:="tuple.__rmul__") F.slot_tuple_rmul.lookup (by decide +kernel)];rfl
theorem lL(a:Int)(t:Tok)(l:Addr)(items:Array Q6)(n:Nat)(dd:Option Addr)(sl:Array (Option Q6)) :
  Meets (Builtin.«int.__rmul__» ⟨[.int a t,.ref l],[]⟩) (fun _ R s=>s.heap.get? l=some { cls:=.type "tuple",dict:=dd,data:=.seq items n,slots:=sl }/\R (.ok (.ret Value.notImplemented)) s):=
 .of_wp fun prog w A R s h=>by obtain⟨hp,g,d,tk,os⟩:=s;obtain⟨hl,h⟩:=h;wp_walk using wpAny_loadPart' hl;exact⟨_,rfl,h⟩
theorem pE(l:Addr)(items:Array Q6)(n:Nat)(dd:Option Addr)(sl:Array (Option Q6))(t:Tok) :
  Meets (Builtin.«tuple.__mul__» ⟨[.ref l,.int 1 t],[]⟩) (fun _ R s=>s.heap.get? l=some { cls:=.type "tuple",dict:=dd,data:=.seq items n,slots:=sl }/\R (.ok (.ret (Value.ref l))) s):=
 .of_wp fun prog w A R s h=>by obtain⟨hp,g,d,tk,os⟩:=s;obtain⟨hl,h⟩:=h;have f1:=AutoSeq1.idx_int;wp_walk using wpAny_loadPart' hl;exact⟨_,rfl,h⟩
theorem pD(l:Addr)(items:Array Q6)(n:Nat)(dd:Option Addr)(sl:Array (Option Q6))(k:Int)(t:Tok)(hc0:¬(decide (k < -2^63)||decide (k≥2^63))=true)(hc1:¬(items.isEmpty||k == 1)=true)(hc2:¬(decide (k<=0)||items.isEmpty)=true)
  (hc3:¬((items.size:Int)*k>(2^63-1) / 8)) (hc4:¬Builtin.Tuple.tupleTooMany ((items.size:Int)*k)=true) (hz:(List.foldl (fun x1 x2=>x1++x2) #[] (Qr k.toNat items)).size<=QN) :
  Meets (Builtin.«tuple.__mul__» ⟨[.ref l,.int k t],[]⟩) (fun _ R s=>s.heap.get? l=some { cls:=.type "tuple",dict:=dd,data:=.seq items n,slots:=sl }/\
   R (.ok (.ret (Value.ref s.heap.objs.size))) { s with heap:=s.heap.push { cls:=Value.type "tuple",data:=Data.seq (List.foldl (fun x1 x2=>x1++x2) #[] (Qr k.toNat items)) } }):=
 .of_wp fun prog w A R s h=>by
  obtain⟨hp,g,d,tk,os⟩:=s;obtain⟨hl,h⟩:=h;have f1:=AutoSeq1.idx_int;have g0:(decide (k < -2^63)||decide (k≥2^63))=false:=by simpa using hc0
  have g1:(items.isEmpty||k == 1)=false:=by simpa using hc1
  have g2:(decide (k<=0)||items.isEmpty)=false:=by simpa using hc2
  have g4:Builtin.Tuple.tupleTooMany ((items.size:Int)*k)=false:=by simpa using hc4
  wp_walk using wpAny_loadPart' hl
  refine PySem.W.KFB.if_not g0 ?_
  wp_walk using wpAny_loadPart' hl
  try (refine PySem.W.KFB.if_not g1 ?_;wp_walk using wpAny_loadPart' hl)
  try (refine PySem.W.KFB.if_not g2 ?_;wp_walk using wpAny_loadPart' hl)
  try (rw[if_neg hc3];wp_walk using wpAny_loadPart' hl)
  try (refine PySem.W.KFB.if_not g4 ?_;wp_walk using wpAny_loadPart' hl)
  try (refine wpAny_ite_false (decide_eq_false (Nat.not_lt.mpr hz)) ?_;wp_walk)
  exact⟨_,rfl,h⟩
theorem v8{m:Int}(h0:0<=m)(h:m<2^60):m.natAbs.log2<9000:=by
 have:=sR (n:=m.natAbs) (by omega);omega
end OG
namespace OP
open PySem PySem.Spec PyProof.Rows L2 OG
inductive U where
 |non|bl (b:Bool)|int (i:Int)|str (x:Str)|tup (us:List U)|ref (l:Nat)|kl (ns:List Int)
structure Cl where
 C:Addr
 ns:List Str
inductive O where
 |lst (us:List U)|dic (kvs:List (Key×U))|ins (c:Cl) (fs:List (Option U))|fdc (ep:Nat) (kvs:List (Key×U))|dit (kvs:List (List Key×U))|fdt (ep:Nat) (kvs:List (List Key×U))|dnt (kvs:List (List (List Int)×U))|fdn (ep:Nat) (kvs:List (List (List Int)×U))|cod (p:Addr) (pos:Pos) (q:Str)
abbrev Sto:=List O
abbrev Rho:=List (Option U)
def KL(K:Q5)(H:Hp)(a:Addr)(ns:List Int):Prop:=
 (∃o,H a=some (.frz o (.lst (ns.map V.int))))\/
  ∃(o:Obj) (its:Array Q6) (n:Nat),K.lookup a=some o/\o.cls=.type "list"/\o.dict=none/\o.data=.seq its n/\its.size<=QN/\bh (ns.map V.int) its.toList
theorem KL.sq{K:Q5}{H:Hp}{a:Addr}{ns:List Int}(h:KL K H a ns):SqL K H a (ns.map V.int):=by
 rcases h with h|h
 ·exact .inl (.inr h)
 ·exact .inr h
mutual
def Is(K:Q5)(m:List Addr)(H:Hp):V->U->Prop
 |v,.non=>v=.non
 |v,.bl b=>v=.bl b
 |v,.int i=>v=.int i
 |v,.str x=>v=.str x
 |v,.tup us=>∃a xs,v=.ref a/\SqT K H a xs/\IsL K m H xs us
 |v,.ref l=>∃a,m[l]?=some a/\v=.ref a
 |v,.kl ns=>∃a,v=.ref a/\KL K H a ns
def IsL(K:Q5)(m:List Addr)(H:Hp):List V->List U->Prop
 |xs,[]=>xs=[]
 |xs,u::us=>∃x r,xs=x::r/\Is K m H x u/\IsL K m H r us
end
structure z0(K:Q5)(H H':Hp):Prop where
 t:∀a xs,SqT K H a xs->SqT K H' a xs
 l:∀a ns,KL K H a ns->KL K H' a ns
 c:∀a ob,H a=some (.frz ob (.own 0))->H' a=some (.frz ob (.own 0))
structure Ext(K:Q5)(m:List Addr)(H:Hp)(m':List Addr)(H':Hp):Prop where
 pre:∃t,m'=m++t
 keep:z0 K H H'
section
variable{K:Q5}{m m' m'':List Addr}{H H' H'':Hp}{v x:V}{u:U}{xs ys:List V}{us ws:List U}{a q:Addr}{o:HO}
theorem Ext.refl:Ext K m H m H:=⟨⟨[],by simp⟩,fun _ _ h=>h,fun _ _ h=>h,fun _ _ h=>h⟩
theorem Ext.trans(a:Ext K m H m' H')(b:Ext K m' H' m'' H''):Ext K m H m'' H'':=by
 obtain⟨t,rfl⟩:=a.pre;obtain⟨t',rfl⟩:=b.pre;exact⟨⟨t++t',by simp⟩,fun c ys h=>b.keep.t c ys (a.keep.t c ys h),fun c ys h=>b.keep.l c ys (a.keep.l c ys h),fun c ob h=>b.keep.c c ob (a.keep.c c ob h)⟩
theorem Ext.of(k:z0 K H H'):Ext K m H m H':=⟨⟨[],by simp⟩,k⟩
theorem Ext.new(k:z0 K H H'):Ext K m H (m++[q]) H':=⟨⟨[q],rfl⟩,k⟩
theorem Ext.get{l:Nat}(e:Ext K m H m' H')(h:m[l]?=some a):m'[l]?=some a:=by
 obtain⟨t,rfl⟩:=e.pre;rw[Qv (Q9.mp h).1];exact h
mutual
theorem Is.mono(e:Ext K m H m' H'):∀{v:V} {u:U},Is K m H v u->Is K m' H' v u
 |v,.non,h=>by unfold Is at h ⊢;exact h
 |v,.bl b,h=>by unfold Is at h ⊢;exact h
 |v,.int i,h=>by unfold Is at h ⊢;exact h
 |v,.str x,h=>by unfold Is at h ⊢;exact h
 |v,.tup us,h=>by
  unfold Is at h ⊢;obtain⟨a,xs,e1,k,l⟩:=h;exact⟨a,xs,e1,e.keep.t _ _ k,IsL.mono e l⟩
 |v,.ref l,h=>by
  unfold Is at h ⊢;obtain⟨a,k,e1⟩:=h;exact⟨a,e.get k,e1⟩
 |v,.kl ns,h=>by
  unfold Is at h ⊢;obtain⟨a,e1,k⟩:=h;exact⟨a,e1,e.keep.l _ _ k⟩
theorem IsL.mono(e:Ext K m H m' H'):∀{xs:List V} {us:List U},IsL K m H xs us->IsL K m' H' xs us
 |xs,[],h=>by unfold IsL at h ⊢;exact h
 |xs,u::us,h=>by
  unfold IsL at h ⊢;obtain⟨x,r,e1,k,l⟩:=h;exact⟨x,r,e1,Is.mono e k,IsL.mono e l⟩
end
theorem Is.int_{i:Int}:Is K m H (.int i) (.int i):=by unfold Is;rfl
theorem Is.bl_{b:Bool}:Is K m H (.bl b) (.bl b):=by unfold Is;rfl
theorem Is.non_:Is K m H .non .non:=by unfold Is;rfl
theorem Is.str_{x:Str}:Is K m H (.str x) (.str x):=by unfold Is;rfl
theorem Is.of_int{i:Int}(h:Is K m H v (.int i)):v=.int i:=by unfold Is at h;exact h
theorem Is.of_bl{b:Bool}(h:Is K m H v (.bl b)):v=.bl b:=by unfold Is at h;exact h
theorem Is.of_non(h:Is K m H v .non):v=.non:=by unfold Is at h;exact h
theorem Is.of_str{x:Str}(h:Is K m H v (.str x)):v=.str x:=by unfold Is at h;exact h
theorem Is.of_tup(h:Is K m H v (.tup us)):∃a xs,v=.ref a/\SqT K H a xs/\IsL K m H xs us:=by unfold Is at h;exact h
theorem Is.of_ref{l:Nat}(h:Is K m H v (.ref l)):∃a,m[l]?=some a/\v=.ref a:=by unfold Is at h;exact h
theorem Is.of_kl{ns:List Int}(h:Is K m H v (.kl ns)):∃a,v=.ref a/\KL K H a ns:=by unfold Is at h;exact h
theorem Is.kl_{ns:List Int}(e:KL K H a ns):Is K m H (.ref a) (.kl ns):=by unfold Is;exact⟨a,rfl,e⟩
theorem Is.tup_(e:SqT K H a xs)(h:IsL K m H xs us):Is K m H (.ref a) (.tup us):=by unfold Is;exact⟨a,xs,rfl,e,h⟩
theorem Is.ref_{l:Nat}(e:m[l]?=some a):Is K m H (.ref a) (.ref l):=by unfold Is;exact⟨a,e,rfl⟩
theorem IsL.nil_:IsL K m H [] []:=by unfold IsL;rfl
theorem IsL.cons_(h:Is K m H x u)(t:IsL K m H xs us):IsL K m H (x::xs) (u::us):=by unfold IsL;exact⟨x,xs,rfl,h,t⟩
theorem IsL.of_nil(h:IsL K m H xs []):xs=[]:=by unfold IsL at h;exact h
theorem IsL.of_cons(h:IsL K m H xs (u::us)):∃x r,xs=x::r/\Is K m H x u/\IsL K m H r us:=by unfold IsL at h;exact h
theorem IsL.length:∀{xs:List V} {us:List U},IsL K m H xs us->xs.length=us.length
 |xs,[],h=>by rw[h.of_nil];rfl
 |xs,d::ds,h=>by
  obtain⟨x,r,rfl,_,t⟩:=h.of_cons;rw[QD,QD,IsL.length t]
theorem IsL.getD:∀{xs:List V} {us:List U} {i:Nat} {u:U},IsL K m H xs us->us[i]?=some u->∃x,xs[i]?=some x/\Is K m H x u
 |xs,[],i,x,h,e=>by simp at e
 |xs,d::ds,0,x,h,e=>by
  obtain⟨y,r,rfl,k,t⟩:=h.of_cons;simp at e;subst e;exact⟨y,by simp,k⟩
 |xs,d::ds,i+1,x,h,e=>by
  obtain⟨y,r,rfl,k,t⟩:=h.of_cons;obtain⟨d',e1,e2⟩:=IsL.getD (i:=i) (u:=x) t (by simpa using e);exact⟨d',by simpa using e1,e2⟩
theorem IsL.append:∀{xs:List V} {us:List U},IsL K m H xs us->IsL K m H ys ws->IsL K m H (xs++ys) (us++ws)
 |xs,[],h,k=>by rw[h.of_nil];exact k
 |xs,d::ds,h,k=>by
  obtain⟨y,r,rfl,z,t⟩:=h.of_cons;exact .cons_ z (IsL.append t k)
theorem IsL.set:∀{xs:List V} {us:List U} {j:Nat},IsL K m H xs us->Is K m H x u->IsL K m H (xs.set j x) (us.set j u)
 |xs,[],j,h,k=>by rw[h.of_nil];exact .nil_
 |xs,d::ds,0,h,k=>by
  obtain⟨y,r,rfl,z,t⟩:=h.of_cons;exact .cons_ k t
 |xs,d::ds,j+1,h,k=>by
  obtain⟨y,r,rfl,z,t⟩:=h.of_cons;exact .cons_ z (IsL.set t k)
theorem IsL.drop:∀{xs:List V} {us:List U} (n:Nat),IsL K m H xs us->IsL K m H (xs.drop n) (us.drop n)
 |xs,us,0,h=>h
 |xs,[],n+1,h=>by rw[h.of_nil];exact .nil_
 |xs,d::ds,n+1,h=>by
  obtain⟨y,r,rfl,z,t⟩:=h.of_cons;exact IsL.drop n t
theorem IsL.take:∀{xs:List V} {us:List U} (n:Nat),IsL K m H xs us->IsL K m H (xs.take n) (us.take n)
 |xs,us,0,h=>.nil_
 |xs,[],n+1,h=>by rw[h.of_nil];exact .nil_
 |xs,d::ds,n+1,h=>by
  obtain⟨y,r,rfl,z,t⟩:=h.of_cons;exact .cons_ z (IsL.take n t)
theorem IsL.erase:∀{xs:List V} {us:List U} (n:Nat),IsL K m H xs us->IsL K m H (xs.eraseIdx n) (us.eraseIdx n)
 |xs,[],n,h=>by rw[h.of_nil];exact .nil_
 |xs,d::ds,0,h=>by
  obtain⟨y,r,rfl,z,t⟩:=h.of_cons;exact t
 |xs,d::ds,n+1,h=>by
  obtain⟨y,r,rfl,z,t⟩:=h.of_cons;exact .cons_ z (IsL.erase n t)
theorem IsL.rev:∀{xs:List V} {us:List U},IsL K m H xs us->IsL K m H xs.reverse us.reverse
 |xs,[],h=>by rw[h.of_nil];exact .nil_
 |xs,d::ds,h=>by
  obtain⟨y,r,rfl,z,t⟩:=h.of_cons;rw[List.reverse_cons,List.reverse_cons];exact IsL.append (IsL.rev t) (.cons_ z .nil_)
theorem IsL.rep:∀(n:Nat),IsL K m H xs us->IsL K m H (Qr n xs).flatten (Qr n us).flatten
 |0,h=>.nil_
 |n+1,h=>by
  rw[Zy,Zy,X0,X0];exact h.append (IsL.rep n h)
theorem rz(h:H a=some o)(nt:∀xs,o≠.tup xs)(nf:∀ob xs,o≠.frz ob (.tup xs))(nl:∀ob xs,o≠.frz ob (.lst xs))(nc:∀ob,o≠.frz ob (.own 0))(o':HO):z0 K H (upd H a o'):=by
 refine⟨fun b xs q=>?_,fun b ns q=>?_,fun b ob q=>by rw[bc (fun z=>by subst z;rw[q]at h;cases h;exact nc _ rfl)];exact q⟩
 ·rcases q with(q|⟨ob,q⟩)|q
  ·have n:b≠a:=fun z=>by subst z;rw[q]at h;cases h;exact nt _ rfl
   exact .inl (.inl (by rw[bc n];exact q))
  ·have n:b≠a:=fun z=>by subst z;rw[q]at h;cases h;exact nf _ _ rfl
   exact .inl (.inr ⟨ob,by rw[bc n];exact q⟩)
  ·exact .inr q
 ·rcases q with⟨ob,q⟩|q
  ·have n:b≠a:=fun z=>by subst z;rw[q]at h;cases h;exact nl _ _ rfl
   exact .inl ⟨ob,by rw[bc n];exact q⟩
  ·exact .inr q
theorem cH(s:tQ H H'):z0 K H H':=by
 refine⟨fun b xs q=>?_,fun b ns q=>?_,fun b ob q=>s _ _ q⟩
 ·rcases q with(q|⟨ob,q⟩)|q
  ·exact .inl (.inl (s _ _ q))
  ·exact .inl (.inr ⟨ob,s _ _ q⟩)
  ·exact .inr q
 ·rcases q with⟨ob,q⟩|q
  ·exact .inl ⟨ob,s _ _ q⟩
  ·exact .inr q
theorem bC(h:H q=none)(o':HO):z0 K H (upd H q o'):=cH (dE h o')
end
abbrev NK:=List (List Int)
def hNK(ks:NK):Int:=reduceHash (Builtin.Tuple.tupleHashOf (ks.map fun k=>reduceHash (Builtin.Tuple.tupleHashOf (k.map hashInt))))
abbrev KN:List ((NK×Addr)×V)->List (NK×Addr×Q6)->Prop:=Paired fun p q=>p.1.1=q.1/\p.1.2=q.2.1/\bX p.2 q.2.2
def dNo(a:Addr)(kvs:List ((NK×Addr)×V)):HO:=.ext fun h=>kvs.length<=QN/\(a == sysModules)=false/\∃xs,KN kvs xs/\
 ∃o es ep,h.get? a=some o/\o.ExactDict/\o.data=.dict es ep/\es.toList=(xs.map fun x=>(⟨hNK x.1,.ref x.2.1,x.2.2⟩:DictEntry))/\(xs.map (·.1)).Nodup
def Gk(K:Q5)(H:Hp)(b:Addr)(k:NK):Prop:=∃cs:List Addr,SqT K H b (cs.map V.ref)/\Paired (fun(l:List Int) c=>SqT K H c (l.map V.int)) k cs
theorem Gk.mono{K:Q5}{H H':Hp}{b:Addr}{k:NK}(e:z0 K H H')(h:Gk K H b k):Gk K H' b k:=let ⟨cs,p,q⟩:=h;⟨cs,e.t _ _ p,Paired.mapP q fun _ _ z=>e.t _ _ z⟩
def nP(kvs:List ((NK×Addr)×V)):List (NK×V):=kvs.map fun p=>(p.1.1,p.2)
def IsP{κ:Type}(K:Q5)(m:List Addr)(H:Hp)(kvs:List (κ×V))(kus:List (κ×U)):Prop:=kvs.map (·.1)=kus.map (·.1)/\IsL K m H (kvs.map (·.2)) (kus.map (·.2))
def Rf(K:Q5)(m:List Addr)(H:Hp):Option V->Option U->Prop
 |some v,some u=>Is K m H v u
 |none,none=>True
 |_,_=>False
structure InF(K:Q5)(m:List Addr)(H:Hp)(c:Cl)(fs:List (Str×V))(fus:List (Option U)):Prop where
 nd:c.ns.Nodup
 few:c.ns.length<1000
 knd:(fs.map (·.1)).Nodup
 sub:∀x∈fs.map (·.1),x∈c.ns
 len:fus.length=c.ns.length
 at_:∀(i:Nat) (x:Str),c.ns[i]?=some x->Rf K m H (fs.lookup x) ((fus[i]?).join)
theorem Rf.mono{K:Q5}{m m':List Addr}{H H':Hp}{v:Option V}{u:Option U}(e:Ext K m H m' H')(h:Rf K m H v u):Rf K m' H' v u:=by
 cases v with
 |none=>cases u with
  |none=>trivial
  |some u=>exact h.elim
 |some v=>cases u with
  |none=>exact h.elim
  |some u=>exact Is.mono e h
theorem InF.mono{K:Q5}{m m':List Addr}{H H':Hp}{c:Cl}{fs:List (Str×V)}{fus:List (Option U)}(e:Ext K m H m' H')(h:InF K m H c fs fus):InF K m' H' c fs fus:=⟨h.nd,h.few,h.knd,h.sub,h.len,fun i x q=>(h.at_ i x q).mono e⟩
def zX(H:Hp)(pos:Pos)(q:Str)(ps:Array Q6):Prop:=TriplesOk ps.toList/\(codeAmong pos ps.toList=none\/∃c ob vs t,codeAmong pos ps.toList=some (.ref c)/\H c=some (.frz ob (.own 0))/\ob.data=.fields vs/\vs[1]?=some (.str q t))
theorem zX.mono{K:Q5}{H H':Hp}{pos:Pos}{q:Str}{ps:Array Q6}(e:z0 K H H')(h:zX H pos q ps):zX H' pos q ps:=⟨h.1,h.2.imp id fun⟨c,ob,vs,t,h1,h2,h3⟩=>⟨c,ob,vs,t,h1,e.c _ _ h2,h3⟩⟩
def Ob(K:Q5)(m:List Addr)(H:Hp)(a:Addr):O->Prop
 |.lst us=>∃xs,H a=some (.lst xs)/\IsL K m H xs us
 |.dic kus=>∃kvs,H a=some (.dK kvs)/\IsP K m H kvs kus
 |.ins c fus=>∃dx fs,H a=some (.ins c.C dx fs)/\InF K m H c fs fus
 |.fdc ep kus=>∃ob es kvs,H a=some (.frz ob (.dK kvs))/\ob.data=.dict es ep/\IsP K m H kvs kus
 |.dit kus=>∃kvs,H a=some (.dT kvs)/\IsP K m H kvs kus
 |.fdt ep kus=>∃ob es kvs,H a=some (.frz ob (.dT kvs))/\ob.data=.dict es ep/\IsP K m H kvs kus
 |.dnt kus=>∃kvs,H a=some (dNo a kvs)/\(∀p∈kvs,Gk K H p.1.2 p.1.1)/\IsP K m H (nP kvs) kus
 |.fdn ep kus=>∃ob es kvs,H a=some (.frz ob (dNo a kvs))/\ob.data=.dict es ep/\(∀p∈kvs,Gk K H p.1.2 p.1.1)/\IsP K m H (nP kvs) kus
 |.cod p pos q=>a=p/\∃ps,H a=some (.tbl ps)/\zX H pos q ps
structure Sr(K:Q5)(m:List Addr)(S:Sto)(H:Hp):Prop where
 len:m.length=S.length
 nd:m.Nodup
 ob:∀(l:Nat) (a:Addr) (o:O),m[l]?=some a->S[l]?=some o->Ob K m H a o
structure Lr(K:Q5)(m:List Addr)(H:Hp)(ρ:Rho)(σ:L2.St):Prop where
 len:ρ.length=σ.length
 at_:∀(i:Nat) (u:U),ρ[i]?=some (some u)->∃v,σ[i]?=some (some v)/\Is K m H v u
section
variable{κ:Type}{K:Q5}{m m':List Addr}{H H':Hp}{S:Sto}{ρ:Rho}{σ:L2.St}{a q:Addr}{l:Nat}{o:O}{ho:HO}{us:List U}{v:V}{u:U}{kvs:List (κ×V)}{kus:List (κ×U)}
theorem IsP.mono(e:Ext K m H m' H')(h:IsP K m H kvs kus):IsP K m' H' kvs kus:=⟨h.1,h.2.mono e⟩
theorem IsP.length(h:IsP K m H kvs kus):kvs.length=kus.length:=by have:=h.2.length;simpa using this
theorem IsP.nil_:IsP (κ:=κ) K m H [] []:=⟨rfl,.nil_⟩
theorem IsP.cons_{k:κ}(h:Is K m H v u)(t:IsP K m H kvs kus):IsP K m H ((k,v)::kvs) ((k,u)::kus):=⟨by simp[t.1],.cons_ h t.2⟩
theorem IsP.ind{P:List (κ×V)->List (κ×U)->Prop}(h0:P [] [])(h1:∀k v u kvs kus,Is K m H v u->IsP K m H kvs kus->P kvs kus->P ((k,v)::kvs) ((k,u)::kus)):∀{kvs:List (κ×V)} {kus:List (κ×U)},IsP K m H kvs kus->P kvs kus
 |[],[],_=>h0
 |[],p::r,h=>by have:=h.length;simp at this
 |p::r,[],h=>by have:=h.length;simp at this
 |(k,v)::r,(k',u)::r',h=>by
  obtain⟨e,i⟩:=h;simp only[Qk,List.cons.injEq]at e;obtain⟨e1,e2⟩:=e;subst e1;obtain⟨x,t,e3,iu,it⟩:=i.of_cons;cases e3;exact h1 k v u r r' iu ⟨e2,it⟩ (IsP.ind h0 h1 (⟨e2,it⟩:IsP K m H r r'))
theorem Ob.mono(e:Ext K m H m' H')(h1:H' a=H a)(h:Ob K m H a o):Ob K m' H' a o:=by
 cases o with
 |lst us=>obtain⟨xs,k,i⟩:=h;exact⟨xs,h1.trans k,i.mono e⟩
 |dic kus=>obtain⟨xs,k,i⟩:=h;exact⟨xs,h1.trans k,i.mono e⟩
 |ins C fus=>obtain⟨dx,fs,k,i⟩:=h;exact⟨dx,fs,h1.trans k,i.mono e⟩
 |fdc ep kus=>obtain⟨ob,es,kvs,k,d,i⟩:=h;exact⟨ob,es,kvs,h1.trans k,d,i.mono e⟩
 |dit kus=>obtain⟨xs,k,i⟩:=h;exact⟨xs,h1.trans k,i.mono e⟩
 |fdt ep kus=>obtain⟨ob,es,kvs,k,d,i⟩:=h;exact⟨ob,es,kvs,h1.trans k,d,i.mono e⟩
 |dnt kus=>obtain⟨kvs,k,y,i⟩:=h;exact⟨kvs,h1.trans k,fun p hp=>(y p hp).mono e.keep,i.mono e⟩
 |fdn ep kus=>obtain⟨ob,es,kvs,k,d,y,i⟩:=h;exact⟨ob,es,kvs,h1.trans k,d,fun p hp=>(y p hp).mono e.keep,i.mono e⟩
 |cod p pos q=>obtain⟨z,ps,k,i⟩:=h;exact⟨z,ps,h1.trans k,i.mono e.keep⟩
theorem Ob.some(h:Ob K m H a o):∃ho,H a=some ho/\(∀xs,ho≠.tup xs)/\(∀ob xs,ho≠.frz ob (.tup xs))/\(∀ob xs,ho≠.frz ob (.lst xs))/\(∀ob,ho≠.frz ob (.own 0)):=by
 cases o with
 |lst us=>obtain⟨xs,k,i⟩:=h;exact⟨_,k,by simp,by simp,by simp,by simp⟩
 |dic kus=>obtain⟨xs,k,i⟩:=h;exact⟨_,k,by simp,by simp,by simp,by simp⟩
 |ins C fus=>obtain⟨dx,fs,k,i⟩:=h;exact⟨_,k,by simp,by simp,by simp,by simp⟩
 |fdc ep kus=>obtain⟨ob,es,kvs,k,d,i⟩:=h;exact⟨_,k,by simp,by simp,by simp,by simp⟩
 |dit kus=>obtain⟨xs,k,i⟩:=h;exact⟨_,k,by simp,by simp,by simp,by simp⟩
 |fdt ep kus=>obtain⟨ob,es,kvs,k,d,i⟩:=h;exact⟨_,k,by simp,by simp,by simp,by simp⟩
 |dnt kus=>obtain⟨kvs,k,y,i⟩:=h;exact⟨_,k,by simp[dNo],by simp[dNo],by simp[dNo],by simp[dNo]⟩
 |fdn ep kus=>obtain⟨ob,es,kvs,k,d,y,i⟩:=h;exact⟨_,k,by simp,by simp[dNo],by simp[dNo],by simp[dNo]⟩
 |cod p pos q=>obtain⟨z,ps,k,i⟩:=h;exact⟨_,k,by simp,by simp,by simp,by simp⟩
theorem Lr.mono(e:Ext K m H m' H')(h:Lr K m H ρ σ):Lr K m' H' ρ σ:=⟨h.len,fun i u e1=>let ⟨v,e2,e3⟩:=h.at_ i u e1;⟨v,e2,e3.mono e⟩⟩
theorem Lr.set(h:Lr K m H ρ σ)(i:Nat)(hv:Is K m H v u):Lr K m H (ρ.set i (some u)) (σ.set i (some v)):=by
 refine⟨by simp[h.len],fun j w e=>?_⟩;by_cases c:i=j
 ·subst c;rw[List.getElem?_set_self' ]at e;rw[List.getElem?_set_self'];have hl:=h.len;cases e1:ρ[i]? with
  |none=>rw[e1]at e;simp at e
  |some z=>
   rw[e1]at e;simp at e;subst e;have:i < σ.length:=by rw[<-hl];exact(Q9.mp e1).1
   rw[Q7 this];exact⟨v,rfl,hv⟩
 ·rw[Qp c]at e;rw[Qp c];exact h.at_ j w e
theorem Sr.get(r:Sr K m S H)(h:S[l]?=some o):∃a,m[l]?=some a/\Ob K m H a o:=by
 have hl:l<m.length:=by rw[r.len];exact(Q9.mp h).1
 exact⟨_,Q7 hl,r.ob _ _ _ (Q7 hl) h⟩
theorem Sr.at_(r:Sr K m S H)(h:m[l]?=some a):∃o,S[l]?=some o/\Ob K m H a o:=by
 have hl:l<S.length:=by rw[<-r.len];exact(Q9.mp h).1
 exact⟨_,Q7 hl,r.ob _ _ _ h (Q7 hl)⟩
theorem Sr.same(r:Sr K m S H)(s:tQ H H'):Sr K m S H':=⟨r.len,r.nd,fun l a o h1 h2=>by
 have q:=r.ob l a o h1 h2;obtain⟨ho,e,_⟩:=q.some;exact q.mono (.of (cH s)) (by rw[s _ _ e,e])⟩
theorem Sr.new(r:Sr K m S H)(h:H q=none)(n:Ob K (m++[q]) (upd H q ho) q o):Sr K (m++[q]) (S++[o]) (upd H q ho):=by
 have hq:q∉m:=fun z=>by
  obtain⟨l,e⟩:=Zc z;obtain⟨o,_,k⟩:=r.at_ e;obtain⟨ho,e2,_⟩:=k.some;rw[h]at e2;cases e2
 refine⟨by simp[r.len],?_,fun l a o' h1 h2=>?_⟩
 ·rw[List.nodup_append];exact⟨r.nd,by simp,fun x hx y hy z=>by simp at hy;subst hy;subst z;exact hq hx⟩
 ·by_cases c:l<m.length
  ·rw[Qv c]at h1;rw[Qv (by rw[<-r.len];exact c)]at h2;have q':=r.ob l a o' h1 h2;obtain⟨ho',e,_⟩:=q'.some;exact q'.mono (.new (bC h _)) (by rw[bc (cu e h)])
  ·have e:l=m.length:=by
    have:=(Q9.mp h1).1;simp at this;omega
   subst e;rw[Qw (QJ _)]at h1;rw[Qw (by rw[r.len];exact QJ _)]at h2;simp[r.len]at h1 h2;subst h1;subst h2;exact n
theorem Sr.put(r:Sr K m S H)(h:m[l]?=some a)(n:Ob K m (upd H a ho) a o):Sr K m (S.set l o) (upd H a ho):=by
 obtain⟨o0,h0,k0⟩:=r.at_ h;obtain⟨ho',e,nt,nf,nl,nc⟩:=k0.some;refine⟨by simp[r.len],r.nd,fun l' a' o' h1 h2=>?_⟩;by_cases c:l=l'
 ·subst c;rw[h]at h1;cases h1;rw[List.getElem?_set_self (Q9.mp h0).1]at h2;cases h2;exact n
 ·rw[Qp c]at h2;have na:a'≠a:=fun z=>by
   subst z;obtain⟨p1,e1⟩:=Q9.mp h;obtain⟨p2,e2⟩:=Q9.mp h1;exact c ((List.getElem_inj r.nd).mp (e1.trans e2.symm))
  exact(r.ob l' a' o' h1 h2).mono (.of (rz e nt nf nl nc _)) (by rw[bc na])
theorem Sr.keep(r:Sr K m S H)(h:m[l]?=some a)(ho:HO):z0 K H (upd H a ho):=by
 obtain⟨o0,h0,k0⟩:=r.at_ h;obtain⟨ho',e,nt,nf,nl,nc⟩:=k0.some;exact rz e nt nf nl nc _
end
def iL(K:Q5)(m:List Addr)(H:Hp)(Q:VK)(u:U)(S':Sto):Prop:=∀m' v H',Ext K m H m' H'->Sr K m' S' H'->Is K m' H' v u->Q v H'
abbrev CE:=Rho->Sto->Option (U×Sto)
abbrev CT:=Rho->Sto->Option (Bool×Sto)
abbrev CA:=Rho->Sto->Option (List U×Sto)
inductive Out where
 |nx|rt (u:U)|bk|ct
abbrev CS:=Rho->Sto->Option (Out×Rho×Sto)
def zZ(K:Q5)(m:List Addr)(H:Hp)(Q:Bool->Hp->Prop)(b:Bool)(S':Sto):Prop:=∀m' H',Ext K m H m' H'->Sr K m' S' H'->Q b H'
def Jx(K:Q5)(m:List Addr)(H:Hp)(Q:List V->Hp->Prop)(us:List U)(S':Sto):Prop:=∀m' vs H',Ext K m H m' H'->Sr K m' S' H'->IsL K m' H' vs us->Q vs H'
def gh(K:Q5)(m:List Addr)(H:Hp)(Q:L2.St->Hp->Prop)(ρ':Rho)(S':Sto):Prop:=∀m' σ' H',Ext K m H m' H'->Sr K m' S' H'->Lr K m' H' ρ' σ'->Q σ' H'
def tM(K:Q5)(m:List Addr)(H:Hp)(D:AW):Out->Rho->Sto->Prop
 |.nx,ρ',S'=>gh K m H D.nx ρ' S'
 |.bk,ρ',S'=>gh K m H D.bk ρ' S'
 |.ct,ρ',S'=>gh K m H D.ct ρ' S'
 |.rt u,_,S'=>iL K m H D.rt u S'
theorem gN{α β γ δ ε:Type}{A B C D:α->β->γ->δ->ε->Prop}{p:Prop}(h:∃a b c d e,A a b c d e/\B a b c d e/\C a b c d e/\D a b c d e)(f:∀a b c d e,A a b c d e->B a b c d e->C a b c d e->D a b c d e->p):p:=by
 obtain⟨a,b,c,d,e,h1,h2,h3,h4⟩:=h;exact f a b c d e h1 h2 h3 h4
theorem tw{α β γ δ ε ζ:Type}{A B C D:α->β->γ->δ->ε->ζ->Prop}{p:Prop}(h:∃a b c d e g,A a b c d e g/\B a b c d e g/\C a b c d e g/\D a b c d e g)(f:∀a b c d e g,A a b c d e g->B a b c d e g->C a b c d e g->D a b c d e g->p):p:=by
 obtain⟨a,b,c,d,e,g,h1,h2,h3,h4⟩:=h;exact f a b c d e g h1 h2 h3 h4
theorem J8{α β γ δ ε ζ:Type}{A B C D E:α->β->γ->δ->ε->ζ->Prop}{p:Prop}(h:∃a b c d e g,A a b c d e g/\B a b c d e g/\C a b c d e g/\D a b c d e g/\E a b c d e g)(f:∀a b c d e g,A a b c d e g->B a b c d e g->C a b c d e g->D a b c d e g->E a b c d e g->p):p:=by
 obtain⟨a,b,c,d,e,g,h1,h2,h3,h4,h5⟩:=h;exact f a b c d e g h1 h2 h3 h4 h5
def tE(K:Q5)(c:CE):TE:=fun σ H Q=>∃m ρ S u S',Sr K m S H/\Lr K m H ρ σ/\c ρ S=some (u,S')/\iL K m H Q u S'
def tT(K:Q5)(c:CT):TT:=fun σ H Q=>∃m ρ S u S',Sr K m S H/\Lr K m H ρ σ/\c ρ S=some (u,S')/\zZ K m H Q u S'
def tA(K:Q5)(c:CA):TA:=fun σ H Q=>∃m ρ S u S',Sr K m S H/\Lr K m H ρ σ/\c ρ S=some (u,S')/\Jx K m H Q u S'
def tS(K:Q5)(c:CS):TS:=fun D σ H=>∃m ρ S o ρ' S',Sr K m S H/\Lr K m H ρ σ/\c ρ S=some (o,ρ',S')/\tM K m H D o ρ' S'
abbrev QE(X:Cx)(e:Qq)(c:CE):Prop:=WE X e (tE X.K c)
abbrev QT(X:Cx)(e:Qq)(c:CT):Prop:=WT X e (tT X.K c)
abbrev QW(X:Cx)(e:Qq)(c:CT):Prop:=WW X e (tT X.K c)
abbrev QS(X:Cx)(e:ZR)(c:CS):Prop:=WS X e (tS X.K c)
abbrev QSs(X:Cx)(e:List ZR)(c:CS):Prop:=WSs X e (tS X.K c)
structure QA(X:Cx)(es:List Qq)(c:CA):Prop where
 h:WA X es (tA X.K c)
 len:∀ρ S us S',c ρ S=some (us,S')->us.length=es.length
section
variable{X:Cx}{e:Qq}{es:List Qq}{st:ZR}{sts:List ZR}
theorem _root_.OG.WE.imp{t t':TE}(h:WE X e t)(i:∀σ H Q,t' σ H Q->t σ H Q):WE X e t':=⟨fun pins s σ H Q I k=>h.h pins s σ H Q I (i σ H Q k)⟩
theorem _root_.OG.WT.imp{t t':TT}(h:WT X e t)(i:∀σ H Q,t' σ H Q->t σ H Q):WT X e t':=⟨fun pins s σ H Q I k=>h.h pins s σ H Q I (i σ H Q k)⟩
theorem _root_.OG.WW.imp{t t':TT}(h:WW X e t)(i:∀σ H Q,t' σ H Q->t σ H Q):WW X e t':=⟨fun wh pins s σ H Q I k=>h.h wh pins s σ H Q I (i σ H Q k)⟩
theorem _root_.OG.WA.imp{t t':TA}(h:WA X es t)(i:∀σ H Q,t' σ H Q->t σ H Q):WA X es t':=⟨fun pos pins s σ H Q I k=>h.h pos pins s σ H Q I (i σ H Q k)⟩
theorem _root_.OG.WS.imp{t t':TS}(h:WS X st t)(i:∀D σ H,t' D σ H->t D σ H):WS X st t':=⟨fun pins s σ H D I k=>h.h pins s σ H D I (i D σ H k)⟩
theorem _root_.OG.WSs.imp{t t':TS}(h:WSs X sts t)(i:∀D σ H,t' D σ H->t D σ H):WSs X sts t':=⟨fun pins s σ H D I k=>h.h pins s σ H D I (i D σ H k)⟩
theorem _root_.OG.WI.imp{tg:Qq}{t t':TI}(h:WI X tg e t)(i:∀σ H R,t' σ H R->t σ H R):WI X tg e t':=⟨fun pins s σ H R I k=>h.h pins s σ H R I (i σ H R k)⟩
theorem _root_.OG.WG.imp{t t':TG}(h:WG X e t)(i:∀v σ H Q,t' v σ H Q->t v σ H Q):WG X e t':=⟨fun pins s σ H v u Q I r k=>h.h pins s σ H v u Q I r (i v σ H Q k)⟩
theorem _root_.OG.WGs.imp{t t':TGs}(h:WGs X es t)(i:∀v σ H Q,t' v σ H Q->t v σ H Q):WGs X es t':=⟨fun pins s σ H v u Q I r k=>h.h pins s σ H v u Q I r (i v σ H Q k)⟩
theorem _root_.OG.WE.or{t t':TE}(h:WE X e t)(h':WE X e t'):WE X e (fun σ H Q=>t σ H Q\/t' σ H Q):=⟨fun pins s σ H Q I k=>k.elim (h.h pins s σ H Q I) (h'.h pins s σ H Q I)⟩
theorem _root_.OG.WS.or{t t':TS}(h:WS X st t)(h':WS X st t'):WS X st (fun D σ H=>t D σ H\/t' D σ H):=⟨fun pins s σ H D I k=>k.elim (h.h pins s σ H D I) (h'.h pins s σ H D I)⟩
theorem _root_.OG.WI.or{tg:Qq}{t t':TI}(h:WI X tg e t)(h':WI X tg e t'):WI X tg e (fun σ H D=>t σ H D\/t' σ H D):=⟨fun pins s σ H D I k=>k.elim (h.h pins s σ H D I) (h'.h pins s σ H D I)⟩
end
section
variable{K:Q5}{m m':List Addr}{H H':Hp}{Q:VK}{R:L2.St->Hp->Prop}{D:AW}{u:U}{o:Out}{S':Sto}{ρ':Rho}
theorem iL.mono(e:Ext K m H m' H')(p:iL K m H Q u S'):iL K m' H' Q u S':=fun m2 v H2 e2 r i=>p m2 v H2 (e.trans e2) r i
theorem zZ.mono{Q:Bool->Hp->Prop}{b:Bool}(e:Ext K m H m' H')(p:zZ K m H Q b S'):zZ K m' H' Q b S':=fun m2 H2 e2 r=>p m2 H2 (e.trans e2) r
theorem gh.mono(e:Ext K m H m' H')(p:gh K m H R ρ' S'):gh K m' H' R ρ' S':=fun m2 v H2 e2 r i=>p m2 v H2 (e.trans e2) r i
theorem tM.mono(e:Ext K m H m' H')(p:tM K m H D o ρ' S'):tM K m' H' D o ρ' S':=by
 cases o with
 |nx=>exact gh.mono e p
 |rt u=>exact iL.mono e p
 |bk=>exact gh.mono e p
 |ct=>exact gh.mono e p
end
def LIM:Nat:=100000
theorem lim{n:Nat}(h:n<=LIM):n<=QN:=Qo h (by unfold LIM QN;decide)
theorem Fx{n:Nat}(h:n<LIM):n<QN:=Qy h (by unfold LIM QN;decide)
def ao(i:Nat):CE:=fun ρ S=>match ρ[i]? with
 |some (some u)=>some (u,S)
 |_=>none
def cC(u:U):CE:=fun _ S=>some (u,S)
section
variable{X:Cx}{e a b c:Qq}{ca cb cc:CE}{pos:Pos}
theorem ah{i:Nat}(h:WE X e (Gr i)):QE X e (ao i):=h.imp fun σ H Q hz=>gN hz fun m ρ S u S' sr lr hc post=>by
 unfold ao at hc;split at hc
 ·rename_i u' e;cases hc;obtain⟨v,e1,e2⟩:=lr.at_ i u e;exact⟨v,e1,post m v H .refl sr e2⟩
 ·cases hc
theorem q_c{v:V}{u:U}(h:WE X e (tC v))(hi:∀m H,Is X.K m H v u):QE X e (cC u):=h.imp fun σ H Q hz=>gN hz fun m ρ S u' S' sr lr hc post=>by
 cases hc;exact post m v H .refl sr (hi m H)
theorem aA{i:Int}(h:WE X e (tC (.int i))):QE X e (cC (.int i)):=q_c h fun _ _=>.int_
theorem iW{i:Bool}(h:WE X e (tC (.bl i))):QE X e (cC (.bl i)):=q_c h fun _ _=>.bl_
theorem Ib{i:Str}(h:WE X e (tC (.str i))):QE X e (cC (.str i)):=q_c h fun _ _=>.str_
theorem BZ(h:WE X e (tC .non)):QE X e (cC .non):=q_c h fun _ _=>.non_
def cOp(f:U->U->Sto->Option (U×Sto))(ca cb:CE):CE:=fun ρ S=>(ca ρ S).bind fun p=>(cb ρ p.2).bind fun q=>f p.1 q.1 q.2
def OpP(K:Q5)(r:R2)(f:U->U->Sto->Option (U×Sto)):Prop:=
 ∀m S H x y v w u S' Q,Sr K m S H->Is K m H v x->Is K m H w y->f x y S=some (u,S')->iL K m H Q u S'->r v w H Q
theorem vF{K:Q5}{r:R2}{f:U->U->Sto->Option (U×Sto)}(hp:OpP K r f):∀σ H Q,tE K (cOp f ca cb) σ H Q->tOp r (tE K ca) (tE K cb) σ H Q:=by
 rintro σ H Q ⟨m,ρ,S,u,S',sr,lr,hc,post⟩;obtain⟨⟨x,S1⟩,h1,h⟩:=Q0.mp hc;obtain⟨⟨y,S2⟩,h2,h3⟩:=Q0.mp h;exact⟨m,ρ,S,x,S1,sr,lr,h1,fun m1 v1 H1 e1 sr1 i1=>⟨m1,ρ,S1,y,S2,sr1,lr.mono e1,h2,fun m2 v2 H2 e2 sr2 i2=>hp m2 S2 H2 x y v1 v2 u S' Q sr2 (i1.mono e2) i2 h3 (post.mono (e1.trans e2))⟩⟩
theorem cD{op:Operator}{r:R2}{f:U->U->Sto->Option (U×Sto)}(ho:OpR X (binaryOp op) r)(hp:OpP X.K r f)(ha:QE X a ca)(hb:QE X b cb):QE X (.BinOp a op b pos) (cOp f ca cb):=(D9 ho ha hb).imp (vF hp)
theorem iA{op:CmpOp}{r:R2}{f:U->U->Sto->Option (U×Sto)}(ho:OpR X (compareOp op) r)(hp:OpP X.K r f)(ha:QE X a ca)(hb:QE X b cb)(hm:behindInMarks op b=false):QE X (.Compare a [op] [b] pos) (cOp f ca cb):=(qy ho ha hb hm).imp (vF hp)
def aK(c:CE):CT:=fun ρ S=>(c ρ S).bind fun p=>match p.1 with
 |.bl b=>some (b,p.2)
 |_=>none
theorem jF{K:Q5}{c:CE}{t:TE}(h:∀σ H Q,tE K c σ H Q->t σ H Q):∀σ H Q,tT K (aK c) σ H Q->t σ H fun x H'=>∃k,x=.bl k/\Q k H':=by
 rintro σ H Q ⟨m,ρ,S,u,S',sr,lr,hc,post⟩;obtain⟨⟨x,S1⟩,h1,h2⟩:=Q0.mp hc;refine h σ H _ ⟨m,ρ,S,x,S1,sr,lr,h1,fun m1 v1 H1 e1 sr1 i1=>?_⟩;cases x<;>simp at h2;obtain⟨rfl,rfl⟩:=h2;exact⟨_,i1.of_bl,post m1 H1 e1 sr1⟩
theorem bY{op:CmpOp}{r:R2}{f:U->U->Sto->Option (U×Sto)}(ho:OpR X (compareOp op) r)(hp:OpP X.K r f)(ha:QE X a ca)(hb:QE X b cb)(hm:behindInMarks op b=false):QT X (.Compare a [op] [b] pos) (aK (cOp f ca cb)):=(xZ ho ha hb hm).imp (jF (vF hp))
theorem bz(h:QE X e ca)(he:∀whole,isTrue e X.env whole=(do let v <-whole;standAt e.pos;holding [v] (truthy v)):=by intro _;rfl):QT X e (aK ca):=(Bi h he).imp (jF fun _ _ _ z=>z)
variable{ta tb:CT}{rest:List Qq}
def Ju(ta tb:CT):CT:=fun ρ S=>(ta ρ S).bind fun p=>if p.1=true then tb ρ p.2 else some (false,p.2)
def cOr(ta tb:CT):CT:=fun ρ S=>(ta ρ S).bind fun p=>if p.1=true then some (true,p.2)else tb ρ p.2
def gZ(ta:CT):CT:=fun ρ S=>(ta ρ S).bind fun p=>some (!p.1,p.2)
theorem mV(h:QW X e ta):QT X e ta:=WW.pt h
theorem EF(ha:QT X a ta):QW X (.BoolOp .And [a] pos) ta:=xY ha
theorem fu(ha:QT X a ta):QW X (.BoolOp .Or [a] pos) ta:=Bg ha
theorem Ik(ha:QT X a ta)(hb:QW X (.BoolOp .And (b::rest) pos) tb):QW X (.BoolOp .And (a::b::rest) pos) (Ju ta tb):=(Bh ha hb).imp fun σ H Q hz=>gN hz fun m ρ S u S' sr lr hc post=>by
 obtain⟨⟨x,S1⟩,h1,h2⟩:=Q0.mp hc;refine⟨m,ρ,S,x,S1,sr,lr,h1,fun m1 H1 e1 sr1=>?_⟩;cases x with
 |true=>exact CM ⟨m1,ρ,S1,u,S',sr1,lr.mono e1,h2,post.mono e1⟩
 |false=>cases h2;exact CN (post m1 H1 e1 sr1)
theorem jH(ha:QT X a ta)(hb:QW X (.BoolOp .Or (b::rest) pos) tb):QW X (.BoolOp .Or (a::b::rest) pos) (cOr ta tb):=(D5 ha hb).imp fun σ H Q hz=>gN hz fun m ρ S u S' sr lr hc post=>by
 obtain⟨⟨x,S1⟩,h1,h2⟩:=Q0.mp hc;refine⟨m,ρ,S,x,S1,sr,lr,h1,fun m1 H1 e1 sr1=>?_⟩;cases x with
 |true=>cases h2;exact CM (post m1 H1 e1 sr1)
 |false=>exact CN ⟨m1,ρ,S1,u,S',sr1,lr.mono e1,h2,post.mono e1⟩
theorem bq(ha:QT X a ta):QT X (.UnaryOp .Not a pos) (gZ ta):=(Bj ha).imp fun σ H Q hz=>gN hz fun m ρ S u S' sr lr hc post=>by
 obtain⟨⟨x,S1⟩,h1,h2⟩:=Q0.mp hc;cases h2;exact⟨m,ρ,S,x,_,sr,lr,h1,fun m1 H1 e1 sr1=>post m1 H1 e1 sr1⟩
def fS(ca cb:CE):CE:=fun ρ S=>(ca ρ S).bind fun p=>match p.1 with
 |.bl true=>cb ρ p.2
 |.bl false=>some (.bl false,p.2)
 |_=>none
def F9(ca cb:CE):CE:=fun ρ S=>(ca ρ S).bind fun p=>match p.1 with
 |.bl false=>cb ρ p.2
 |.bl true=>some (.bl true,p.2)
 |_=>none
def xo(ca:CE):CE:=fun ρ S=>(ca ρ S).bind fun p=>match p.1 with
 |.bl b=>some (.bl (!b),p.2)
 |_=>none
theorem iV{op}(h:QE X a ca):QE X (.BoolOp op [a] pos) ca:=Bt h
theorem eR(ha:QE X a ca)(hb:QE X (.BoolOp .And (b::rest) pos) cb):QE X (.BoolOp .And (a::b::rest) pos) (fS ca cb):=(Bx ha hb).imp fun σ H Q hz=>gN hz fun m ρ S u S' sr lr hc post=>by
 obtain⟨⟨x,S1⟩,h1,h2⟩:=Q0.mp hc;refine⟨m,ρ,S,x,S1,sr,lr,h1,fun m1 v1 H1 e1 sr1 i1=>?_⟩;cases x with
 |bl k=>
  refine⟨k,i1.of_bl,?_⟩;cases k with
  |true=>exact CM ⟨m1,ρ,S1,u,S',sr1,lr.mono e1,h2,post.mono e1⟩
  |false=>cases h2;exact CN (post m1 _ H1 e1 sr1 .bl_)
 |_=>simp at h2
theorem EE(ha:QE X a ca)(hb:QE X (.BoolOp .Or (b::rest) pos) cb):QE X (.BoolOp .Or (a::b::rest) pos) (F9 ca cb):=(D8 ha hb).imp fun σ H Q hz=>gN hz fun m ρ S u S' sr lr hc post=>by
 obtain⟨⟨x,S1⟩,h1,h2⟩:=Q0.mp hc;refine⟨m,ρ,S,x,S1,sr,lr,h1,fun m1 v1 H1 e1 sr1 i1=>?_⟩;cases x with
 |bl k=>
  refine⟨k,i1.of_bl,?_⟩;cases k with
  |false=>exact CN ⟨m1,ρ,S1,u,S',sr1,lr.mono e1,h2,post.mono e1⟩
  |true=>cases h2;exact CM (post m1 _ H1 e1 sr1 .bl_)
 |_=>simp at h2
theorem Av(ha:QE X a ca):QE X (.UnaryOp .Not a pos) (xo ca):=(Bu ha).imp fun σ H Q hz=>gN hz fun m ρ S u S' sr lr hc post=>by
 obtain⟨⟨x,S1⟩,h1,h2⟩:=Q0.mp hc;refine⟨m,ρ,S,x,S1,sr,lr,h1,fun m1 v1 H1 e1 sr1 i1=>?_⟩;cases x with
 |bl k=>cases h2;exact⟨k,i1.of_bl,post m1 _ H1 e1 sr1 .bl_⟩
 |_=>simp at h2
def cIf(t:CT)(ca cb:CE):CE:=fun ρ S=>(t ρ S).bind fun p=>if p.1=true then ca ρ p.2 else cb ρ p.2
def gw(f f':U->U->Sto->Option (U×Sto))(ca cb cc:CE):CE:=fun ρ S=>(ca ρ S).bind fun p=>(cb ρ p.2).bind fun q=>(f p.1 q.1 q.2).bind fun r=>match r.1 with
 |.bl true=>(cc ρ r.2).bind fun z=>f' q.1 z.1 z.2
 |.bl false=>some (.bl false,r.2)
 |_=>none
theorem oQ{K:Q5}{r r':R2}{f f':U->U->Sto->Option (U×Sto)}(hp:OpP K r f)(hp':OpP K r' f'):∀σ H Q,tE K (gw f f' ca cb cc) σ H Q->nR r r' (tE K ca) (tE K cb) (tE K cc) σ H Q:=by
 rintro σ H Q ⟨m,ρ,S,u,S',sr,lr,hc,post⟩;obtain⟨⟨x,S1⟩,h1,h⟩:=Q0.mp hc;obtain⟨⟨y,S2⟩,h2,h⟩:=Q0.mp h;obtain⟨⟨z,S3⟩,h3,h4⟩:=Q0.mp h;refine⟨m,ρ,S,x,S1,sr,lr,h1,fun m1 v1 H1 e1 sr1 i1=>⟨m1,ρ,S1,y,S2,sr1,lr.mono e1,h2,fun m2 v2 H2 e2 sr2 i2=>hp m2 S2 H2 x y v1 v2 z S3 _ sr2 (i1.mono e2) i2 h3 fun m3 v3 H3 e3 sr3 i3=>?_⟩⟩;have e03:=(e1.trans e2).trans e3;cases z with
 |bl k=>
  refine⟨k,i3.of_bl,?_⟩;cases k with
  |true=>
   obtain⟨⟨w,S4⟩,h5,h6⟩:=Q0.mp h4;exact CM ⟨m3,ρ,S3,w,S4,sr3,lr.mono e03,h5,fun m4 v4 H4 e4 sr4 i4=>hp' m4 S4 H4 y w v2 v4 u S' Q sr4 (i2.mono (e3.trans e4)) i4 h6 (post.mono (e03.trans e4))⟩
  |false=>cases h4;exact CN (post m3 _ H3 e03 sr3 .bl_)
 |_=>simp at h4
theorem B1{op op':CmpOp}{r r':R2}{f f':U->U->Sto->Option (U×Sto)}(ho:OpR X (compareOp op) r)(hp:OpP X.K r f)(ho':OpR X (compareOp op') r')(hp':OpP X.K r' f')(ha:QE X a ca)(hb:QE X b cb)(hc:QE X c cc)
  (hm:lastMarks [op,op'] [b,c]=false:=by with_unfolding_all rfl):QE X (.Compare a [op,op'] [b,c] pos) (gw f f' ca cb cc):=(uw ho ho' ha hb hc hm).imp (oQ hp hp')
theorem qS{op op':CmpOp}{r r':R2}{f f':U->U->Sto->Option (U×Sto)}(ho:OpR X (compareOp op) r)(hp:OpP X.K r f)(ho':OpR X (compareOp op') r')(hp':OpP X.K r' f')(ha:QE X a ca)(hb:QE X b cb)(hc:QE X c cc)
  (hm:lastMarks [op,op'] [b,c]=false:=by with_unfolding_all rfl):QT X (.Compare a [op,op'] [b,c] pos) (aK (gw f f' ca cb cc)):=(uj ho ho' ha hb hc hm).imp (jF (oQ hp hp'))
variable{es:List Qq}{cr:CA}
def aB:CA:=fun _ S=>some ([],S)
def ag(ca:CE)(cr:CA):CA:=fun ρ S=>(ca ρ S).bind fun p=>(cr ρ p.2).bind fun q=>some (p.1::q.1,q.2)
theorem av:QA X [] aB:=⟨dQ.imp fun σ H Q hz=>gN hz fun m ρ S u S' sr lr hc post=>by cases hc;exact post m [] H .refl sr .nil_,fun ρ S us S' h=>by cases h;rfl⟩
theorem ae(ha:QE X e ca)(hr:QA X es cr)(hs:QR (e::es) X.env=(false,eval e X.env)::QR es X.env:=by rfl):QA X (e::es) (ag ca cr):=⟨(bS ha hr.h hs).imp fun σ H Q hz=>gN hz fun m ρ S u S' sr lr hc post=>by
 obtain⟨⟨x,S1⟩,h1,h⟩:=Q0.mp hc;obtain⟨⟨y,S2⟩,h2,h3⟩:=Q0.mp h;cases h3;exact⟨m,ρ,S,x,S1,sr,lr,h1,fun m1 v1 H1 e1 sr1 i1=>⟨m1,ρ,S1,y,S2,sr1,lr.mono e1,h2,fun m2 v2 H2 e2 sr2 i2=>post m2 _ H2 (e1.trans e2) sr2 (.cons_ (i1.mono e2) i2)⟩⟩,
 fun ρ S us S' h=>by
 obtain⟨⟨x,S1⟩,h1,h⟩:=Q0.mp h;obtain⟨⟨y,S2⟩,h2,h3⟩:=Q0.mp h;cases h3;simp[hr.len ρ S1 y S2 h2]⟩
def bw(cr:CA):CE:=fun ρ S=>(cr ρ S).bind fun p=>some (.tup p.1,p.2)
def iM(cr:CA):CE:=fun ρ S=>(cr ρ S).bind fun p=>some (.ref p.2.length,p.2++[.lst p.1])
theorem dF{m:List Addr}{S:Sto}{q:Addr}(h:m.length=S.length):(m++[q])[S.length]?=some q:=by rw[Qw (by omega)];simp[h]
theorem iB{K:Q5}{m:List Addr}{H:Hp}{S:Sto}{us:List U}{xs:List V}{Q:VK}{p:Addr}(sr:Sr K m S H)(i:IsL K m H xs us)(post:iL K m H Q (.tup us) S)(hp:H p=none):Q (.ref p) (upd H p (.tup xs)):=
 post m _ _ (.of (bC hp _)) (sr.same (dE hp _)) (.tup_ (SqT.of aP) (i.mono (.of (bC hp _))))
theorem b8{K:Q5}{m:List Addr}{H:Hp}{S:Sto}{us:List U}{xs:List V}{Q:VK}{p:Addr}(sr:Sr K m S H)(i:IsL K m H xs us)(post:iL K m H Q (.ref S.length) (S++[.lst us]))(hp:H p=none):Q (.ref p) (upd H p (.lst xs)):=
 post (m++[p]) _ _ (.new (bC hp _)) (sr.new hp ⟨xs,aP,i.mono (.new (bC hp _))⟩) (.ref_ (dF sr.len))
theorem aX{x1}(h:QA X es cr)(hl:es.length<=1000:=by exact Nat.le_of_ble_eq_true rfl):QE X (.Tuple es x1 pos) (bw cr):=(ur h.h).imp fun σ H Q hz=>gN hz fun m ρ S u S' sr lr hc post=>by
 obtain⟨⟨us,S1⟩,h1,h2⟩:=Q0.mp hc;cases h2;refine⟨m,ρ,S,us,_,sr,lr,h1,fun m1 v1 H1 e1 sr1 i1=>⟨nW ?_,fun p hp=>iB sr1 i1 (post.mono e1) hp⟩⟩;rw[i1.length,h.len _ _ _ _ h1];exact hl
theorem ff(h:QA X es cr)(hl:es.length<=1000:=by exact Nat.le_of_ble_eq_true rfl):QE X (.List es pos) (iM cr):=(Bv h.h).imp fun σ H Q hz=>gN hz fun m ρ S u S' sr lr hc post=>by
 obtain⟨⟨us,S1⟩,h1,h2⟩:=Q0.mp hc;cases h2;refine⟨m,ρ,S,us,_,sr,lr,h1,fun m1 v1 H1 e1 sr1 i1=>⟨nW ?_,fun p hp=>b8 sr1 i1 (post.mono e1) hp⟩⟩;rw[i1.length,h.len _ _ _ _ h1];exact hl
def cCB(f:List U->Sto->Option (U×Sto))(cr:CA):CE:=fun ρ S=>(cr ρ S).bind fun p=>f p.1 p.2
def lF(K:Q5)(r:List V->Hp->VK->Prop)(f:List U->Sto->Option (U×Sto)):Prop:=
 ∀m S H us vs u S' Q,Sr K m S H->IsL K m H vs us->f us S=some (u,S')->iL K m H Q u S'->r vs H Q
theorem AR{K:Q5}{r:List V->Hp->VK->Prop}{f:List U->Sto->Option (U×Sto)}(hp:lF K r f):∀σ H Q,tE K (cCB f cr) σ H Q->tCB r (tA K cr) σ H Q:=by
 rintro σ H Q ⟨m,ρ,S,u,S',sr,lr,hc,post⟩;obtain⟨⟨us,S1⟩,h1,h2⟩:=Q0.mp hc;exact⟨m,ρ,S,us,S1,sr,lr,h1,fun m1 v1 H1 e1 sr1 i1=>hp m1 S1 H1 us v1 u S' Q sr1 i1 h2 (post.mono e1)⟩
theorem aM{id:String}{x:Str}{p:Pos}{r:List V->Hp->VK->Prop}{f:List U->Sto->Option (U×Sto)}(hc:cS X (.builtin id) r)(hp:lF X.K r f)(hg:Gl X x)(hm:X.mg x=none)(hv:Z7 x=some (.builtin id))(ha:QA X (e::es) cr)(hn:x≠"__name__":=by decide)(hdb:(x == ("__debug__":Str))=false:=by decide)(he:QR (e::es) X.env=(false,eval e X.env)::QR es X.env:=by rfl)(hpl:(ZD pos (QR es X.env)).any (·.1)=false:=by rfl) :
  QE X (.Call (.Name x p) (e::es) [] pos) (cCB f cr):=(fA hc hg hm hv ha.h hn hdb he hpl).imp (AR hp)
theorem b6{id:String}{x:Str}{p:Pos}{r:List V->Hp->VK->Prop}{f:List U->Sto->Option (U×Sto)}(hc:cS X (.type id) r)(hp:lF X.K r f)(hg:Gl X x)(hm:X.mg x=none)(hv:Z7 x=some (.type id))(ha:QA X (e::es) cr)(hn:x≠"__name__":=by decide)(hdb:(x == ("__debug__":Str))=false:=by decide)(he:QR (e::es) X.env=(false,eval e X.env)::QR es X.env:=by rfl)(hpl:(ZD pos (QR es X.env)).any (·.1)=false:=by rfl) :
  QE X (.Call (.Name x p) (e::es) [] pos) (cCB f cr):=(fW hc hg hm hv ha.h hn hdb he hpl).imp (AR hp)
end
def Gu(K:Q5)(f:List U->Sto->Option (U×Sto)):Sp:=fun vs H Q _=>∃m us S u S',IsL K m H vs us/\Sr K m S H/\f us S=some (u,S')/\iL K m H Q u S'
abbrev Fn:=List U->Sto->Option (U×Sto)
abbrev dD(P:Qu)(w:Qm)(K:Q5)(mg:Str->Option Q6)(base:Heap)(x:Str)(k:Nat)(ps:List Str)(f:Fn):Prop:=Has P w K mg base x k ps (Gu K f)
def nS(n:Nat)(us:List U):Rho:=us.map some++Qr (n-us.length) none
def fnU(n k:Nat)(c:CS):Fn:=fun us S=>if us.length=k then(c (nS n us) S).bind fun r=>match r.1 with
 |.rt u=>some (u,r.2.2)
 |.nx=>some (.non,r.2.2)
 |_=>none else none
section
variable{P:Qu}{w:Qm}{K:Q5}{mg:Str->Option Q6}{base:Heap}{x:Str}{st:ZR}{ps N:List Str}{k:Nat}{c:CS}{f:Fn}
theorem zh{m:List Addr}{H:Hp}{vs:List V}{us:List U}(i:IsL K m H vs us):Lr K m H (nS N.length us) (L2.g9 N vs):=by
 have hl:=i.length;refine⟨by simp[nS,L2.g9,hl],fun j u e=>?_⟩;unfold nS at e;unfold L2.g9;by_cases c:j<us.length
 ·rw[Qv (by simpa using c),Qn]at e;rw[Qv (by simpa [hl] using c),Qn];rw[Q7 c]at e;simp at e;obtain⟨v,e1,e2⟩:=i.getD (Q7 c);rw[e1];subst e;exact⟨v,rfl,e2⟩
 ·rw[Qw (by simpa using c),Zn]at e;split at e<;>cases e
theorem CV{X:Cx}{body:List ZR}{Q:VK}{E:XK}{vs:List V}{H:Hp}(hK:X.K=K)(h:Gu K (fnU N.length ps.length c) vs H Q E):tS X.K c { nx:=fun _ H'=>Q .non H',rt:=Q } (L2.g9 N vs) H:=by
 subst hK;obtain⟨m,us,S,u,S',i,sr,hf,post⟩:=h;unfold fnU at hf;split at hf
 ·obtain⟨⟨o,ρ',S2⟩,h1,h2⟩:=Q0.mp hf;refine⟨m,_,S,o,ρ',S2,sr,zh i,h1,?_⟩;cases o with
  |rt v=>cases h2;exact post
  |nx=>cases h2;exact fun m1 σ1 H1 e1 sr1 _=>post m1 _ H1 e1 sr1 .non_
  |bk=>simp at h2
  |ct=>simp at h2
 ·cases hf
theorem yv{vs:List V}{H:Hp}{Q:VK}{E:XK}{n k:Nat}(h:Gu K (fnU n k c) vs H Q E):vs.length=k:=by
 obtain⟨m,us,S,u,S',i,sr,hf,post⟩:=h;unfold fnU at hf;split at hf
 ·rename_i e;rw[i.length,e]
 ·cases hf
theorem _root_.OG.Def.pure(d:Def K mg x st ps)(S:a5 N ps (aE st))
  (hb:∀(f:Addr) (cdv:Q6) (A:Z9) (outer:List Env) (s:QQ) (H:Hp) (E:XK),lA k (A.deeper (envOfC x (aE st) s.heap.objs.size f cdv))->
   WSs (xN CX0 P w K mg base N x (aE st) f cdv A outer s H E).nox (dX st) (tS K c)):dD P w K mg base x (k+1) ps (fnU N.length ps.length c):=
 d.has S (fun vs H Q E h=>yv h) fun f cdv A outer s H vs Q E hr h=>⟨_,hb f cdv A outer s H E hr,CV (X:=(xN CX0 P w K mg base N x (aE st) f cdv A outer s H E).nox) (body:=[]) (ps:=ps) rfl h⟩
theorem aH{X:Cx}{e:Qq}{es:List Qq}{cr:CA}{p pos:Pos}(F:Has X.prog X.w X.K X.mg X.base x k ps (Gu X.K f))(hr:lA k X.A)(hg:Gl X x)(ha:QA X (e::es) cr)
  (hdb:(x == ("__debug__":Str))=false:=by decide) (he:QR (e::es) X.env=(false,eval e X.env)::QR es X.env:=by rfl) (hpl:(ZD pos (QR es X.env)).any (·.1)=false:=by rfl) :
  QE X (.Call (.Name x p) (e::es) [] pos) (cCB f cr):=(Eb F hr hg ha.h hdb he hpl).imp fun σ H Q hz=>gN hz fun m ρ S u S' sr lr hc post=>by
 obtain⟨⟨us,S1⟩,h1,h2⟩:=Q0.mp hc;exact⟨m,ρ,S,us,S1,sr,lr,h1,fun m1 v1 H1 e1 sr1 i1=>⟨m1,us,S1,u,S',by simpa using i1,sr1,h2,post.mono e1⟩⟩
end
section
variable{X:Cx}{e a c:Qq}{ca cb:CE}{pos:Pos}{st:ZR}{sts:List ZR}{c1 c2:CS}
def dC:CS:=fun ρ S=>some (.nx,ρ,S)
def bu(c1 c2:CS):CS:=fun ρ S=>(c1 ρ S).bind fun r=>match r.1 with
 |.nx=>c2 r.2.1 r.2.2
 |o=>some (o,r.2.1,r.2.2)
theorem bW:QSs X [] dC:=x6.imp fun D σ H hz=>tw hz fun m ρ S o ρ' S' sr lr hc post=>by cases hc;exact post m σ H .refl sr lr
theorem ay(h1:QS X st c1)(h2:QSs X sts c2):QSs X (st::sts) (bu c1 c2):=(uk h1 h2).imp fun D σ H hz=>tw hz fun m ρ S o ρ' S' sr lr hc post=>by
 obtain⟨⟨o1,ρ1,S1⟩,h1,h2⟩:=Q0.mp hc;refine⟨m,ρ,S,o1,ρ1,S1,sr,lr,h1,?_⟩;cases o1 with
 |nx=>exact fun m1 σ1 H1 e1 sr1 lr1=>⟨m1,ρ1,S1,o,ρ',S',sr1,lr1,h2,post.mono e1⟩
 |rt u=>cases h2;exact post
 |bk=>cases h2;exact post
 |ct=>cases h2;exact post
theorem aI(h1:QS X st c1):QSs X [st] c1:=x5 h1
def zQ(ca:CE):CS:=fun ρ S=>(ca ρ S).bind fun p=>some (.nx,ρ,p.2)
theorem vb(he:QE X e ca)(hs:Ze e none pos.line X.env=pure false:=by rfl):QS X (.Expr e pos) (zQ ca):=(x8 he hs).imp fun D σ H hz=>tw hz fun m ρ S o ρ' S' sr lr hc post=>by
 obtain⟨⟨u,S1⟩,h1,h2⟩:=Q0.mp hc;cases h2;exact⟨m,ρ,S,u,_,sr,lr,h1,fun m1 v1 H1 e1 sr1 i1=>post m1 σ H1 e1 sr1 (lr.mono e1)⟩
def eA(ca:CE):CS:=fun ρ S=>(ca ρ S).bind fun p=>some (.rt p.1,ρ,p.2)
theorem aS(he:QE X e ca):QS X (.Return (some e) pos) (eA ca):=(Bm he).imp fun D σ H hz=>tw hz fun m ρ S o ρ' S' sr lr hc post=>by
 obtain⟨⟨u,S1⟩,h1,h2⟩:=Q0.mp hc;cases h2;exact⟨m,ρ,S,u,_,sr,lr,h1,post⟩
def jD(t:CT)(c1 c2:CS):CS:=fun ρ S=>(t ρ S).bind fun p=>if p.1=true then c1 ρ p.2 else c2 ρ p.2
theorem ej{t:CT}{s1 s2:List ZR}(hc:QT X c t)(h1:QSs X s1 c1)(h2:QSs X s2 c2):QS X (.If c s1 s2 pos) (jD t c1 c2):=(D6 hc h1 h2).imp fun D σ H hz=>tw hz fun m ρ S o ρ' S' sr lr hc post=>by
 obtain⟨⟨x,S1⟩,h1,h2⟩:=Q0.mp hc;refine⟨m,ρ,S,x,S1,sr,lr,h1,fun m1 H1 e1 sr1=>?_⟩;cases x with
 |true=>exact CM ⟨m1,ρ,S1,o,ρ',S',sr1,lr.mono e1,h2,post.mono e1⟩
 |false=>exact CN ⟨m1,ρ,S1,o,ρ',S',sr1,lr.mono e1,h2,post.mono e1⟩
abbrev CG:=U->Rho->Sto->Option (Rho×Sto)
def tG(K:Q5)(g:CG):TG:=fun v σ H Q=>∃m ρ S u ρ' S',Sr K m S H/\Lr K m H ρ σ/\Is K m H v u/\g u ρ S=some (ρ',S')/\gh K m H Q ρ' S'
abbrev QG(X:Cx)(e:Qq)(g:CG):Prop:=WG X e (tG X.K g)
def gNm(i:Nat):CG:=fun u ρ S=>some (ρ.set i (some u),S)
theorem aY{i:Nat}(h:WG X e (sY i)):QG X e (gNm i):=h.imp fun v σ H Q hz=>J8 hz fun m ρ S u ρ' S' sr lr iu hc post=>by
 cases hc;exact post m _ H .refl sr (lr.set i iu)
def eP:List Nat->List U->Rho->Option Rho
 |[],[],ρ=>some ρ
 |i::is,u::us,ρ=>eP is us (ρ.set i (some u))
 |_,_,_=>none
def tGs(K:Q5)(is:List Nat):TGs:=fun vs σ H Q=>∃m ρ S us ρ',Sr K m S H/\Lr K m H ρ σ/\IsL K m H vs us/\eP is us ρ=some ρ'/\gh K m H Q ρ' S
abbrev QGs(X:Cx)(es:List Qq)(is:List Nat):Prop:=WGs X es (tGs X.K is)
theorem pI:QGs X [] []:=yd.imp fun v σ H Q ⟨m,ρ,S,us,ρ',sr,lr,iu,hc,post⟩=>by
 cases us with
 |nil=>cases hc;exact⟨iu.of_nil,post m σ H .refl sr lr⟩
 |cons a r=>simp[eP]at hc
theorem c7{i:Nat}{is:List Nat}{es:List Qq}(h:WG X e (sY i))(h2:QGs X es is)(hs:(assignEach (e::es) X.env).map (·.2)=assign e X.env::(assignEach es X.env).map (·.2):=by rfl):QGs X (e::es) (i::is):=(uq h h2 hs).imp fun v σ H Q ⟨m,ρ,S,us,ρ',sr,lr,iu,hc,post⟩=>by
 cases us with
 |nil=>simp[eP]at hc
 |cons u r=>
  obtain⟨x,xr,rfl,i1,i2⟩:=iu.of_cons;exact⟨x,xr,rfl,m,ρ.set i (some u),S,r,ρ',sr,lr.set i i1,i2,hc,post⟩
def gTp(is:List Nat):CG:=fun u ρ S=>match u with
 |.tup us=>(eP is us ρ).bind fun ρ'=>some (ρ',S)
 |_=>none
theorem lW:∀{is:List Nat} {us:List U} {ρ ρ':Rho},eP is us ρ=some ρ'->us.length=is.length
 |[],[],_,_,_=>rfl
 |[],_::_,_,_,h=>by simp[eP]at h
 |_::_,[],_,_,h=>by simp[eP]at h
 |i::is,u::us,ρ,ρ',h=>by
  have:=lW (is:=is) (us:=us) h;simp[this]
theorem vc{is:List Nat}{es:List Qq}{k:Nat}(hc:X.calm=true)(h:QGs X es is)(hn:(assignEach es X.env).length=is.length:=by rfl)(hst:(assignEach es X.env).findIdx? (·.1)=none:=by rfl):QG X (.Tuple es k pos) (gTp is):=(Bp hc h hn hst).imp fun v σ H Q hz=>J8 hz fun m ρ S u ρ' S' sr lr iu hc post=>by
 cases u with
 |tup us=>
  obtain⟨ρ2,h1,h2⟩:=Q0.mp hc;cases h2;obtain⟨a,xs,rfl,sq,il⟩:=iu.of_tup;refine⟨a,xs,rfl,sq,?_,m,ρ,S,us,ρ',sr,lr,il,h1,post⟩;rw[il.length];exact lW h1
 |_=>simp[gTp]at hc
def Ge(ca:CE)(g:CG):CS:=fun ρ S=>(ca ρ S).bind fun p=>(g p.1 ρ p.2).bind fun q=>some (.nx,q.1,q.2)
theorem C9{K:Q5}{g:CG}:∀D σ H,tS K (Ge ca g) D σ H->Ep (tE K ca) (tG K g) D σ H:=by
 rintro D σ H ⟨m,ρ,S,o,ρ',S',sr,lr,hc,post⟩;obtain⟨⟨u,S1⟩,h1,h2⟩:=Q0.mp hc;obtain⟨⟨ρ2,S2⟩,h3,h4⟩:=Q0.mp h2;cases h4;exact⟨m,ρ,S,u,S1,sr,lr,h1,fun m1 v1 H1 e1 sr1 i1=>⟨m1,ρ,S1,u,_,_,sr1,lr.mono e1,i1,h3,gh.mono e1 post⟩⟩
theorem As{tg:Qq}{g:CG}(he:QE X e ca)(hg:QG X tg g)(hs:swapsWithSole [tg] e pos.line X.env=pure false:=by rfl)(hw:swappedStores [tg] e X.env=pure none:=by rfl)
  (h1:(assignEach [tg] X.env).map (·.2)=[assign tg X.env]:=by rfl):QS X (.Assign [tg] e pos) (Ge ca g):=(uo he hg hs hw h1).imp C9
def da(i:Nat)(ca:CE):CS:=fun ρ S=>(ca ρ S).bind fun p=>some (.nx,ρ.set i (some p.1),p.2)
theorem aR{i:Nat}{x:Str}{pos':Pos}(hN:X.N.Nodup)(hi:X.N[i]?=some x)(hx:Loc X.env.scope x)(he:QE X e ca)(hs:Ze e (some (.Name x pos')) pos.line X.env=pure false:=by rfl)(hf:X.fn x=true\/X.env.scope.names.lookup x=some .local:=by first|exact .inl rfl|exact .inr rfl|assumption) :
  QS X (.Assign [.Name x pos'] e pos) (da i ca):=(Bl hN hi hx he hs hf).imp fun D σ H hz=>tw hz fun m ρ S o ρ' S' sr lr hc post=>by
 obtain⟨⟨u,S1⟩,h1,h2⟩:=Q0.mp hc;cases h2;exact⟨m,ρ,S,u,_,sr,lr,h1,fun m1 v1 H1 e1 sr1 i1=>post m1 _ H1 e1 sr1 ((lr.mono e1).set i i1)⟩
abbrev CI:=Rho->Sto->Option (List U×(Sto->Prop)×Sto)
def z9(K:Q5)(J:It)(m:List Addr)(H:Hp)(us:List U)(ok:Sto->Prop):Prop:=∀m2 S2 H2 i,Ext K m H m2 H2->Sr K m2 S2 H2->ok S2->
 (∀u,us[i]?=some u->J.go i H2/\∀x H3,J.yld i H2 x H3->Ext K m2 H2 m2 H3/\Sr K m2 S2 H3/\Is K m2 H3 x u)/\(us.length<=i->J.stop i H2)
def tI(K:Q5)(ci:CI):TI:=fun σ H R=>∃m ρ S us ok S',Sr K m S H/\Lr K m H ρ σ/\ci ρ S=some (us,ok,S')/\∀m' H' J,Ext K m H m' H'->Sr K m' S' H'->z9 K J m' H' us ok->R J H'
abbrev QI(X:Cx)(tg iter:Qq)(ci:CI):Prop:=WI X tg iter (tI X.K ci)
open Classical in
def dA(ok:Sto->Prop)(g:CG)(cb:CS):List U->CS
 |[]=>fun ρ S=>if ok S then some (.nx,ρ,S)else none
 |u::us=>fun ρ S=>if ok S then(g u ρ S).bind fun p=>(cb p.1 p.2).bind fun r=>match r.1 with
  |.nx=>dA ok g cb us r.2.1 r.2.2
  |.ct=>dA ok g cb us r.2.1 r.2.2
  |.bk=>some (.nx,r.2.1,r.2.2)
  |.rt v=>some (.rt v,r.2.1,r.2.2)else none
def lR(ci:CI)(g:CG)(cb:CS):CS:=fun ρ S=>(ci ρ S).bind fun p=>dA p.2.1 g cb p.1 ρ p.2.2
theorem kW{α:Type}{us:List α}{i:Nat}{u:α}(h:us[i]?=some u):us.drop i=u::us.drop (i+1):=by
 obtain⟨hl,e⟩:=Q9.mp h;rw[List.drop_eq_getElem_cons hl,e]
theorem zi{K:Q5}{g:CG}{cb:CS}{J:It}{us:List U}{ok:Sto->Prop}{D:AW}{m1:List Addr}{H1:Hp}{ρ ρ':Rho}{σ:L2.St}{S1 S':Sto}{o:Out}(sr1:Sr K m1 S1 H1)(lr1:Lr K m1 H1 ρ σ)(ito:z9 K J m1 H1 us ok)(h2:dA ok g cb us ρ S1=some (o,ρ',S'))(post:tM K m1 H1 D o ρ' S') :
  ∃W:Nat->Nat->L2.St->Hp->Prop,(∃n,W 0 n σ H1)/\∀i n σ H,W i n σ H->
   (J.stop i H/\D.nx σ H)\/(J.go i H/\∃N:L2.St->Hp->Prop,(∀σ' H',N σ' H'->∃n',n'<n/\W (i+1) n' σ' H')/\∀x H',J.yld i H x H'->tG K g x σ H' fun σ2 H2=>tS K cb { D with nx:=N,ct:=N,bk:=D.nx } σ2 H2):=by
 let W:Nat->Nat->L2.St->Hp->Prop:=fun i n σ2 H2=>n=us.length-i/\i<=us.length/\∃m2 ρ2 S2,Ext K m1 H1 m2 H2/\Sr K m2 S2 H2/\Lr K m2 H2 ρ2 σ2/\dA ok g cb (us.drop i) ρ2 S2=some (o,ρ',S')
 refine⟨W,⟨us.length,by simp,ZN _,m1,ρ,S1,.refl,sr1,lr1,by simpa using h2⟩,?_⟩;rintro i n σ2 H2 ⟨rfl,hi,m2,ρ2,S2,e2,sr2,lr2,hl⟩;by_cases hlt:i<us.length
 ·have hu:=Q7 hlt;rw[kW hu]at hl;unfold dA at hl;split at hl
  ·rename_i hok;obtain⟨⟨ρ3,S3⟩,h3,hl⟩:=Q0.mp hl;obtain⟨⟨o4,ρ4,S4⟩,h4,hl⟩:=Q0.mp hl;obtain⟨hgo,hy⟩:=(ito m2 S2 H2 i e2 sr2 hok).1 _ hu;refine .inr ⟨hgo,W (i+1) (us.length-(i+1)),fun σ' H' w'=>⟨_,by omega,w'⟩,fun x H3 y=>?_⟩;obtain⟨e3,sr3,ix⟩:=hy x H3 y;refine⟨m2,ρ2,S2,_,ρ3,S3,sr3,lr2.mono e3,ix,h3,fun m4 σ4 H4 e4 sr4 lr4=>⟨m4,ρ3,S3,o4,ρ4,S4,sr4,lr4,h4,?_⟩⟩;have e14:=(e2.trans e3).trans e4;have nxt:dA ok g cb (us.drop (i+1)) ρ4 S4=some (o,ρ',S')->gh K m4 H4 (W (i+1) (us.length-(i+1))) ρ4 S4:=fun hn m5 σ5 H5 e5 sr5 lr5=>⟨rfl,hlt,m5,ρ4,S4,e14.trans e5,sr5,lr5,hn⟩;cases o4 with
   |nx=>exact nxt hl
   |ct=>exact nxt hl
   |bk=>cases hl;exact gh.mono e14 post
   |rt v=>cases hl;exact iL.mono e14 post
  ·cases hl
 ·have e:i=us.length:=by omega
  subst e;rw[List.drop_length]at hl;unfold dA at hl;split at hl
  ·rename_i hok;cases hl;exact .inl ⟨(ito m2 _ H2 _ e2 sr2 hok).2 (QJ _),post m2 σ2 H2 e2 sr2 lr2⟩
  ·cases hl
theorem CU{K:Q5}{ci:CI}{g:CG}{cb:CS}:∀D σ H,tS K (lR ci g cb) D σ H->HQ (tI K ci) (tG K g) (tS K cb) D σ H:=by
 rintro D σ H ⟨m,ρ,S,o,ρ',S',sr,lr,hc,post⟩;obtain⟨⟨us,ok,S1⟩,h1,h2⟩:=Q0.mp hc;exact⟨m,ρ,S,us,ok,S1,sr,lr,h1,fun m1 H1 J e1 sr1 ito=>zi sr1 (lr.mono e1) ito h2 (tM.mono e1 post)⟩
theorem jx{tg iter:Qq}{body:List ZR}{ci:CI}{g:CG}{cb:CS}(hp:PassesOwn (Qx X.prog X.w) X.A X.env X.xe)(hc:X.calm=true)(hi:QI X tg iter ci)(hg:QG X tg g)(hb:QSs X body cb)(hs:∀x,foldedSetIterable iter X.env x=pure x:=by intro _;rfl):QS X (.For tg iter body [] pos) (lR ci g cb):=(Bn hp hc hi hg hb hs).imp CU
def eB(t:CT)(cb:CS):Nat->CS
 |0=>fun _ _=>none
 |n+1=>fun ρ S=>(t ρ S).bind fun p=>if p.1=true then(cb ρ p.2).bind fun r=>match r.1 with
  |.nx=>eB t cb n r.2.1 r.2.2
  |.ct=>eB t cb n r.2.1 r.2.2
  |.bk=>some (.nx,r.2.1,r.2.2)
  |.rt v=>some (.rt v,r.2.1,r.2.2)else some (.nx,ρ,p.2)
theorem uA{K:Q5}{t:CT}{cb:CS}{n:Nat}:∀D σ H,tS K (eB t cb n) D σ H->uI (tT K t) (tS K cb) D σ H:=by
 rintro D σ H ⟨m,ρ,S,o,ρ',S',sr,lr,hc,post⟩;let W:Nat->L2.St->Hp->Prop:=fun n σ2 H2=>∃m2 ρ2 S2,Ext K m H m2 H2/\Sr K m2 S2 H2/\Lr K m2 H2 ρ2 σ2/\eB t cb n ρ2 S2=some (o,ρ',S')
 refine⟨W,⟨n,m,ρ,S,.refl,sr,lr,hc⟩,?_⟩;rintro k σ2 H2 ⟨m2,ρ2,S2,e2,sr2,lr2,hl⟩;cases k with
 |zero=>cases hl
 |succ k=>
  unfold eB at hl;obtain⟨⟨x,S3⟩,h3,hl⟩:=Q0.mp hl;refine⟨m2,ρ2,S2,x,S3,sr2,lr2,h3,fun m3 H3 e3 sr3=>?_⟩;have e13:=e2.trans e3;cases x with
  |true=>
   rw[if_pos rfl]at hl;refine CM ?_;obtain⟨⟨o4,ρ4,S4⟩,h4,hl⟩:=Q0.mp hl;refine⟨W k,fun σ' H' w'=>⟨k,Nat.lt_succ_self _,w'⟩,m3,ρ2,S3,o4,ρ4,S4,sr3,lr2.mono e3,h4,?_⟩;have nxt:eB t cb k ρ4 S4=some (o,ρ',S')->gh K m3 H3 (W k) ρ4 S4:=fun hn m5 σ5 H5 e5 sr5 lr5=>⟨m5,ρ4,S4,e13.trans e5,sr5,lr5,hn⟩;cases o4 with
   |nx=>exact nxt hl
   |ct=>exact nxt hl
   |bk=>cases hl;exact gh.mono e13 post
   |rt v=>cases hl;exact iL.mono e13 post
  |false=>
   rw[if_neg QC]at hl;refine CN ?_;cases hl;exact post m3 σ2 H3 e13 sr3 (lr2.mono e3)
theorem yG{body:List ZR}{t:CT}{cb:CS}(n:Nat)(hp:PassesOwn (Qx X.prog X.w) X.A X.env X.xe)(hc:QT X c t)(hb:QSs X body cb):QS X (.While c body [] pos) (eB t cb n):=(um hp hc hb).imp uA
def iTp(ca:CE):CI:=fun ρ S=>(ca ρ S).bind fun p=>match p.1 with
 |.tup us=>some (us,fun _=>True,p.2)
 |.ref l=>match p.2[l]? with
  |some (.lst us)=>some (us,fun S=>S[l]?=some (.lst us),p.2)
  |_=>none
 |_=>none
theorem FP{K:Q5}{m:List Addr}{H:Hp}{us:List U}{a:Addr}{xs:List V}(sq:SqT K H a xs)(il:IsL K m H xs us):z9 K (Itt K a) m H us (fun _=>True):=by
 intro m2 S2 H2 i e2 sr2 _;have sq2:=e2.keep.t _ _ sq;have il2:=il.mono e2;refine⟨fun u hu=>?_,fun hi=>⟨xs,sq2,by rw[il2.length];exact hi⟩⟩;obtain⟨x,hx,ix⟩:=il2.getD hu;refine⟨⟨xs,x,sq2,hx⟩,fun y H3 hy=>?_⟩;obtain⟨rfl,hy⟩:=hy;have:=hy xs sq2;rw[hx]at this;cases this;exact⟨.refl,sr2,ix⟩
theorem FQ{K:Q5}{m:List Addr}{H:Hp}{us:List U}{a:Addr}{l:Nat}(hl:m[l]?=some a):z9 K (Itl K a) m H us (fun S=>S[l]?=some (.lst us)):=by
 intro m2 S2 H2 i e2 sr2 hok;obtain⟨a',ha',xs,hx,il⟩:=sr2.get hok;rw[e2.get hl]at ha';cases ha';refine⟨fun u hu=>?_,fun hi=>⟨xs,SqL.of hx,by rw[il.length];exact hi⟩⟩;obtain⟨x,hx',ix⟩:=il.getD hu;refine⟨⟨xs,x,SqL.of hx,hx'⟩,fun y H3 hy=>?_⟩;obtain⟨rfl,hy⟩:=hy;have:=hy xs (SqL.of hx);rw[hx']at this;cases this;exact⟨.refl,sr2,ix⟩
theorem cq{tg:Qq}(h:QE X e ca):QI X tg e (iTp ca):=((Bo h).or (yc h)).imp fun σ H R hz=>tw hz fun m ρ S us ok S' sr lr hc post=>by
 obtain⟨⟨u,S1⟩,h1,h2⟩:=Q0.mp hc;cases u with
 |tup ws=>
  cases h2;refine .inl ⟨m,ρ,S,.tup us,_,sr,lr,h1,fun m1 v1 H1 e1 sr1 i1=>?_⟩;obtain⟨a,xs,rfl,sq,il⟩:=i1.of_tup;exact⟨a,rfl,⟨xs,sq⟩,post m1 H1 _ e1 sr1 (FP sq il)⟩
 |ref l=>
  simp only at h2;split at h2
  ·rename_i us' hS;cases h2;refine .inr ⟨m,ρ,S,.ref l,_,sr,lr,h1,fun m1 v1 H1 e1 sr1 i1=>?_⟩;obtain⟨a,hl,rfl⟩:=i1.of_ref;obtain⟨a',ha',xs,hx,il⟩:=sr1.get hS;rw[hl]at ha';cases ha';exact⟨a,rfl,⟨xs,SqL.of hx⟩,post m1 H1 _ e1 sr1 (FQ hl)⟩
  ·cases h2
 |_=>simp at h2
def bx(lo:Int)(n:Nat):List U:=(Qe n).map fun i=>.int (lo+(i:Nat))
theorem zr{K:Q5}{m:List Addr}{H:Hp}{lo:Int}{n:Nat}:z9 K (Itr lo n) m H (bx lo n) (fun _=>True):=by
 intro m2 S2 H2 i e2 sr2 _;refine⟨fun u hu=>?_,fun hi=>by show n<=i;simpa [bx] using hi⟩;unfold bx at hu;rw[Qn]at hu;by_cases c:i<n
 ·rw[List.getElem?_range c]at hu;simp at hu;subst hu;refine⟨c,fun y H3 hy=>?_⟩;obtain⟨rfl,rfl⟩:=hy;exact⟨.refl,sr2,.int_⟩
 ·rw[Zs (by simpa using c)]at hu;cases hu
def cK(cr:CA):CI:=fun ρ S=>(cr ρ S).bind fun p=>match p.1 with
 |[.int j]=>if -(2^62)<=j/\j<2^62 then some (bx 0 j.toNat,fun _=>True,p.2)else none
 |_=>none
theorem eQ{tg:Qq}{cr:CA}{p:Pos}(hg:Gl X "range")(hm:X.mg "range"=none)(ha:QA X [a] cr)(hs:QR [a] X.env=[(false,eval a X.env)]:=by rfl):QI X tg (.Call (.Name "range" p) [a] [] pos) (cK cr):=(su hg hm ha.h hs).imp fun σ H R hz=>tw hz fun m ρ S us ok S' sr lr hc post=>by
 obtain⟨⟨ws,S1⟩,h1,h2⟩:=Q0.mp hc;simp only at h2;split at h2
 ·rename_i j;split at h2
  ·rename_i hj;cases h2;refine⟨m,ρ,S,_,S',sr,lr,h1,fun m1 v1 H1 e1 sr1 i1=>?_⟩;obtain⟨x,r,rfl,ix,ir⟩:=i1.of_cons;rw[ir.of_nil,ix.of_int];exact⟨j,rfl,hj.1,hj.2,post m1 H1 _ e1 sr1 zr⟩
  ·cases h2
 ·cases h2
end
def fI(g:Int->Int->Option U):U->U->Sto->Option (U×Sto)
 |.int i,.int j,S=>(g i j).bind fun u=>some (u,S)
 |_,_,_=>none
section
variable{X:Cx}{K:Q5}
theorem Gw{C:Int->Int->Prop}{gV:Int->Int->V}{g:Int->Int->Option U}(h:∀i j u,g i j=some u->C i j/\∀m H,Is K m H (gV i j) u):OpP K (rI C gV) (fI g):=by
 intro m S H x y v w u S' Q sr ix iy hf post;cases x<;>cases y<;>simp only[fI]at hf<;>try cases hf
 rename_i i j;obtain⟨u1,h1,h2⟩:=Q0.mp hf;cases h2;obtain⟨hc,hi⟩:=h i j u h1;exact⟨i,j,ix.of_int,iy.of_int,hc,post m _ H .refl sr (hi m H)⟩
theorem y0{gV:Int->Int->V}{g:Int->Int->Option U}(h:∀i j u,g i j=some u->∀m H,Is K m H (gV i j) u):OpP K (rI0 gV) (fI g):=by
 intro m S H x y v w u S' Q sr ix iy hf post;cases x<;>cases y<;>simp only[fI]at hf<;>try cases hf
 rename_i i j;obtain⟨u1,h1,h2⟩:=Q0.mp hf;cases h2;exact⟨i,j,ix.of_int,iy.of_int,post m _ H .refl sr (h i j u h1 m H)⟩
def yF(K:Q5):R2:=fun x y H Q=>∃a b xs ys,x=.ref a/\y=.ref b/\SqT K H a xs/\SqT K H b ys/\xs.length+ys.length<=QN/\∀q H',tQ H H'->SqT K H' q (xs++ys)->Q (.ref q) H'
theorem Cs:OpR X (binaryOp .Add) (yF X.K):=by
 intro pins s σ H x y v u Q I rx ry h;obtain⟨a,b,xs,ys,rfl,rfl,ha,hb,hz,q⟩:=h;by_cases e:xs=[]
 ·cases rx;cases ry;obtain⟨its,r1,p1,_⟩:=I.tuple ha;obtain⟨its2,r2,p2,_⟩:=I.tuple hb;refine zP p1 p2 (r1.nil_iff.mpr e) ⟨.ref b,H,I,rfl,q b H (.refl _) (by rw[e];exact hb)⟩
 ·refine Cr pins s σ H _ _ v u Q I rx ry ⟨a,b,xs,ys,rfl,rfl,ha,hb,e,hz,fun z=>q a H (.refl _) (by rw[z,Qd];exact ha),fun _ p hp=>q p _ (dE hp _) (SqT.of aP)⟩
def wH:U->U->Sto->Option (U×Sto)
 |.tup a,.tup b,S=>if a.length+b.length<=LIM then some (.tup (a++b),S)else none
 |_,_,_=>none
theorem yY:OpP K (yF K) wH:=by
 intro m S H x y v w u S' Q sr ix iy hf post;cases x<;>cases y<;>simp only[wH]at hf<;>try cases hf
 split at hf<;>try cases hf
 rename_i hl;obtain⟨a,xs,rfl,sa,la⟩:=ix.of_tup;obtain⟨b,ys,rfl,sb,lb⟩:=iy.of_tup;refine⟨a,b,xs,ys,rfl,rfl,sa,sb,lim (by rw[la.length,lb.length];exact hl),fun q H' s sq=>?_⟩;exact post m _ H' (.of (cH s)) (sr.same s) (.tup_ sq ((la.append lb).mono (.of (cH s))))
def kR:U->U->Sto->Option (U×Sto)
 |.ref l,.ref k,S=>match S[l]?,S[k]? with
  |some (.lst a),some (.lst b)=>if a.length+b.length<=LIM then some (.ref S.length,S++[.lst (a++b)])else none
  |_,_=>none
 |_,_,_=>none
theorem y8:OpP K Gv kR:=by
 intro m S H x y v w u S' Q sr ix iy hf post;cases x<;>cases y<;>simp only[kR]at hf<;>try cases hf
 rename_i l k;split at hf<;>try cases hf
 rename_i a b h1 h2;split at hf<;>try cases hf
 rename_i hl;obtain⟨p,hp,rfl⟩:=ix.of_ref;obtain⟨q,hq,rfl⟩:=iy.of_ref;obtain⟨p',hp',xs,hx,il⟩:=sr.get h1;obtain⟨q',hq',ys,hy,il'⟩:=sr.get h2;rw[hp]at hp';cases hp';rw[hq]at hq';cases hq';exact⟨p,q,xs,ys,rfl,rfl,hx,hy,lim (by rw[il.length,il'.length];exact hl),fun r hr=>b8 sr (il.append il') post hr⟩
def wJ:U->U->Sto->Option (U×Sto)
 |.str a,.str b,S=>if a.length+b.length<=LIM then some (.str (a++b),S)else none
 |_,_,_=>none
theorem yZ:OpP K (fun x y H Q=>∃i j,x=.str i/\y=.str j/\i.length+j.length<=QN/\Q (.str (i++j)) H) wJ:=by
 intro m S H x y v w u S' Q sr ix iy hf post;cases x<;>cases y<;>simp only[wJ]at hf<;>try cases hf
 split at hf<;>try cases hf
 rename_i hl;exact⟨_,_,ix.of_str,iy.of_str,lim hl,post m _ H .refl sr .str_⟩
def cT:U->U->Sto->Option (U×Sto)
 |.int i,.int j,S=>some (.int (i+j),S)
 |.tup a,.tup b,S=>if a.length+b.length<=LIM then some (.tup (a++b),S)else none
 |.str a,.str b,S=>if a.length+b.length<=LIM then some (.str (a++b),S)else none
 |.ref l,.ref k,S=>kR (.ref l) (.ref k) S
 |_,_,_=>none
theorem bI:OpR X (binaryOp .Add) (fun x y H Q=>rI0 (fun i j=>.int (i+j)) x y H Q\/(Gv x y H Q\/(yF X.K x y H Q\/∃i j,x=.str i/\y=.str j/\i.length+j.length<=QN/\Q (.str (i++j)) H))):=Fm.or (Fl.or (Cs.or sP))
theorem bH:OpP K (fun x y H Q=>rI0 (fun i j=>.int (i+j)) x y H Q\/(Gv x y H Q\/(yF K x y H Q\/∃i j,x=.str i/\y=.str j/\i.length+j.length<=QN/\Q (.str (i++j)) H))) cT:=by
 intro m S H x y v w u S' Q sr ix iy hf post;cases x<;>cases y<;>simp only[cT]at hf<;>try cases hf
 ·exact .inl ⟨_,_,ix.of_int,iy.of_int,post m _ H .refl sr .int_⟩
 ·exact .inr (.inr (.inr (yZ m S H _ _ v w u S' Q sr ix iy hf post)))
 ·exact .inr (.inr (.inl (yY m S H _ _ v w u S' Q sr ix iy hf post)))
 ·exact .inr (.inl (y8 m S H _ _ v w u S' Q sr ix iy hf post))
def wI:=fI fun i j=>some (.int (i-j))
theorem sO:OpP K (rI0 fun i j=>.int (i-j)) wI:=y0 fun i j u h m H=>by cases h;exact .int_
instance {i j:Int}:Decidable (xJ i j):=by unfold xJ;exact inferInstance
def kQ:=fI fun i j=>if xJ i j then some (.int (i*j))else none
theorem m9:OpP K (rI xJ fun i j=>.int (i*j)) kQ:=Gw fun i j u h=>by
 split at h
 ·rename_i c;cases h;exact⟨c,fun m H=>.int_⟩
 ·cases h
instance {i j:Int}:Decidable (tN i j):=by unfold tN;exact inferInstance
def AK:=fI fun i j=>if tN i j then some (.int (i / j))else none
theorem Fe:OpP K (rI tN fun i j=>.int (i / j)) AK:=Gw fun i j u h=>by
 split at h
 ·rename_i c;cases h;exact⟨c,fun m H=>.int_⟩
 ·cases h
def tu:=fI fun i j=>if 0<j then some (.int (i % j))else none
theorem y4:OpP K (rI (fun _ j=>0<j) fun i j=>.int (i % j)) tu:=Gw fun i j u h=>by
 split at h
 ·rename_i c;cases h;exact⟨c,fun m H=>.int_⟩
 ·cases h
instance {i j:Int}:Decidable (Dk i j):=by unfold Dk;exact inferInstance
def F1:=fI fun i j=>if Dk i j then some (.int (i^j.toNat))else none
theorem IB:OpP K (rI Dk fun i j=>.int (i^j.toNat)) F1:=Gw fun i j u h=>by
 split at h
 ·rename_i c;cases h;exact⟨c,fun m H=>.int_⟩
 ·cases h
def fLt:=fI fun i j=>some (.bl (decide (i<j)))
def fLe:=fI fun i j=>some (.bl (decide (i<=j)))
def fGt:=fI fun i j=>some (.bl (decide (j<i)))
def fGe:=fI fun i j=>some (.bl (decide (j<=i)))
theorem y6:OpP K (rI0 fun i j=>.bl (decide (i<j))) fLt:=y0 fun i j u h m H=>by cases h;exact .bl_
theorem JQ:OpP K (rI0 fun i j=>.bl (decide (i<=j))) fLe:=y0 fun i j u h m H=>by cases h;exact .bl_
theorem Kz:OpP K (rI0 fun i j=>.bl (decide (j<=i))) fGe:=y0 fun i j u h m H=>by cases h;exact .bl_
def eqS:U->U->Option Bool
 |.int i,.int j=>some (decide (i=j))
 |.bl i,.bl j=>some (decide (i=j))
 |.str i,.str j=>some (decide (i=j))
 |.non,.non=>some true
 |.non,.int _=>some false|.int _,.non=>some false
 |.non,.bl _=>some false|.bl _,.non=>some false
 |.non,.str _=>some false|.str _,.non=>some false
 |.int _,.str _=>some false|.str _,.int _=>some false
 |.bl _,.str _=>some false|.str _,.bl _=>some false
 |_,_=>none
def fEq:U->U->Sto->Option (U×Sto):=fun x y S=>(eqS x y).bind fun b=>some (.bl b,S)
def fNe:U->U->Sto->Option (U×Sto):=fun x y S=>(eqS x y).bind fun b=>some (.bl (!b),S)
theorem AM{m:List Addr}{H:Hp}{x y:U}{v w:V}{b:Bool}(ix:Is K m H v x)(iy:Is K m H w y)(h:eqS x y=some b):HU v w=true/\decide (v=w)=b:=by
 cases x<;>cases y<;>simp only[eqS]at h<;>(first|cases h|skip);all_goals
  (first|(have e1:=ix.of_int)|(have e1:=ix.of_bl)|(have e1:=ix.of_str)|(have e1:=ix.of_non))
  (first|(have e2:=iy.of_int)|(have e2:=iy.of_bl)|(have e2:=iy.of_str)|(have e2:=iy.of_non))
  subst e1 e2;exact⟨rfl,by simp⟩
theorem Ax:OpP K rEq fEq:=by
 intro m S H x y v w u S' Q sr ix iy hf post;obtain⟨b,h1,h2⟩:=Q0.mp hf;cases h2;obtain⟨e1,e2⟩:=AM ix iy h1;exact⟨e1,by rw[e2];exact post m _ H .refl sr .bl_⟩
theorem tP:OpP K rNe fNe:=by
 intro m S H x y v w u S' Q sr ix iy hf post;obtain⟨b,h1,h2⟩:=Q0.mp hf;cases h2;obtain⟨e1,e2⟩:=AM ix iy h1;exact⟨e1,by rw[e2];exact post m _ H .refl sr .bl_⟩
def Jf:U->Bool
 |.non=>true
 |_=>false
def KR:U->U->Sto->Option (U×Sto)
 |x,.non,S=>some (.bl (Jf x),S)
 |_,_,_=>none
def gK:U->U->Sto->Option (U×Sto)
 |.bl a,.bl b,S=>some (.bl (a !=b),S)
 |_,_,_=>none
theorem ng:OpP K (fun x y H Q=>∃k l,x=.bl k/\y=.bl l/\Q (.bl (k !=l)) H) gK:=by
 intro m S H x y v w u S' Q sr ix iy hf post;cases x<;>cases y<;>simp only[gK]at hf<;>cases hf;exact⟨_,_,ix.of_bl,iy.of_bl,post m _ H .refl sr .bl_⟩
section
variable{κ:Type}[DecidableEq κ]
def iN{α:Type}(kvs:List (κ×α))(k:κ):Option α:=(kvs.find? fun kv=>decide (kv.1=k)).map (·.2)
def jI{α:Type}(kvs:List (κ×α))(k:κ)(v:α):List (κ×α):=
 if (kvs.any fun kv=>decide (kv.1=k))=true then kvs.map (fun kv=>if kv.1=k then(kv.1,v)else kv)else kvs++[(k,v)]
variable{m:List Addr}{H:Hp}{kvs:List (κ×V)}{kus:List (κ×U)}{k:κ}{v:V}{u:U}
theorem IsP.val(h:IsP K m H kvs kus):Rf K m H (lI kvs k) (iN kus k):=by
 refine IsP.ind (P:=fun kvs kus=>Rf K m H (lI kvs k) (iN kus k)) trivial (fun k' v u kvs kus i _ ih=>?_) h;by_cases e:k'=k
 ·subst e;simp[lI,iN,Zk,Rf,i]
 ·simp only[lI,iN,Zk,decide_eq_false e]at ih ⊢;exact ih
theorem IsP.any_(h:IsP K m H kvs kus):(kvs.any fun kv=>decide (kv.1=k))=(kus.any fun kv=>decide (kv.1=k)):=
 IsP.ind (P:=fun kvs kus=>(kvs.any fun kv=>decide (kv.1=k))=(kus.any fun kv=>decide (kv.1=k))) rfl (fun k' v u kvs kus i _ ih=>by simp only[Zo,ih]) h
theorem IsP.append{kvs':List (κ×V)}{kus':List (κ×U)}(h:IsP K m H kvs kus)(h':IsP K m H kvs' kus'):IsP K m H (kvs++kvs') (kus++kus'):=⟨by simp[h.1,h'.1],by simpa using h.2.append h'.2⟩
theorem IsP.put(h:IsP K m H kvs kus)(i:Is K m H v u):IsP K m H (o8 kvs k v) (jI kus k u):=by
 unfold o8 jI;rw[h.any_];split
 ·refine IsP.ind (P:=fun kvs kus=>IsP K m H (kvs.map fun kv=>if kv.1=k then(kv.1,v)else kv) (kus.map fun kv=>if kv.1=k then(kv.1,u)else kv)) .nil_ (fun k' v' u' kvs kus i' _ ih=>?_) h;simp only[Qk];by_cases e:k'=k
  ·simp only[e,if_true];exact .cons_ i ih
  ·simp only[e,if_false];exact .cons_ i' ih
 ·exact h.append (.cons_ i .nil_)
end
def jJ:U->Option Key
 |.int i=>some (.inl i)
 |.str x=>some (.inr x)
 |_=>none
theorem i9{m:List Addr}{H:Hp}{x:U}{v:V}{k:Key}(ix:Is K m H v x)(h:jJ x=some k):v=kV k:=by
 cases x<;>simp only[jJ]at h<;>cases h
 ·exact ix.of_int
 ·exact ix.of_str
def fQ:U->Bool
 |.non=>true|.bl _=>true|.int _=>true|.str _=>true|_=>false
def eqF:U->U->Bool
 |.non,.non=>true
 |.bl a,.bl b=>a == b
 |.bl a,.int b=>(if a then 1 else 0) == b
 |.int a,.bl b=>a == (if b then 1 else 0)
 |.int a,.int b=>a == b
 |.str a,.str b=>a == b
 |_,_=>false
def inU(x:U)(us:List U):Bool:=us.any fun y=>eqF y x
theorem p7{m:List Addr}{H:Hp}{x:U}{v:V}(ix:Is K m H v x)(h:fQ x=true):lN v=true:=by
 cases x with
 |non=>rw[ix.of_non];rfl
 |bl b=>rw[ix.of_bl];rfl
 |int i=>rw[ix.of_int];rfl
 |str i=>rw[ix.of_str];rfl
 |tup us=>cases h
 |ref l=>cases h
 |kl l=>cases h
theorem F4{m:List Addr}{H:Hp}{x y:U}{v w:V}(ix:Is K m H v x)(iy:Is K m H w y)(hx:fQ x=true)(hy:fQ y=true):eqV v w=eqF x y:=by
 cases x<;>(first|cases hx|skip)<;>cases y<;>(first|cases hy|skip);all_goals
  (first|(have e1:=ix.of_int)|(have e1:=ix.of_bl)|(have e1:=ix.of_str)|(have e1:=ix.of_non))
  (first|(have e2:=iy.of_int)|(have e2:=iy.of_bl)|(have e2:=iy.of_str)|(have e2:=iy.of_non))
  subst e1 e2;rfl
theorem nv{m:List Addr}{H:Hp}:∀{xs:List V} {us:List U},IsL K m H xs us->us.all fQ=true->xs.all lN=true
 |xs,[],h,_=>by rw[h.of_nil];rfl
 |xs,u::us,h,k=>by
  obtain⟨x,r,rfl,i,t⟩:=h.of_cons;rw[List.all_cons,Z0]at k ⊢;exact⟨p7 i k.1,nv t k.2⟩
theorem wy{m:List Addr}{H:Hp}{x:U}{v:V}(ix:Is K m H v x)(hx:fQ x=true):∀{xs:List V} {us:List U},IsL K m H xs us->us.all fQ=true->inV v xs=inU x us
 |xs,[],h,_=>by rw[h.of_nil];rfl
 |xs,u::us,h,k=>by
  obtain⟨y,r,rfl,i,t⟩:=h.of_cons;rw[List.all_cons,Z0]at k;have ih:=wy ix hx t k.2;unfold inV inU at ih ⊢;rw[Zo,Zo,ih,F4 i ix k.1 hx]
theorem _root_.L2.DGet.kz{H:Hp}{a:Addr}{ob:Obj}{kvs:List (Key×V)}{k:Key}(e:H a=some (.frz ob (.dK kvs))):DGet H a (kV k) (lI kvs k):=.inl ⟨kvs,k,.inr ⟨ob,e⟩,rfl,rfl⟩
def fIn(neg:Bool):U->U->Sto->Option (U×Sto):=fun x y S=>match y with
 |.tup us=>if fQ x=true/\us.all fQ=true then some (.bl (if neg then !inU x us else inU x us),S)else none
 |.ref l=>match S[l]? with
  |some (.lst us)=>if fQ x=true/\us.all fQ=true then some (.bl (if neg then !inU x us else inU x us),S)else none
  |some (.dic kus)=>(jJ x).bind fun k=>some (.bl (if neg then !(iN kus k).isSome else(iN kus k).isSome),S)
  |some (.fdc ep kus)=>(jJ x).bind fun k=>some (.bl (if neg then !(iN kus k).isSome else(iN kus k).isSome),S)
  |_=>none
 |_=>none
theorem Rf.isSome{m:List Addr}{H:Hp}{v:Option V}{u:Option U}(h:Rf K m H v u):v.isSome=u.isSome:=by
 cases v<;>cases u<;>first|rfl|exact h.elim
theorem FT{ca cb:CE}{neg:Bool}(t2:TE->TE->TE)(h2:∀ta tb σ H Q,(ta σ H fun y H1=>tb σ H1 fun x H2=>∃a o,x=.ref a/\DGet H2 a y o/\Q (.bl (if neg then !o.isSome else o.isSome)) H2)->t2 ta tb σ H Q):∀σ H Q,tE K (cOp (fIn neg) ca cb) σ H Q->tOp (rIn K neg) (tE K ca) (tE K cb) σ H Q\/t2 (tE K ca) (tE K cb) σ H Q:=by
 rintro σ H Q ⟨m,ρ,S,u,S',sr,lr,hc,post⟩;obtain⟨⟨x,S1⟩,h1,h⟩:=Q0.mp hc;obtain⟨⟨y,S2⟩,h3,h4⟩:=Q0.mp h;cases y with
 |tup us=>
  simp only[fIn]at h4;split at h4<;>try cases h4
  rename_i hf;refine .inl ⟨m,ρ,S,x,S1,sr,lr,h1,fun m1 v1 H1 e1 sr1 i1=>⟨m1,ρ,S1,.tup us,S',sr1,lr.mono e1,h3,fun m2 v2 H2 e2 sr2 i2=>?_⟩⟩;obtain⟨a,xs,rfl,sa,la⟩:=i2.of_tup;refine⟨a,xs,rfl,.inr sa,p7 (i1.mono e2) hf.1,nv la hf.2,?_⟩;rw[wy (i1.mono e2) hf.1 la hf.2];exact post m2 _ H2 (e1.trans e2) sr2 .bl_
 |ref l=>
  simp only[fIn]at h4;split at h4<;>try cases h4
  ·rename_i us hS;split at h4<;>try cases h4
   rename_i hf;refine .inl ⟨m,ρ,S,x,S1,sr,lr,h1,fun m1 v1 H1 e1 sr1 i1=>⟨m1,ρ,S1,.ref l,S',sr1,lr.mono e1,h3,fun m2 v2 H2 e2 sr2 i2=>?_⟩⟩;obtain⟨a,ha,rfl⟩:=i2.of_ref;obtain⟨a',ha',xs,hx,la⟩:=sr2.get hS;rw[ha]at ha';cases ha';refine⟨a,xs,rfl,.inl (SqL.of hx),p7 (i1.mono e2) hf.1,nv la hf.2,?_⟩;rw[wy (i1.mono e2) hf.1 la hf.2];exact post m2 _ H2 (e1.trans e2) sr2 .bl_
  ·rename_i kus hS;obtain⟨k,hk,h5⟩:=Q0.mp h4;cases h5;refine .inr (h2 _ _ _ _ _ ⟨m,ρ,S,x,S1,sr,lr,h1,fun m1 v1 H1 e1 sr1 i1=>⟨m1,ρ,S1,.ref l,S',sr1,lr.mono e1,h3,fun m2 v2 H2 e2 sr2 i2=>?_⟩⟩);obtain⟨a,ha,rfl⟩:=i2.of_ref;obtain⟨a',ha',kvs,hx,ip⟩:=sr2.get hS;rw[ha]at ha';cases ha';have ek:=i9 (i1.mono e2) hk;subst ek;refine⟨a,_,rfl,DGet.k hx,?_⟩;rw[(IsP.val ip).isSome];exact post m2 _ H2 (e1.trans e2) sr2 .bl_
  ·rename_i ep kus hS;obtain⟨k,hk,h5⟩:=Q0.mp h4;cases h5;refine .inr (h2 _ _ _ _ _ ⟨m,ρ,S,x,S1,sr,lr,h1,fun m1 v1 H1 e1 sr1 i1=>⟨m1,ρ,S1,.ref l,S',sr1,lr.mono e1,h3,fun m2 v2 H2 e2 sr2 i2=>?_⟩⟩);obtain⟨a,ha,rfl⟩:=i2.of_ref;obtain⟨a',ha',ob,es,kvs,hx,hd,ip⟩:=sr2.get hS;rw[ha]at ha';cases ha';have ek:=i9 (i1.mono e2) hk;subst ek;refine⟨a,_,rfl,DGet.kz hx,?_⟩;rw[(IsP.val ip).isSome];exact post m2 _ H2 (e1.trans e2) sr2 .bl_
 |_=>simp[fIn]at h4
variable{e a b:Qq}{ca cb:CE}{pos:Pos}
theorem JP(hu:X.A.units+1<cLine)(ha:QE X a ca)(hb:QE X b cb)(hm:behindInMarks .In b=false):QE X (.Compare a [.In] [b] pos) (cOp (fIn false) ca cb):=
 ((qy vE ha hb hm).or (Bw (By hu ha hb) hm)).imp (FT (neg:=false) HR fun _ _ _ _ _ h=>h)
def fIx:U->U->Sto->Option (U×Sto):=fun x y S=>match x with
 |.tup us=>match y with
  |.int i=>(atI us i).bind fun u=>some (u,S)
  |_=>none
 |.ref l=>match S[l]? with
  |some (.lst us)=>(match y with
   |.int i=>(atI us i).bind fun u=>some (u,S)
   |_=>none)
  |some (.dic kus)=>(jJ y).bind fun k=>(iN kus k).bind fun u=>some (u,S)
  |some (.fdc ep kus)=>(jJ y).bind fun k=>(iN kus k).bind fun u=>some (u,S)
  |_=>none
 |.kl ns=>match y with
  |.int i=>(atI (ns.map U.int) i).bind fun u=>some (u,S)
  |_=>none
 |_=>none
theorem rE{K:Q5}{m:List Addr}{H:Hp}:∀ns:List Int,IsL K m H (ns.map V.int) (ns.map U.int)
 |[]=>.nil_
 |n::ns=>.cons_ .int_ (rE ns)
theorem xw{m:List Addr}{H:Hp}{xs:List V}{us:List U}{i:Int}{u:U}(l:IsL K m H xs us)(h:atI us i=some u):∃v,atI xs i=some v/\Is K m H v u:=by
 unfold atI at h ⊢;rw[l.length];obtain⟨j,e1,e2⟩:=Q0.mp h;rw[e1];obtain⟨v,e3,e4⟩:=l.getD e2;exact⟨v,e3,e4⟩
theorem fJ(hu:X.A.units+1<cLine)(ha:QE X a ca)(hb:QE X b cb)(hs:qq b)(hs2:Dj b):QE X (.Subscript a b pos) (cOp fIx ca cb):=
 ((Ea (CL.or FO) ha hb hs).or (yf hu ha hb hs2)).imp fun σ H Q hz=>gN hz fun m ρ S u S' sr lr hc post=>by
 obtain⟨⟨x,S1⟩,h1,h⟩:=Q0.mp hc;obtain⟨⟨y,S2⟩,h3,h4⟩:=Q0.mp h;cases x with
 |tup us=>
  simp only[fIx]at h4;split at h4<;>try cases h4
  rename_i i;obtain⟨w,hw,h5⟩:=Q0.mp h4;cases h5;refine .inl ⟨m,ρ,S,_,S1,sr,lr,h1,fun m1 v1 H1 e1 sr1 i1=>⟨m1,ρ,S1,_,S',sr1,lr.mono e1,h3,fun m2 v2 H2 e2 sr2 i2=>.inr ?_⟩⟩;obtain⟨a,xs,rfl,sa,la⟩:=(i1.mono e2).of_tup;obtain⟨z,ez,iz⟩:=xw la hw;exact⟨a,xs,i,z,rfl,i2.of_int,sa,ez,post m2 _ H2 (e1.trans e2) sr2 iz⟩
 |ref l=>
  simp only[fIx]at h4;split at h4<;>try cases h4
  ·rename_i us hS;split at h4<;>try cases h4
   rename_i i;obtain⟨w,hw,h5⟩:=Q0.mp h4;cases h5;refine .inl ⟨m,ρ,S,_,S1,sr,lr,h1,fun m1 v1 H1 e1 sr1 i1=>⟨m1,ρ,S1,_,S',sr1,lr.mono e1,h3,fun m2 v2 H2 e2 sr2 i2=>.inl ?_⟩⟩;obtain⟨a,ha,rfl⟩:=(i1.mono e2).of_ref;obtain⟨a',ha',xs,hx,la⟩:=sr2.get hS;rw[ha]at ha';cases ha';obtain⟨z,ez,iz⟩:=xw la hw;exact⟨a,xs,i,z,rfl,i2.of_int,SqL.of hx,ez,post m2 _ H2 (e1.trans e2) sr2 iz⟩
  ·rename_i kus hS;obtain⟨k,hk,h5⟩:=Q0.mp h4;obtain⟨w,hw,h6⟩:=Q0.mp h5;cases h6;refine .inr ⟨m,ρ,S,_,S1,sr,lr,h1,fun m1 v1 H1 e1 sr1 i1=>⟨m1,ρ,S1,_,S',sr1,lr.mono e1,h3,fun m2 v2 H2 e2 sr2 i2=>?_⟩⟩;obtain⟨a,ha,rfl⟩:=(i1.mono e2).of_ref;obtain⟨a',ha',kvs,hx,ip⟩:=sr2.get hS;rw[ha]at ha';cases ha';have ek:=i9 i2 hk;subst ek;have rf:=IsP.val (k:=k) ip;rw[hw]at rf;cases hv:lI kvs k with
   |none=>rw[hv]at rf;exact rf.elim
   |some z=>
    rw[hv]at rf;exact⟨a,z,rfl,by have:=DGet.k (k:=k) hx;rw[hv]at this;exact this,post m2 _ H2 (e1.trans e2) sr2 rf⟩
  ·rename_i ep kus hS;obtain⟨k,hk,h5⟩:=Q0.mp h4;obtain⟨w,hw,h6⟩:=Q0.mp h5;cases h6;refine .inr ⟨m,ρ,S,_,S1,sr,lr,h1,fun m1 v1 H1 e1 sr1 i1=>⟨m1,ρ,S1,_,S',sr1,lr.mono e1,h3,fun m2 v2 H2 e2 sr2 i2=>?_⟩⟩;obtain⟨a,ha,rfl⟩:=(i1.mono e2).of_ref;obtain⟨a',ha',ob,es,kvs,hx,hd,ip⟩:=sr2.get hS;rw[ha]at ha';cases ha';have ek:=i9 i2 hk;subst ek;have rf:=IsP.val (k:=k) ip;rw[hw]at rf;cases hv:lI kvs k with
   |none=>rw[hv]at rf;exact rf.elim
   |some z=>
    rw[hv]at rf;exact⟨a,z,rfl,by have:=DGet.kz (k:=k) hx;rw[hv]at this;exact this,post m2 _ H2 (e1.trans e2) sr2 rf⟩
 |kl ns=>
  simp only[fIx]at h4;split at h4<;>try cases h4
  rename_i i;obtain⟨w,hw,h5⟩:=Q0.mp h4;cases h5;refine .inl ⟨m,ρ,S,_,S1,sr,lr,h1,fun m1 v1 H1 e1 sr1 i1=>⟨m1,ρ,S1,_,S',sr1,lr.mono e1,h3,fun m2 v2 H2 e2 sr2 i2=>.inl ?_⟩⟩;obtain⟨a,rfl,ka⟩:=(i1.mono e2).of_kl;obtain⟨z,ez,iz⟩:=xw (rE (K:=X.K) (m:=m2) (H:=H2) ns) hw;exact⟨a,_,i,z,rfl,i2.of_int,ka.sq,ez,post m2 _ H2 (e1.trans e2) sr2 iz⟩
 |_=>simp[fIx]at h4
def kO:U->U->U->Sto->Option Sto:=fun o i v S=>match o with
 |.ref l=>match S[l]? with
  |some (.lst us)=>(match i with
   |.int k=>(ixN us.length k).bind fun j=>some (S.set l (.lst (us.set j v)))
   |_=>none)
  |some (.dic kus)=>(jJ i).bind fun k=>if kus.length<LIM then some (S.set l (.dic (jI kus k v)))else none
  |_=>none
 |_=>none
def xn(co ci cv:CE):CS:=fun ρ S=>(cv ρ S).bind fun p=>(co ρ p.2).bind fun q=>(ci ρ q.2).bind fun r=>(kO q.1 r.1 p.1 r.2).bind fun S'=>some (.nx,ρ,S')
theorem yH{o i:Qq}{co ci cv:CE}{pos':Pos}(hu:X.A.units+1<cLine)(ho:QE X o co)(hi:QE X i ci)(hv:QE X e cv)
  (hs0:swapsWithSole [.Subscript o i pos'] e pos.line X.env=pure false:=by rfl) (hw:swappedStores [.Subscript o i pos'] e X.env=pure none:=by rfl)
  (h1:(assignEach [.Subscript o i pos'] X.env).map (·.2)=[assign (.Subscript o i pos') X.env]:=by rfl)
  (hs:Ze e (some (.Subscript o i pos')) pos.line X.env=pure false:=by rfl)
  (ha:∀v,assign (.Subscript o i pos') X.env v=(do
   let ov <-holding [v] (eval o X.env)
   let iv <-holding [v,ov] (eval i X.env)
   standAt pos'
   holding [v,ov,iv] (setItem ov iv v)
   release [v,ov,iv] []):=by intro _;rfl):QS X (.Assign [.Subscript o i pos'] e pos) (xn co ci cv):=
 ((uo hv (Bq ho hi mO ha) hs0 hw h1).or (qw hu ho hi hv hs)).imp fun D σ H hz=>tw hz fun m ρ S o ρ' S' sr lr hc post=>by
 obtain⟨⟨v,S1⟩,h1,h⟩:=Q0.mp hc;obtain⟨⟨ou,S2⟩,h2,h⟩:=Q0.mp h;obtain⟨⟨iu,S3⟩,h3,h⟩:=Q0.mp h;obtain⟨S4,h4,h⟩:=Q0.mp h;cases h;cases ou with
 |ref l=>
  simp only[kO]at h4;split at h4<;>try cases h4
  ·rename_i us hS;split at h4<;>try cases h4
   rename_i k;obtain⟨j,hj,h5⟩:=Q0.mp h4;cases h5;refine .inl ⟨m,ρ,S,v,S1,sr,lr,h1,fun m1 v1 H1 e1 sr1 i1=>⟨m1,ρ,S1,_,S2,sr1,lr.mono e1,h2,fun m2 v2 H2 e2 sr2 i2=>⟨m2,ρ,S2,_,S3,sr2,lr.mono (e1.trans e2),h3,fun m3 v3 H3 e3 sr3 i3=>?_⟩⟩⟩;obtain⟨a,ha,rfl⟩:=(i2.mono e3).of_ref;obtain⟨a',ha',xs,hx,la⟩:=sr3.get hS;rw[ha]at ha';cases ha';have e13:=(e1.trans e2).trans e3;have ek:Ext X.K m3 H3 m3 (upd H3 a (.lst (xs.set j v1))):=.of (sr3.keep ha _);refine⟨a,xs,k,j,rfl,i3.of_int,hx,by rw[la.length];exact hj,post m3 σ _ (e13.trans ek) (sr3.put ha ⟨_,aP,((la.set (i1.mono (e2.trans e3)))).mono ek⟩) (lr.mono (e13.trans ek))⟩
  ·rename_i kus hS;obtain⟨k,hk,h5⟩:=Q0.mp h4;split at h5<;>try cases h5
   have hlen:kus.length<LIM:=by assumption
   refine .inr ⟨m,ρ,S,v,S1,sr,lr,h1,fun m1 v1 H1 e1 sr1 i1=>⟨m1,ρ,S1,_,S2,sr1,lr.mono e1,h2,fun m2 v2 H2 e2 sr2 i2=>⟨m2,ρ,S2,_,S3,sr2,lr.mono (e1.trans e2),h3,fun m3 v3 H3 e3 sr3 i3=>?_⟩⟩⟩;obtain⟨a,ha,rfl⟩:=(i2.mono e3).of_ref;obtain⟨a',ha',kvs,hx,ip⟩:=sr3.get hS;rw[ha]at ha';cases ha';have ek:=i9 i3 hk;subst ek;have e13:=(e1.trans e2).trans e3;have ee:Ext X.K m3 H3 m3 (upd H3 a (.dK (o8 kvs k v1))):=.of (sr3.keep ha _);exact⟨a,_,rfl,AX.k hx (Fx (by rw[IsP.length ip];exact hlen)),post m3 σ _ (e13.trans ee) (sr3.put ha ⟨_,aP,(IsP.put ip (i1.mono (e2.trans e3))).mono ee⟩) (lr.mono (e13.trans ee))⟩
 |_=>simp[kO]at h4
end
section
variable{c:Cl}{fus:List (Option U)}
open Classical in
def Jl(c:Cl)(i:Nat)(x:U)(S:Sto):Option (U×Sto):=match x with
 |.ref l=>match S[l]? with
  |some (.ins c' fus)=>if c'=c then(fus[i]?).join.bind fun u=>some (u,S)else none
  |_=>none
 |_=>none
def KI(c:Cl)(i:Nat)(ca:CE):CE:=fun ρ S=>(ca ρ S).bind fun p=>Jl c i p.1 p.2
open Classical in
def CW(c:Cl)(i:Nat)(x v:U)(S:Sto):Option Sto:=match x with
 |.ref l=>match S[l]? with
  |some (.ins c' fus)=>if c'=c then some (S.set l (.ins c (fus.set i (some v))))else none
  |_=>none
 |_=>none
def Jr(c:Cl)(i:Nat)(ca cv:CE):CS:=fun ρ S=>(cv ρ S).bind fun p=>(ca ρ p.2).bind fun q=>(CW c i q.1 p.1 q.2).bind fun S'=>some (.nx,ρ,S')
variable{ca:CE}{f:Str}
open Classical in
def CY(c:Cl)(f:Fn)(x:U)(S:Sto)(args:Sto->Option (List U×Sto)):Option (U×Sto):=match x with
 |.ref l=>match S[l]? with
  |some (.ins c' _)=>if c'=c then(args S).bind fun q=>f (.ref l::q.1) q.2 else none
  |_=>none
 |_=>none
def Js(c:Cl)(f:Fn)(ca:CE)(cr:CA):CE:=fun ρ S=>(ca ρ S).bind fun p=>CY c f p.1 p.2 (cr ρ)
def Jt:CE:=fun _ S=>some (.ref S.length,S++[.dic []])
def Gb(cd ck cx:CE):CE:=fun ρ S=>(cd ρ S).bind fun p=>match p.1 with
 |.ref l=>match p.2[l]? with
  |some (.dic _)=>(ck ρ p.2).bind fun q=>(cx ρ q.2).bind fun r=>match r.2[l]? with
   |some (.dic kus)=>(jJ q.1).bind fun k=>some ((iN kus k).getD r.1,r.2)
   |_=>none
  |_=>none
 |_=>none
end
def mh(n:Nat)(caps:List Nat)(ρ:Rho):Rho:=Qr n none++caps.map fun i=>(ρ[i]?).getD none
open Classical in
def gP(ok:Sto->Prop)(g:CG)(ce:CE)(l:Nat):List U->Rho->Sto->Option Sto
 |[],_,S=>if ok S then some S else none
 |u::us,ρ,S=>if ok S then(g u ρ S).bind fun p=>(ce p.1 p.2).bind fun r=>match r.2[l]? with
  |some (.lst ys)=>if ys.length<LIM then gP ok g ce l us p.1 (r.2.set l (.lst (ys++[r.1])))else none
  |_=>none else none
def cP(ci:CI)(g:CG)(ce:CE)(n:Nat)(caps:List Nat):CE:=fun ρ S=>(ci ρ S).bind fun p=>(gP p.2.1 g ce p.2.2.length p.1 (mh n caps ρ) (p.2.2++[.lst []])).bind fun S'=>some (.ref p.2.2.length,S')
section
variable{X:Cx}{K:Q5}
theorem vU{m:List Addr}{H:Hp}{ρ:Rho}{σ:L2.St}{n:Nat}{caps:List Nat}(lr:Lr K m H ρ σ):Lr K m H (mh n caps ρ) (OG.stC n caps σ):=by
 refine⟨by simp[mh,OG.stC],fun j u e=>?_⟩;unfold mh at e;unfold OG.stC;by_cases c:j<n
 ·rw[Qv (by simpa using c),Zn]at e;split at e<;>cases e
 ·rw[Qw (by simp;omega),Qn]at e ⊢;simp only[List.length_replicate]at e ⊢;cases q:caps[j-n]? with
  |none=>rw[q]at e;simp at e
  |some i=>
   rw[q]at e;simp only[Option.map_some,Option.some.injEq]at e ⊢;have e2:ρ[i]?=some (some u):=by
    cases z:ρ[i]? with
    |none=>rw[z]at e;simp at e
    |some y=>rw[z]at e;simp at e;rw[e]
   obtain⟨v,h1,h2⟩:=lr.at_ i u e2;exact⟨v,by rw[h1];rfl,h2⟩
theorem oN{g:CG}{ce:CE}{n:Nat}{caps:List Nat}{J:It}{us:List U}{ok:Sto->Prop}{Q:VK}{m1:List Addr}{H1:Hp}{S1 S':Sto}{ρ:Rho}{σ:L2.St}{l:Addr}(sr1:Sr K m1 S1 H1)(lr:Lr K m1 H1 ρ σ)(ito:z9 K J m1 H1 us ok)(hl:H1 l=none)(h2:gP ok g ce S1.length us (mh n caps ρ) (S1++[.lst []])=some S')
  (post:∀m2 H2,Ext K (m1++[l]) (upd H1 l (.lst [])) m2 H2->Sr K m2 S' H2->Q (.ref l) H2) :
  ∃W:Nat->Nat->L2.St->Hp->Prop,(∃m,W 0 m (OG.stC n caps σ) (upd H1 l (.lst [])))/\
 ∀i m σ' H2,W i m σ' H2->(J.stop i H2/\Q (.ref l) H2)\/(J.go i H2/\∃N:L2.St->Hp->Prop,(∀σ'' H',N σ'' H'->∃m',m'<m/\W (i+1) m' σ'' H')/\
  ∀x H3,J.yld i H2 x H3->tG K g x σ' H3 fun σ2 H4=>tE K ce σ2 H4 fun v H5=>∃ys,H5 l=some (.lst ys)/\ys.length<QN/\N σ2 (upd H5 l (.lst (ys++[v])))):=by
 have ee:Ext K m1 H1 (m1++[l]) (upd H1 l (.lst [])):=.new (bC hl _);let W:Nat->Nat->L2.St->Hp->Prop:=fun i k σ2 H2=>k=us.length-i/\i<=us.length/\∃m2 ρ2 S2,Ext K (m1++[l]) (upd H1 l (.lst [])) m2 H2/\Sr K m2 S2 H2/\Lr K m2 H2 ρ2 σ2/\gP ok g ce S1.length (us.drop i) ρ2 S2=some S'
 refine⟨W,⟨us.length,by simp,ZN _,m1++[l],mh n caps ρ,S1++[.lst []],.refl,sr1.new (o:=.lst []) hl ⟨[],aP,.nil_⟩,vU (lr.mono ee),by simpa using h2⟩,?_⟩;rintro i k σ2 H2 ⟨rfl,hi,m2,ρ2,S2,e2,sr2,lr2,hl2⟩;by_cases hlt:i<us.length
 ·have hu:=Q7 hlt;rw[kW hu]at hl2;unfold gP at hl2;split at hl2
  ·rename_i hok;obtain⟨⟨ρ3,S3⟩,h3,hl2⟩:=Q0.mp hl2;obtain⟨⟨u4,S4⟩,h4,hl2⟩:=Q0.mp hl2;simp only at hl2;split at hl2<;>try cases hl2
   rename_i ys hys;split at hl2<;>try cases hl2
   rename_i hlen;obtain⟨hgo,hy⟩:=(ito m2 S2 H2 i (ee.trans e2) sr2 hok).1 _ hu;refine .inr ⟨hgo,W (i+1) (us.length-(i+1)),fun σ' H' w'=>⟨_,by omega,w'⟩,fun x H3 y=>?_⟩;obtain⟨e3,sr3,ix⟩:=hy x H3 y;refine⟨m2,ρ2,S2,_,ρ3,S3,sr3,lr2.mono e3,ix,h3,fun m4 σ4 H4 e4 sr4 lr4=>⟨m4,ρ3,S3,u4,S4,sr4,lr4,h4,fun m5 v5 H5 e5 sr5 i5=>?_⟩⟩;obtain⟨a',ha',xs,hx,il⟩:=sr5.get hys;have ha:m5[S1.length]?=some l:=(((e2.trans e3).trans e4).trans e5).get (dF sr1.len);rw[ha]at ha';cases ha';have eu:Ext K m5 H5 m5 (upd H5 l (.lst (xs++[v5]))):=.of (sr5.keep ha _);refine⟨xs,hx,Fx (by rw[il.length];exact hlen),rfl,hlt,m5,ρ3,_,((((e2.trans e3).trans e4).trans e5).trans eu),sr5.put (o:=.lst (ys++[u4])) ha ⟨_,aP,(il.append (.cons_ i5 .nil_)).mono eu⟩,(lr4.mono (e5.trans eu)),hl2⟩
  ·cases hl2
 ·have e:i=us.length:=by omega
  subst e;rw[List.drop_length]at hl2;unfold gP at hl2;split at hl2
  ·rename_i hok;cases hl2;exact .inl ⟨(ito m2 _ H2 _ (ee.trans e2) sr2 hok).2 (QJ _),post m2 H2 e2 sr2⟩
  ·cases hl2
theorem rQ{ci:CI}{g:CG}{ce:CE}{n:Nat}{caps:List Nat}:∀σ H Q,tE K (cP ci g ce n caps) σ H Q->yu (tI K ci) (tG K g) (tE K ce) n caps σ H Q:=by
 rintro σ H Q ⟨m,ρ,S,u,S',sr,lr,hc,post⟩;obtain⟨⟨us,ok,S1⟩,h1,h2⟩:=Q0.mp hc;obtain⟨S2,h2,h3⟩:=Q0.mp h2;cases h3;refine⟨m,ρ,S,us,ok,S1,sr,lr,h1,fun m1 H1 J e1 sr1 ito l hl=>?_⟩;have ee:Ext K m1 H1 (m1++[l]) (upd H1 l (.lst [])):=.new (bC hl _);exact oN sr1 (lr.mono e1) ito hl h2 fun m2 H2 e2 sr2=>post m2 _ H2 ((e1.trans ee).trans e2) sr2 (.ref_ (e2.get (dF sr1.len)))
theorem eC{Nc capN tn:List Str}{scope:X2}{cl:List (Str×Addr)}{n:Nat}{caps:List Nat}{tg iter elt:Qq}{pos:Pos}{ci:CI}{g:CG}{ce:CE}
  (hc:X.calm=true) (hi:QI X tg iter ci) (hg:∀s3 H3 fp,WG (cxC X Nc scope cl s3 H3 fp) tg (tG X.K g)) (he:∀s3 H3 fp,WE (cxC X Nc scope cl s3 H3 fp) elt (tE X.K ce))
  (hclos:closureFor scope X.env=pure cl) (hkind:scope.kind=.function) (hnl:∀x∈scope.names,x.2=.local->scope.names.lookup x.1=some .local) (hcell:∀x∈scope.names,x.2≠.cell)
  (hcl:ph X.env cl) (hhas:((relabel scope X.env).names.all fun p=>!(p.2 == .cell||p.2 == .free)||(cl.lookup p.1).isSome)=true)
  (hcap:Paired (Cap X scope cl) caps capN) (hN:Nc=tn++capN) (hn:tn.length=n)
  (hs:∀x,foldedSetIterable iter X.env x=pure x:=by intro _;rfl) :
  QE X (.ListComp elt [⟨tg,iter,[],0⟩] scope pos) (cP ci g ce n caps):=(qx hc hi hg he hclos hkind hnl hcell hcl hhas hcap hN hn hs).imp rQ
def gY:Fn
 |[.tup us],S=>some (.int us.length,S)
 |[.ref l],S=>match S[l]? with
  |some (.lst us)=>some (.int us.length,S)
  |some (.dic us)=>some (.int us.length,S)
  |_=>none
 |[.kl ns],S=>some (.int ns.length,S)
 |_,_=>none
abbrev JN(K:Q5):List V->Hp->VK->Prop:=fun xs H Q=>(∃p ys,xs=[.ref p]/\(SqL K H p ys\/SqT K H p ys)/\Q (.int ys.length) H)\/∃a kvs,xs=[V.ref a]/\H a=some (.dK kvs)/\Q (.int kvs.length) H
theorem fh:cS X (.builtin "len") (JN X.K):=oR.or xl
theorem IsL.one{m:List Addr}{H:Hp}{vs:List V}{u:U}(h:IsL K m H vs [u]):∃v,vs=[v]/\Is K m H v u:=by
 obtain⟨x,r,rfl,i,t⟩:=h.of_cons;rw[t.of_nil];exact⟨x,rfl,i⟩
theorem IsL.two{m:List Addr}{H:Hp}{vs:List V}{u w:U}(h:IsL K m H vs [u,w]):∃v x,vs=[v,x]/\Is K m H v u/\Is K m H x w:=by
 obtain⟨x,r,rfl,i,t⟩:=h.of_cons;obtain⟨y,rfl,j⟩:=t.one;exact⟨x,y,rfl,i,j⟩
theorem fg:lF K (JN K) gY:=by
 intro m S H us vs u S' Q sr i hf post;match us,hf with
 |[.tup ws],hf=>
  cases hf;obtain⟨v,rfl,iv⟩:=i.one;obtain⟨a,xs,rfl,sa,la⟩:=iv.of_tup;exact .inl ⟨a,xs,rfl,.inr sa,by rw[la.length];exact post m _ H .refl sr .int_⟩
 |[.ref l],hf=>
  obtain⟨v,rfl,iv⟩:=i.one;obtain⟨a,ha,rfl⟩:=iv.of_ref;simp only[gY]at hf;split at hf<;>try cases hf
  ·rename_i ws hS;obtain⟨a',ha',xs,hx,la⟩:=sr.get hS;rw[ha]at ha';cases ha';exact .inl ⟨a,xs,rfl,.inl (SqL.of hx),by rw[la.length];exact post m _ H .refl sr .int_⟩
  ·rename_i ws hS;obtain⟨a',ha',xs,hx,la⟩:=sr.get hS;rw[ha]at ha';cases ha';exact .inr ⟨a,xs,rfl,hx,by rw[IsP.length la];exact post m _ H .refl sr .int_⟩
 |[.kl ns],hf=>
  cases hf;obtain⟨v,rfl,iv⟩:=i.one;obtain⟨a,rfl,ka⟩:=iv.of_kl;exact .inl ⟨a,_,rfl,.inl ka.sq,by rw[QZ];exact post m _ H .refl sr .int_⟩
def iK:Fn
 |[.tup us],S=>some (.ref S.length,S++[.lst us])
 |[.ref l],S=>match S[l]? with
  |some (.lst us)=>some (.ref S.length,S++[.lst us])
  |_=>none
 |_,_=>none
theorem mn:lF K (fun xs H Q=>∃p ys,xs=[.ref p]/\(SqL K H p ys\/SqT K H p ys)/\∀l,H l=none->Q (.ref l) (upd H l (.lst ys))) iK:=by
 intro m S H us vs u S' Q sr i hf post;match us,hf with
 |[.tup ws],hf=>
  cases hf;obtain⟨v,rfl,iv⟩:=i.one;obtain⟨a,xs,rfl,sa,la⟩:=iv.of_tup;exact⟨a,xs,rfl,.inr sa,fun l hl=>b8 sr la post hl⟩
 |[.ref l],hf=>
  obtain⟨v,rfl,iv⟩:=i.one;obtain⟨a,ha,rfl⟩:=iv.of_ref;simp only[iK]at hf;split at hf<;>try cases hf
  rename_i ws hS;obtain⟨a',ha',xs,hx,la⟩:=sr.get hS;rw[ha]at ha';cases ha';exact⟨a,xs,rfl,.inl (SqL.of hx),fun l hl=>b8 sr la post hl⟩
def iJ:Fn
 |[.tup us],S=>some (.tup us,S)
 |[.ref l],S=>match S[l]? with
  |some (.lst us)=>some (.tup us,S)
  |_=>none
 |_,_=>none
theorem m8:lF K (fun xs H Q=>∃p ys,xs=[.ref p]/\((SqL K H p ys/\∀l,H l=none->Q (.ref l) (upd H l (.tup ys)))\/(SqT K H p ys/\Q (.ref p) H))) iJ:=by
 intro m S H us vs u S' Q sr i hf post;match us,hf with
 |[.tup ws],hf=>
  cases hf;obtain⟨v,rfl,iv⟩:=i.one;obtain⟨a,xs,rfl,sa,la⟩:=iv.of_tup;exact⟨a,xs,rfl,.inr ⟨sa,post m _ H .refl sr iv⟩⟩
 |[.ref l],hf=>
  obtain⟨v,rfl,iv⟩:=i.one;obtain⟨a,ha,rfl⟩:=iv.of_ref;simp only[iJ]at hf;split at hf<;>try cases hf
  rename_i ws hS;obtain⟨a',ha',xs,hx,la⟩:=sr.get hS;rw[ha]at ha';cases ha';exact⟨a,xs,rfl,.inl ⟨SqL.of hx,fun l hl=>iB sr la post hl⟩⟩
def F3:Fn
 |[.int i],S=>some (.int i,S)
 |[.bl b],S=>some (.int (if b then 1 else 0),S)
 |_,_=>none
theorem Fd:lF K (fun xs H Q=>(∃i,xs=[.int i]/\Q (.int i) H)\/∃k,xs=[.bl k]/\Q (.int (if k then 1 else 0)) H) F3:=by
 intro m S H us vs u S' Q sr i hf post;match us,hf with
 |[.int j],hf=>
  cases hf;obtain⟨v,rfl,iv⟩:=i.one;exact .inl ⟨j,by rw[iv.of_int],post m _ H .refl sr .int_⟩
 |[.bl j],hf=>
  cases hf;obtain⟨v,rfl,iv⟩:=i.one;exact .inr ⟨j,by rw[iv.of_bl],post m _ H .refl sr .int_⟩
def GG:Fn
 |[.int i,.int j],S=>some (.int (if j<i then j else i),S)
 |_,_=>none
theorem IC:lF K (fun xs H Q=>∃i j,xs=[.int i,.int j]/\Q (.int (if j<i then j else i)) H) GG:=by
 intro m S H us vs u S' Q sr i hf post;match us,hf with
 |[.int j,.int k],hf=>
  cases hf;obtain⟨v,w,rfl,iv,iw⟩:=i.two;exact⟨j,k,by rw[iv.of_int,iw.of_int],post m _ H .refl sr .int_⟩
def GH:Fn
 |[.int i,.int j],S=>some (.int (if j>i then j else i),S)
 |_,_=>none
theorem ID:lF K (fun xs H Q=>∃i j,xs=[.int i,.int j]/\Q (.int (if j>i then j else i)) H) GH:=by
 intro m S H us vs u S' Q sr i hf post;match us,hf with
 |[.int j,.int k],hf=>
  cases hf;obtain⟨v,w,rfl,iv,iw⟩:=i.two;exact⟨j,k,by rw[iv.of_int,iw.of_int],post m _ H .refl sr .int_⟩
def ja:List U->Option (List Int)
 |[]=>some []
 |.int i::r=>(ja r).map (i::·)
 |_=>none
def Dh:List U->Option (List Bool)
 |[]=>some []
 |.bl i::r=>(Dh r).map (i::·)
 |_=>none
theorem iH:∀{us:List U} {ns:List Int},ja us=some ns->us=ns.map U.int
 |[],ns,h=>by cases h;rfl
 |u::r,ns,h=>by
  cases u<;>simp only[ja]at h<;>try cases h
  obtain⟨ms,e,h⟩:=ZQ.mp h;subst h;rw[iH e];rfl
theorem fP:∀(ns:List Int),ja (ns.map U.int)=some ns
 |[]=>rfl
 |n::r=>by simp[ja,fP r]
theorem xq:∀{us:List U} {ns:List Bool},Dh us=some ns->us=ns.map U.bl
 |[],ns,h=>by cases h;rfl
 |u::r,ns,h=>by
  cases u<;>simp only[Dh]at h<;>try cases h
  obtain⟨ms,e,h⟩:=ZQ.mp h;subst h;rw[xq e];rfl
theorem rX:∀(ns:List Bool),Dh (ns.map U.bl)=some ns
 |[]=>rfl
 |n::r=>by simp[Dh,rX r]
theorem IsL.ints{m:List Addr}{H:Hp}:∀{xs:List V} {ns:List Int},IsL K m H xs (ns.map U.int)->xs=ns.map V.int
 |xs,[],h=>h.of_nil
 |xs,n::ns,h=>by
  obtain⟨x,r,rfl,i,t⟩:=h.of_cons;rw[IsL.ints t,i.of_int];rfl
theorem IsL.bls{m:List Addr}{H:Hp}:∀{xs:List V} {ns:List Bool},IsL K m H xs (ns.map U.bl)->xs=ns.map V.bl
 |xs,[],h=>h.of_nil
 |xs,n::ns,h=>by
  obtain⟨x,r,rfl,i,t⟩:=h.of_cons;rw[IsL.bls t,i.of_bl];rfl
theorem jK{m:List Addr}{H:Hp}:∀(ns:List Int),IsL K m H (ns.map V.int) (ns.map U.int)
 |[]=>.nil_
 |n::ns=>.cons_ .int_ (jK ns)
def o9:Fn
 |[.ref l],S=>match S[l]? with
  |some (.lst us)=>(Dh us).bind fun bs=>some (.bl (bs.all id),S)
  |_=>none
 |_,_=>none
theorem lK:lF K (fun xs H Q=>∃(p:Addr) (bs:List Bool),xs=[.ref p]/\SqL K H p (bs.map V.bl)/\Q (.bl (bs.all id)) H) o9:=by
 intro m S H us vs u S' Q sr i hf post;match us,hf with
 |[.ref l],hf=>
  obtain⟨v,rfl,iv⟩:=i.one;obtain⟨a,ha,rfl⟩:=iv.of_ref;simp only[o9]at hf;split at hf<;>try cases hf
  rename_i ws hS;obtain⟨bs,hb,h⟩:=Q0.mp hf;cases h;obtain⟨a',ha',xs,hx,la⟩:=sr.get hS;rw[ha]at ha';cases ha';rw[xq hb]at la;rw[la.bls]at hx;exact⟨a,bs,rfl,SqL.of hx,post m _ H .refl sr .bl_⟩
inductive Ty where
 |non|bool|int|str|tuple|list|dict
def Ty.nm:Ty->String
 |.non=>"NoneType"|.bool=>"bool"|.int=>"int"|.str=>"str"|.tuple=>"tuple"|.list=>"list"|.dict=>"dict"
def tyU:U->Sto->Option Ty
 |.non,_=>some .non|.bl _,_=>some .bool|.int _,_=>some .int|.str _,_=>some .str|.tup _,_=>some .tuple
 |.ref l,S=>match S[l]? with
  |some (.lst _)=>some .list
  |some (.dic _)=>some .dict
  |_=>none
 |.kl _,_=>none
def xM:Ty->Ty->Bool
 |.non,.non=>true|.bool,.bool=>true|.bool,.int=>true|.int,.int=>true|.str,.str=>true|.tuple,.tuple=>true|.list,.list=>true|.dict,.dict=>true
 |_,_=>false
theorem kJ(a b:Ty)(hb:b≠.non):PySem.W.kitOne K (.type a.nm) (.type b.nm)=some (xM a b):=by
 cases b<;>first|exact absurd rfl hb|(cases a<;>rfl)
abbrev Kx(K:Q5):List V->Hp->VK->Prop:=fun xs H Q=>(∃(x:V) (T:String) (t:Q6) (k:Bool),xs=[x,.ty T]/\se K H x t/\PySem.W.kitOne K t (.type T)=some k/\Q (.bl k) H)\/
 ∃(a:Addr) (ys:List V) (T:String) (k:Bool),xs=[.ref a,.ty T]/\SqT K H a ys/\PySem.W.kitOne K (.type "tuple") (.type T)=some k/\Q (.bl k) H
theorem IJ:cS X (.builtin "isinstance") (Kx X.K):=by
 refine qj.or ?_;rintro pins s σ H xs us Q I r ⟨a,ys,T,k,rfl,sq,e,q⟩;obtain⟨u,w',rfl,ru,rw'⟩:=pC r;cases rw';cases ru;obtain⟨its,rv,ht,hz⟩:=I.tuple sq;obtain⟨o,h1,h2,_⟩:=ht;exact PySem.W.kia_one PySem.W.kitx_tuple I.kIn ⟨o,h1,h2⟩ e (fun z=>nomatch z) fun tk=>⟨.bl k,H,I.tok tk,rfl,q⟩
def jP(T:Ty)(ca:CE):CE:=fun ρ S=>(ca ρ S).bind fun p=>(tyU p.1 p.2).bind fun t=>some (.bl (xM t T),p.2)
theorem fv{T:Ty}{e eT:Qq}{ca:CE}{p pos:Pos}(hT0:T≠.non)(he:QE X e ca)(hT:WE X eT (tC (.ty T.nm)))(hg:Gl X "isinstance")(hm:X.mg "isinstance"=none)
  (h1:QR [e,eT] X.env=(false,eval e X.env)::QR [eT] X.env:=by rfl) (h2:QR [eT] X.env=(false,eval eT X.env)::QR [] X.env:=by rfl) (hpl:(ZD pos (QR [eT] X.env)).any (·.1)=false:=by rfl) :
  QE X (.Call (.Name "isinstance" p) [e,eT] [] pos) (jP T ca):=(fA IJ hg hm OG.lq (bS he (bS hT dQ h2) h1) (by decide) (by decide) h1 hpl).imp fun σ H Q hz=>gN hz fun m ρ S u S' sr lr hc post=>by
 obtain⟨⟨x,S1⟩,h1,h2⟩:=Q0.mp hc;obtain⟨t,ht,h3⟩:=Q0.mp h2;cases h3;refine⟨m,ρ,S,x,_,sr,lr,h1,fun m1 v1 H1 e1 sr1 i1=>?_⟩;have fin:=post m1 _ H1 e1 sr1 (Is.bl_ (b:=xM t T));cases x with
 |non=>cases ht;rw[i1.of_non];exact .inl ⟨_,_,_,_,rfl,.non,kJ .non T hT0,fin⟩
 |bl b=>cases ht;rw[i1.of_bl];exact .inl ⟨_,_,_,_,rfl,.bl b,kJ .bool T hT0,fin⟩
 |int i=>cases ht;rw[i1.of_int];exact .inl ⟨_,_,_,_,rfl,.int i,kJ .int T hT0,fin⟩
 |str i=>cases ht;rw[i1.of_str];exact .inl ⟨_,_,_,_,rfl,.str i,kJ .str T hT0,fin⟩
 |tup us=>
  cases ht;obtain⟨a,xs,rfl,sa,la⟩:=i1.of_tup;exact .inr ⟨a,xs,_,_,rfl,sa,kJ .tuple T hT0,fin⟩
 |ref l=>
  obtain⟨a,ha,rfl⟩:=i1.of_ref;simp only[tyU]at ht;split at ht<;>try cases ht
  ·rename_i ws hS;obtain⟨a',ha',xs,hx,la⟩:=sr1.get hS;rw[ha]at ha';cases ha';exact .inl ⟨_,_,_,_,rfl,.lst hx,kJ .list T hT0,fin⟩
  ·rename_i ws hS;obtain⟨a',ha',xs,hx,la⟩:=sr1.get hS;rw[ha]at ha';cases ha';exact .inl ⟨_,_,_,_,rfl,.dK hx,kJ .dict T hT0,fin⟩
 |kl ns=>cases ht
def cBM(f:U->List U->Sto->Option (U×Sto))(co:CE)(cr:CA):CE:=fun ρ S=>(co ρ S).bind fun p=>match p.1 with
 |.ref l=>match p.2[l]? with
  |some (.lst _)=>(cr ρ p.2).bind fun q=>f p.1 q.1 q.2
  |_=>none
 |_=>none
def MtP(K:Q5)(r:V->List V->Hp->VK->Prop)(f:U->List U->Sto->Option (U×Sto)):Prop:=
 ∀m S H x v us vs u S' Q,Sr K m S H->Is K m H v x->IsL K m H vs us->f x us S=some (u,S')->iL K m H Q u S'->r v vs H Q
theorem xp{r:V->List V->Hp->VK->Prop}{f:U->List U->Sto->Option (U×Sto)}{co:CE}{cr:CA}(hp:MtP K r f):∀σ H Q,tE K (cBM f co cr) σ H Q->tBM K "list" r (tE K co) (tA K cr) σ H Q:=by
 rintro σ H Q ⟨m,ρ,S,u,S',sr,lr,hc,post⟩;obtain⟨⟨x,S1⟩,h1,h2⟩:=Q0.mp hc;refine⟨m,ρ,S,x,S1,sr,lr,h1,fun m1 v1 H1 e1 sr1 i1=>?_⟩;cases x with
 |ref l=>
  simp only at h2;split at h2<;>try cases h2
  rename_i ws hS;obtain⟨⟨us,S2⟩,h3,h4⟩:=Q0.mp h2;obtain⟨a,ha,rfl⟩:=id i1.of_ref;obtain⟨a',ha',xs,hx,la⟩:=sr1.get hS;rw[ha]at ha';cases ha';exact⟨.inl ⟨rfl,xs,SqL.of hx⟩,m1,ρ,S1,us,S2,sr1,lr.mono e1,h3,fun m2 vs H2 e2 sr2 i2=>hp m2 S2 H2 _ _ us vs u S' Q sr2 (i1.mono e2) i2 h4 (post.mono (e1.trans e2))⟩
 |_=>simp at h2
def gM:U->List U->Sto->Option (U×Sto)
 |.ref l,[u],S=>match S[l]? with
  |some (.lst us)=>if us.length<LIM then some (.non,S.set l (.lst (us++[u])))else none
  |_=>none
 |_,_,_=>none
theorem y9:MtP K va gM:=by
 intro m S H x v us vs u S' Q sr ix i hf post;match x,us,hf with
 |.ref l,[w],hf=>
  simp only[gM]at hf;split at hf<;>try cases hf
  rename_i ws hS;split at hf<;>try cases hf
  rename_i hl;obtain⟨a,ha,rfl⟩:=ix.of_ref;obtain⟨a',ha',xs,hx,la⟩:=sr.get hS;rw[ha]at ha';cases ha';obtain⟨y,rfl,iy⟩:=i.one;have eu:Ext K m H m (upd H a (.lst (xs++[y]))):=.of (sr.keep ha _);exact⟨a,xs,y,rfl,rfl,hx,Fx (by rw[la.length];exact hl),post m _ _ eu (sr.put ha ⟨_,aP,(la.append (.cons_ iy .nil_)).mono eu⟩) .non_⟩
variable{e:Qq}{es:List Qq}{co:CE}{cr:CA}{o:Qq}{apos cpos:Pos}
theorem qU (ho : QE X o co) (ha : QA X (e :: es) cr) (hbase : attributeBase o "append" X.env (eval o X.env) = eval o X.env := by rfl) (hfew : ((ZD cpos (QR (e :: es) X.env)).all (fun x => !x.1) && (backToKw cpos (keywordEach [] X.env)).all (fun x => x.1.isSome)
   && decide ((e::es).length+([]:List Keyword).length+(if ([]:List Keyword).isEmpty then 0 else 1)<30))=true:=by rfl) (hline:(apos.endLine == cpos.line)=true:=by rfl) (hs:QR (e::es) X.env=(false,eval e X.env)::QR es X.env:=by rfl) (hplain:(ZD cpos (QR es X.env)).any (·.1)=false:=by rfl) :
  QE X (.Call (.Attribute o "append" apos) (e::es) [] cpos) (cBM gM co cr):=(ux PySem.F.plainAttrs_list PySem.F.slot_list_append PySem.F.type_list_append kF ho ha.h hbase hfew hline hs hplain).imp (xp y9)
end
def SI:Bool->Heap->Addr->Addr->Nat->Prop
 |true,h,it,a,i=>h.IsListIter it a i
 |false,h,it,a,i=>h.IsTupleIter it a i
def SA:Bool->Heap->Addr->Array Q6->Prop
 |true,h,a,xs=>h.IsList a xs
 |false,h,a,xs=>h.IsTuple a xs
theorem SI.at_{b:Bool}{h h':Heap}{it a:Addr}{i:Nat}(x:SI b h it a i)(k:∀o,h.get? it=some o->h'.get? it=some o):SI b h' it a i:=by
 cases b with
 |true=>obtain⟨o,e,r⟩:=x;exact⟨o,k o e,r⟩
 |false=>obtain⟨o,e,r⟩:=x;exact⟨o,k o e,r⟩
theorem SA.at_{b:Bool}{h h':Heap}{a:Addr}{xs:Array Q6}(x:SA b h a xs)(k:∀o,h.get? a=some o->h'.get? a=some o):SA b h' a xs:=by
 cases b with
 |true=>obtain⟨o,e,r⟩:=x;exact⟨o,k o e,r⟩
 |false=>obtain⟨o,e,r⟩:=x;exact⟨o,k o e,r⟩
theorem SI.obj{b:Bool}{h:Heap}{it a:Addr}{i:Nat}(x:SI b h it a i):∃o,h.get? it=some o/\∀v,o.data≠.cell v:=by
 cases b with
 |true=>obtain⟨o,e,c,d⟩:=x;exact⟨o,e,fun v z=>by rw[d]at z;cases z⟩
 |false=>obtain⟨o,e,c,d⟩:=x;exact⟨o,e,fun v z=>by rw[d]at z;cases z⟩
theorem SA.lt{b:Bool}{h:Heap}{a:Addr}{xs:Array Q6}(x:SA b h a xs):a<h.objs.size:=by
 cases b with
 |true=>obtain⟨o,e,_⟩:=x;exact QK e
 |false=>obtain⟨o,e,_⟩:=x;exact QK e
section
variable{prog:Qu}{w:Qm}{A:Z9}{E:Q6->QQ->Prop}{s:QQ}
theorem yo{I t:Addr}{j:Nat}{ys:Array Q6}{y:Q6}{Q:Q6->QQ->Prop}(hI:s.heap.IsTupleIter I t j)(hT:s.heap.IsTuple t ys)(hy:ys[j]?=some y)
  (k:∀h',h'.IsTupleIter I t (j+1)->Heap.SameBut I s.heap h'->Q y { s with heap:=h' }):wpAny (Qx prog w) A (Builtin.SmallTypes.nextOf (.ref I)) Q E s:=by
 obtain⟨oi,gi,ci,di⟩:=id hI;obtain⟨ot,gt,_,nt,dt⟩:=hT;unfold Builtin.SmallTypes.nextOf;refine Q2 (wpAny_callSpecial?_slot (name:=Str.ofString "__next__") hI.typeIs PySem.F.slot_tuple_iterator_next (wpAny_call_entry PySem.F.slot_tuple_iterator_next hI.typeIs PySem.F.entry_tuple_iterator_next ?_ (PySem.F.args_tuple_iterator_next_1 _)));show wpAny _ _ (field (.ref I) 0 >>= _) _ _ s;refine Q2 (ZJ gi di (x:=.ref t) rfl ?_);show wpAny _ _ (ite ((Value.ref t == Value.none)=true) _ _) _ _ s;rw[if_neg (by exact QC)];show wpAny _ _ (field (.ref I) 1 >>= _) _ _ s;refine Q2 (ZJ gi di (x:=.int j 0) rfl ?_);show wpAny _ _ (seqItems? (.ref t) >>= _) _ _ s;refine Q2 (wpAny_seqItems gt dt ?_);simp only[hy,Zv];refine Q2 (wpAny_setField gi di (by simp) (Q8 ⟨y,rfl,Q8 (k _ ⟨_,Zx _ gi (Obj.isFreed_of_fields (Obj.data_mapFields di _)),(Obj.cls_mapFields ..).trans ci,?_⟩ (Heap.SameBut.update ..))⟩));rw[Obj.data_mapFields di];simp[rawInt]
theorem nQ{I t:Addr}{j:Nat}{ys:Array Q6}{Q:Q6->QQ->Prop}(hh:A.handled=none)(hI:s.heap.IsTupleIter I t j)(hT:s.heap.IsTuple t ys)(hy:ys[j]?=none)
  (k:∀h' e,Heap.ExtBut I s.heap h'->(∃o,h'.get? e=some o/\o.cls=.type "StopIteration")->E (.ref e) { s with heap:=h' }):wpAny (Qx prog w) A (Builtin.SmallTypes.nextOf (.ref I)) Q E s:=by
 obtain⟨oi,gi,ci,di⟩:=id hI;obtain⟨ot,gt,_,nt,dt⟩:=hT;unfold Builtin.SmallTypes.nextOf;refine Q2 (wpAny_callSpecial?_slot (name:=Str.ofString "__next__") hI.typeIs PySem.F.slot_tuple_iterator_next (wpAny_call_entry PySem.F.slot_tuple_iterator_next hI.typeIs PySem.F.entry_tuple_iterator_next ?_ (PySem.F.args_tuple_iterator_next_1 _)));show wpAny _ _ (field (.ref I) 0 >>= _) _ _ s;refine Q2 (ZJ gi di (x:=.ref t) rfl ?_);show wpAny _ _ (ite ((Value.ref t == Value.none)=true) _ _) _ _ s;rw[if_neg (by exact QC)];show wpAny _ _ (field (.ref I) 1 >>= _) _ _ s;refine Q2 (ZJ gi di (x:=.int j 0) rfl ?_);show wpAny _ _ (seqItems? (.ref t) >>= _) _ _ s;refine Q2 (wpAny_seqItems gt dt ?_);simp only[hy,Zv];refine Q2 (wpAny_rule (Q2 (wpAny_setField gi di (by simp) ?_)));show wpAny _ _ (newExc (.type "StopIteration") [] >>= _) _ _ _;simp only[newExc,newTuple];refine Q2 ?_;refine Q2 (wpAny_newObj_type ?_ (by(size_fits)));refine Q2 (m:=firstArgMember _ _) (wpAny_of_eq (a:=Value.none) (by simp only[firstArgMember]<;>rfl) ?_);refine wpAny_newObj_type ?_ (by(size_fits));simp only[raiseNew];refine Q2 (wpAny_handled ?_);rw[show A.in1.handled=none from hh];exact Q2 (Q8 (wpAny_throw (k _ _ (((Heap.SameBut.update ..).extBut.push _).push _) ⟨_,QV _ rfl,rfl⟩)))
theorem pG{b:Bool}{I t:Addr}{j:Nat}{ys:Array Q6}{y:Q6}{Q:Q6->QQ->Prop}(hI:SI b s.heap I t j)(hT:SA b s.heap t ys)(hy:ys[j]?=some y)
  (k:∀h',SI b h' I t (j+1)->Heap.SameBut I s.heap h'->Q y { s with heap:=h' }):wpAny (Qx prog w) A (Builtin.SmallTypes.nextOf (.ref I)) Q E s:=by
 cases b with
 |true=>exact wpAny_nextOf_list_item hI hT hy k
 |false=>exact yo hI hT hy k
theorem j3{b:Bool}{I t:Addr}{j:Nat}{ys:Array Q6}{Q:Q6->QQ->Prop}(hh:A.handled=none)(hI:SI b s.heap I t j)(hT:SA b s.heap t ys)(hy:ys[j]?=none)
  (k:∀h' e,Heap.ExtBut I s.heap h'->(∃o,h'.get? e=some o/\o.cls=.type "StopIteration")->E (.ref e) { s with heap:=h' }):wpAny (Qx prog w) A (Builtin.SmallTypes.nextOf (.ref I)) Q E s:=by
 cases b with
 |true=>exact wpAny_nextOf_list_end hh hI hT hy k
 |false=>exact nQ hh hI hT hy k
structure ZA(z I O i j a c:Addr):Prop where
 Iz:I≠z
 Oz:O≠z
 iz:i≠z
 jz:j≠z
 IO:I≠O
 Ii:I≠i
 Ij:I≠j
 Oi:O≠i
 Oj:O≠j
 ij:i≠j
 az:a≠z
 aO:a≠O
 ai:a≠i
 aj:a≠j
 cz:c≠z
 cO:c≠O
 ci:c≠i
 cj:c≠j
structure ZSt(b d:Bool)(h:Heap)(z I O i j a c:Addr)(f:Q6)(n:Nat):Prop where
 hz:IsZip h z I O f
 hI:IsPair h I (.ref i) (.ref j)
 hO:∃p q,IsPair h O p q
 h1:SI b h i a n
 h2:SI d h j c n
theorem ZSt.at_{b d:Bool}{h h':Heap}{z I O i j a c:Addr}{f:Q6}{n:Nat}(x:ZSt b d h z I O i j a c f n)(k:∀e∈[z,I,O,i,j],∀o,h.get? e=some o->h'.get? e=some o):ZSt b d h' z I O i j a c f n:=by
 obtain⟨p,q,hO⟩:=x.hO;exact⟨k z (by simp) _ x.hz,k I (by simp) _ x.hI,⟨p,q,k O (by simp) _ hO⟩,x.h1.at_ fun o e=>k i (by simp) o e,x.h2.at_ fun o e=>k j (by simp) o e⟩
theorem xR{b d:Bool}{z I O i j a c:Addr}{n:Nat}{xs ys:Array Q6}{x y:Q6}{Q:Q6->QQ->Prop}(D:ZA z I O i j a c)(st:ZSt b d s.heap z I O i j a c .none n)(ha:SA b s.heap a xs)(hc:SA d s.heap c ys)(hx:xs[n]?=some x)(hy:ys[n]?=some y)
  (k:∀h',ZSt b d h' z I O i j a c (rawInt s.heap.objs.size) (n+1)->IsPair h' s.heap.objs.size x y->
   (∀e o,e≠z->e≠O->e≠i->e≠j->s.heap.get? e=some o->h'.get? e=some o)->Q (.ref s.heap.objs.size) { s with heap:=h' }) :
  wpAny (Qx prog w) A (Builtin.«zip.__next__» ⟨[.ref z],[]⟩) (fun fin s'=>∃v,fin=.done (.ret v)/\Q v s') E s:=by
 obtain⟨hz,hI,⟨p,q,hO⟩,h1,h2⟩:=st;show wpAny _ _ (field (.ref z) 2 >>= _) _ _ _;refine Q2 (ZJ hz rfl (x:=.bool false) rfl ?_);show wpAny _ _ (field (.ref z) 3 >>= _) _ _ _;refine Q2 (ZJ hz rfl (x:=.ref I) rfl ?_);refine Q2 (wpAny_seqItems hI rfl ?_);show wpAny _ _ (Builtin.SmallTypes.ownedTupleIsFree (.ref z) >>= _) _ _ _;refine Q2 ?_;unfold Builtin.SmallTypes.ownedTupleIsFree;refine Q2 (ZJ hz rfl (x:=.none) rfl (Q8 ?_));simp only[if_true];refine Q2 (wpAny_rule (Q2 (ZJ hz rfl (x:=.ref O) rfl (Q2 (wpAny_setField_rec hz (by simp) fun g1 z1 s1=>Q2 ?_)))))
 replace z1:IsZip g1 z I O .ellipsis:=z1
 simp only[List.zipIdx_nil,List.zipIdx_cons,List.forIn_nil,List.forIn_cons];refine Q2 (Q2 (wpAny_onRaise ?_));show wpAny _ _ (Builtin.SmallTypes.nextOf (.ref i) >>= _) _ _ _;refine Q2 (pG (b:=b) (h1.at_ fun o e=>s1.extBut _ _ D.iz e) (ha.at_ fun o e=>s1.extBut _ _ D.az e) hx fun g2 i2 s2=>Q8 ?_);have O2:IsPair g2 O p q:=s2.extBut _ _ D.Oi (s1.extBut _ _ D.Oz hO);refine Q2 (wpAny_seqItems O2 rfl (Q2 (wpAny_updateSeq_pair O2 fun g3 O3 s3=>?_)))
 replace O3:IsPair g3 O x q:=O3
 refine Q2 (wpAny_letGo (Q8 (Q2 (Q2 (wpAny_onRaise ?_)))));show wpAny _ _ (Builtin.SmallTypes.nextOf (.ref j) >>= _) _ _ _;have up3:∀e o,e≠z->e≠i->e≠O->s.heap.get? e=some o->g3.get? e=some o:=fun e o u1 u2 u3 q=>s3.extBut _ _ u3 (s2.extBut _ _ u2 (s1.extBut _ _ u1 q));refine Q2 (pG (b:=d) (h2.at_ fun o e=>up3 _ _ D.jz D.ij.symm D.Oj.symm e) (hc.at_ fun o e=>up3 _ _ D.cz D.ci D.cO e) hy fun g4 j4 s4=>Q8 ?_);have O4:IsPair g4 O x q:=s4.extBut _ _ D.Oj O3;refine Q2 (wpAny_seqItems O4 rfl (Q2 (wpAny_updateSeq_pair O4 fun g5 O5 s5=>?_)))
 replace O5:IsPair g5 O x y:=O5
 refine Q2 (wpAny_letGo (Q8 (Q8 (Q2 (wpAny_seqItems O5 rfl (Q2 (wpAny_newTuple ?_)))))));have sz:g5.objs.size=s.heap.objs.size:=by rw[s5.1,s4.1,s3.1,s2.1,s1.1]
 have z5:IsZip g5 z I O .ellipsis:=s5.extBut _ _ D.Oz.symm (s4.extBut _ _ D.jz.symm (s3.extBut _ _ D.Oz.symm (s2.extBut _ _ D.iz.symm z1)));have up5:∀e o,e≠z->e≠O->e≠i->e≠j->s.heap.get? e=some o->g5.get? e=some o:=fun e o u1 u2 u3 u4 q=>s5.extBut _ _ u2 (s4.extBut _ _ u4 (up3 e o u1 u3 u2 q));have i5:SI b g5 i a (n+1):=i2.at_ fun o e=>s5.extBut _ _ D.Oi.symm (s4.extBut _ _ D.ij (s3.extBut _ _ D.Oi.symm e));have j5:SI d g5 j c (n+1):=j4.at_ fun o e=>s5.extBut _ _ D.Oj.symm e;have zlt:z<g5.objs.size:=QK z5;show wpAny _ _ (Builtin.SmallTypes.ownedTupleHandOut (.ref z) (.ref g5.objs.size) >>= _) _ _ _;refine Q2 ?_;unfold Builtin.SmallTypes.ownedTupleHandOut;have z6:IsZip (g5.push { cls:=.type "tuple",data:=.seq #[x,y] }) z I O .ellipsis:=Q4 _ z5;refine Q2 (wpAny_setField_rec z6 (by simp) fun g7 z7 s7=>?_)
 replace z7:IsZip g7 z I O (rawInt g5.objs.size):=z7
 refine wpAny_setField_rec z7 (by simp) fun g8 z8 s8=>?_
 replace z8:IsZip g8 z I O (rawInt g5.objs.size):=z8
 have up8:∀e o,e≠z->g5.get? e=some o->g8.get? e=some o:=fun e o u1 q=>s8.extBut _ _ u1 (s7.extBut _ _ u1 (Q4 _ q));have T8:IsPair g8 g5.objs.size x y:=s8.extBut _ _ (Nat.ne_of_gt zlt) (s7.extBut _ _ (Nat.ne_of_gt zlt) (QV _ rfl));rw[sz]at z8 T8;refine Q8 ⟨_,rfl,?_⟩;show Q (.ref g5.objs.size) _;rw[sz];exact k g8 ⟨z8,up8 _ _ D.Iz (up5 _ _ D.Iz D.IO D.Ii D.Ij hI),⟨x,y,up8 _ _ D.Oz O5⟩,i5.at_ fun o e=>up8 _ _ D.iz e,j5.at_ fun o e=>up8 _ _ D.jz e⟩ T8 fun e o u1 u2 u3 u4 q=>up8 e o u1 (up5 e o u1 u2 u3 u4 q)
theorem xS{b d:Bool}{z I O i j a c:Addr}{n:Nat}{xs ys:Array Q6}{Q:PySem.Fin->QQ->Prop}(hh:A.handled=none)(D:ZA z I O i j a c)(st:ZSt b d s.heap z I O i j a c .none n)(ha:SA b s.heap a xs)(hc:SA d s.heap c ys)(hn:xs[n]?=none\/ys[n]?=none)
  (k:∀h' e,(∀c o,c≠z->c≠O->c≠i->c≠j->s.heap.get? c=some o->h'.get? c=some o)->(∃o,h'.get? e=some o/\o.cls=.type "StopIteration")->E (.ref e) { s with heap:=h' }) :
  wpAny (Qx prog w) A (Builtin.«zip.__next__» ⟨[.ref z],[]⟩) Q E s:=by
 obtain⟨hz,hI,⟨p,q,hO⟩,h1,h2⟩:=st;show wpAny _ _ (field (.ref z) 2 >>= _) _ _ _;refine Q2 (ZJ hz rfl (x:=.bool false) rfl ?_);show wpAny _ _ (field (.ref z) 3 >>= _) _ _ _;refine Q2 (ZJ hz rfl (x:=.ref I) rfl ?_);refine Q2 (wpAny_seqItems hI rfl ?_);show wpAny _ _ (Builtin.SmallTypes.ownedTupleIsFree (.ref z) >>= _) _ _ _;refine Q2 ?_;unfold Builtin.SmallTypes.ownedTupleIsFree;refine Q2 (ZJ hz rfl (x:=.none) rfl (Q8 ?_));simp only[if_true];refine Q2 (wpAny_rule (Q2 (ZJ hz rfl (x:=.ref O) rfl (Q2 (wpAny_setField_rec hz (by simp) fun g1 z1 s1=>Q2 ?_)))))
 replace z1:IsZip g1 z I O .ellipsis:=z1
 simp only[List.zipIdx_nil,List.zipIdx_cons,List.forIn_nil,List.forIn_cons];refine Q2 (Q2 (wpAny_onRaise ?_));show wpAny _ _ (Builtin.SmallTypes.nextOf (.ref i) >>= _) _ _ _;cases hx:xs[n]? with
 |none=>
  refine Q2 (j3 (b:=b) hh (h1.at_ fun o e=>s1.extBut _ _ D.iz e) (ha.at_ fun o e=>s1.extBut _ _ D.az e) hx fun g2 e s2 he=>?_);obtain⟨oe,ge,ce⟩:=he;have z2:IsZip g2 z I O .ellipsis:=s2 _ _ D.iz.symm z1;have nez:e≠z:=fun v=>by subst v;rw[z2]at ge;cases ge;simp at ce
  exact wpAny_setField_rec z2 (by simp) fun g3 _ s3=>k g3 e (fun c o u1 _ u3 _ v=>s3.extBut _ _ u1 (s2 _ _ u3 (s1.extBut _ _ u1 v))) ⟨oe,s3.extBut _ _ nez ge,ce⟩
 |some x=>
  have hy:ys[n]?=none:=by rcases hn with v|v;rw[hx]at v;cases v;exact v
  refine Q2 (pG (b:=b) (h1.at_ fun o e=>s1.extBut _ _ D.iz e) (ha.at_ fun o e=>s1.extBut _ _ D.az e) hx fun g2 i2 s2=>Q8 ?_);have O2:IsPair g2 O p q:=s2.extBut _ _ D.Oi (s1.extBut _ _ D.Oz hO);refine Q2 (wpAny_seqItems O2 rfl (Q2 (wpAny_updateSeq_pair O2 fun g3 O3 s3=>?_)));refine Q2 (wpAny_letGo (Q8 (Q2 (Q2 (wpAny_onRaise ?_)))));show wpAny _ _ (Builtin.SmallTypes.nextOf (.ref j) >>= _) _ _ _;have up3:∀e o,e≠z->e≠i->e≠O->s.heap.get? e=some o->g3.get? e=some o:=fun e o u1 u2 u3 q=>s3.extBut _ _ u3 (s2.extBut _ _ u2 (s1.extBut _ _ u1 q));refine Q2 (j3 (b:=d) hh (h2.at_ fun o e=>up3 _ _ D.jz D.ij.symm D.Oj.symm e) (hc.at_ fun o e=>up3 _ _ D.cz D.ci D.cO e) hy fun g4 e s4 he=>?_);obtain⟨oe,ge,ce⟩:=he;have z4:IsZip g4 z I O .ellipsis:=s4 _ _ D.jz.symm (s3.extBut _ _ D.Oz.symm (s2.extBut _ _ D.iz.symm z1));have nez:e≠z:=fun v=>by subst v;rw[z4]at ge;cases ge;simp at ce
  exact wpAny_setField_rec z4 (by simp) fun g5 _ s5=>k g5 e (fun c o u1 u2 u3 u4 v=>s5.extBut _ _ u1 (s4 _ _ u4 (up3 c o u1 u3 u2 v))) ⟨oe,s5.extBut _ _ nez ge,ce⟩
theorem xT{b d:Bool}{z I O i j a c:Addr}{n:Nat}{xs ys:Array Q6}{x y:Q6}{Q:Option Q6->QQ->Prop}(D:ZA z I O i j a c)(st:ZSt b d s.heap z I O i j a c .none n)(ha:SA b s.heap a xs)(hc:SA d s.heap c ys)(hx:xs[n]?=some x)(hy:ys[n]?=some y)
  (k:∀h',ZSt b d h' z I O i j a c (rawInt s.heap.objs.size) (n+1)->IsPair h' s.heap.objs.size x y->
   (∀e o,e≠z->e≠O->e≠i->e≠j->s.heap.get? e=some o->h'.get? e=some o)->Q (some (.ref s.heap.objs.size)) { s with heap:=h' }):wpAny (Qx prog w) A (pyNext (.ref z)) Q E s:=by
 have ty:s.TypeIs (.ref z) "zip":=⟨_,st.hz,rfl⟩;unfold pyNext;exact Q2 (wpAny_attempt (wpAny_callSpecial?_slot (name:=Str.ofString "__next__") ty PySem.F.slot_zip_next (wpAny_call_entry PySem.F.slot_zip_next ty PySem.F.entry_zip_next
   (xR D st ha hc hx hy fun h' a1 a2 a3=>Q8 (k h' a1 a2 a3)) (PySem.F.args_zip_next_1 _))))
theorem AZ{b d:Bool}{z I O i j a c:Addr}{n:Nat}{xs ys:Array Q6}{Q:Option Q6->QQ->Prop}(hh:A.handled=none)(D:ZA z I O i j a c)(st:ZSt b d s.heap z I O i j a c .none n)(ha:SA b s.heap a xs)(hc:SA d s.heap c ys)(hn:xs[n]?=none\/ys[n]?=none)
  (k:∀h',(∀c o,c≠z->c≠O->c≠i->c≠j->s.heap.get? c=some o->h'.get? c=some o)->Q none { s with heap:=h' }):wpAny (Qx prog w) A (pyNext (.ref z)) Q E s:=by
 have ty:s.TypeIs (.ref z) "zip":=⟨_,st.hz,rfl⟩;unfold pyNext;refine Q2 (wpAny_attempt (wpAny_callSpecial?_slot (name:=Str.ofString "__next__") ty PySem.F.slot_zip_next (wpAny_call_entry PySem.F.slot_zip_next ty PySem.F.entry_zip_next
   (xS hh D st ha hc hn fun h' e hk he=>?_) (PySem.F.args_zip_next_1 _))))
 obtain⟨o,ho,co⟩:=he;exact Q2 (wpAny_isInstance (T:="StopIteration") (b:=true) ⟨o,ho,co⟩ isSubtype_stop (Q8 (k _ hk)))
def itO(b:Bool)(a:Addr):Obj:={ cls:=.type (if b then "list_iterator" else "tuple_iterator"),data:=.fields #[.ref a,.int 0 0] }
abbrev zG2(b d:Bool)(h:Heap)(a c:Addr):Heap:=(h.push (itO b a)).push (itO d c)
abbrev zG4(b d:Bool)(h:Heap)(a c:Addr):Heap:=((zG2 b d h a c).push { cls:=.type "tuple",data:=.seq #[.ref h.objs.size,.ref (h.push (itO b a)).objs.size] }).push { cls:=.type "tuple",data:=.seq #[.none,.none] }
abbrev zG5(b d:Bool)(h:Heap)(a c:Addr):Heap:=(zG4 b d h a c).push { cls:=.type "zip",data:=.fields #[.none,.bool false,.bool false,.ref (zG2 b d h a c).objs.size,.ref ((zG2 b d h a c).push { cls:=.type "tuple",data:=.seq #[.ref h.objs.size,.ref (h.push (itO b a)).objs.size] }).objs.size] }
theorem AY (b d : Bool) (a c : Addr) (xs ys : Array Q6) : Meets (Builtin.«zip.__new__» ⟨[.type "zip", .ref a, .ref c], []⟩) (fun _ R s => SA b s.heap a xs /\ SA d s.heap c ys /\
   R (.ok (.ret (.ref (zG4 b d s.heap a c).objs.size))) { s with heap:=zG5 b d s.heap a c }):=
 .of_wp fun prog w A R s q=>by
  obtain⟨hp,g,dr,tk,os⟩:=s;obtain⟨p1,p2,q⟩:=q;have sb:=sub_zip;cases b<;>cases d
  ·have e1:Heap.IsTuple (Shared.heap ⟨hp,g,dr,tk,os⟩) a xs:=p1;have e2:Heap.IsTuple (Shared.heap ⟨hp.push { cls:=.type "tuple_iterator",data:=.fields #[.ref a,.int 0 0] },g,dr,tk,os⟩) c ys:=SA.at_ (b:=false) p2 fun o e=>Q4 _ e
   wp_walk using wpAny_pyIter_tuple e1,wpAny_pyIter_tuple e2
   exact⟨_,rfl,q⟩
  ·have e1:Heap.IsTuple (Shared.heap ⟨hp,g,dr,tk,os⟩) a xs:=p1;have e2:Heap.IsList (Shared.heap ⟨hp.push { cls:=.type "tuple_iterator",data:=.fields #[.ref a,.int 0 0] },g,dr,tk,os⟩) c ys:=SA.at_ (b:=true) p2 fun o e=>Q4 _ e
   wp_walk using wpAny_pyIter_tuple e1,wpAny_pyIter_list e2
   exact⟨_,rfl,q⟩
  ·have e1:Heap.IsList (Shared.heap ⟨hp,g,dr,tk,os⟩) a xs:=p1;have e2:Heap.IsTuple (Shared.heap ⟨hp.push { cls:=.type "list_iterator",data:=.fields #[.ref a,.int 0 0] },g,dr,tk,os⟩) c ys:=SA.at_ (b:=false) p2 fun o e=>Q4 _ e
   wp_walk using wpAny_pyIter_list e1,wpAny_pyIter_tuple e2
   exact⟨_,rfl,q⟩
  ·have e1:Heap.IsList (Shared.heap ⟨hp,g,dr,tk,os⟩) a xs:=p1;have e2:Heap.IsList (Shared.heap ⟨hp.push { cls:=.type "list_iterator",data:=.fields #[.ref a,.int 0 0] },g,dr,tk,os⟩) c ys:=SA.at_ (b:=true) p2 fun o e=>Q4 _ e
   wp_walk using wpAny_pyIter_list e1,wpAny_pyIter_list e2
   exact⟨_,rfl,q⟩
theorem AG{b:Bool}{a i:Addr}{h:Heap}(e:h.get? i=some (itO b a)):SI b h i a 0:=by
 cases b with
 |true=>exact⟨_,e,rfl,rfl⟩
 |false=>exact⟨_,e,rfl,rfl⟩
theorem xU{b d:Bool}{a c:Addr}{xs ys:Array Q6}{Q:Q6->QQ->Prop}(ha:SA b s.heap a xs)(hc:SA d s.heap c ys)
  (k:∀h' z I O i j,ZA z I O i j a c->ZSt b d h' z I O i j a c .none 0->(∀e∈[z,I,O,i,j],s.heap.objs.size<=e)->(∀e o,s.heap.get? e=some o->h'.get? e=some o)->Q (.ref z) { s with heap:=h' }) :
  wpAny (Qx prog w) A (call (.type "zip") [.ref a,.ref c]) Q E s:=by
 refine callType_new PySem.F.called_zip (by decide) (PySem.F.typeCall_zip_2 _ _) (PySem.F.newCall_zip_2 _ _) (fun obj=>PySem.F.args_object_init_3 obj _ _) PySem.F.entry_zip_new (AY b d a c xs ys) ⟨ha,hc,?_⟩;have n1:(s.heap.push (itO b a)).objs.size=s.heap.objs.size+1:=ZI ..;have n2:(zG2 b d s.heap a c).objs.size=s.heap.objs.size+2:=by rw[ZI,n1]
 have n3:((zG2 b d s.heap a c).push { cls:=.type "tuple",data:=.seq #[.ref s.heap.objs.size,.ref (s.heap.push (itO b a)).objs.size] }).objs.size=s.heap.objs.size+3:=by rw[ZI,n2]
 have n4:(zG4 b d s.heap a c).objs.size=s.heap.objs.size+4:=by rw[ZI,n3]
 have p5:(zG5 b d s.heap a c).get? (zG4 b d s.heap a c).objs.size=some _:=QV _ rfl;have p4:(zG5 b d s.heap a c).get? ((zG2 b d s.heap a c).push { cls:=.type "tuple",data:=.seq #[.ref s.heap.objs.size,.ref (s.heap.push (itO b a)).objs.size] }).objs.size=some _:=Q4 _ (QV _ rfl);have p3:(zG5 b d s.heap a c).get? (zG2 b d s.heap a c).objs.size=some _:=Q4 _ (Q4 _ (QV _ rfl));have p2:(zG5 b d s.heap a c).get? (s.heap.push (itO b a)).objs.size=some _:=Q4 _ (Q4 _ (Q4 _ (QV _ rfl)));have p1:(zG5 b d s.heap a c).get? s.heap.objs.size=some _:=Q4 _ (Q4 _ (Q4 _ (Q4 _ (QV _ rfl))));have la:=ha.lt;have lc:=hc.lt;rw[n4,n2,n3]at p5;rw[n2,n1]at p3;rw[n3]at p4;rw[n1]at p2;show _/\_;rw[n4];refine⟨⟨_,p5,rfl⟩,k _ (s.heap.objs.size+4) (s.heap.objs.size+2) (s.heap.objs.size+3) s.heap.objs.size (s.heap.objs.size+1) ⟨?_,?_,?_,?_,?_,?_,?_,?_,?_,?_,?_,?_,?_,?_,?_,?_,?_,?_⟩ ⟨p5,p3,⟨_,_,p4⟩,AG p1,AG p2⟩ (fun e he=>?_) fun e o x=>Q4 _ (Q4 _ (Q4 _ (Q4 _ (Q4 _ x))))⟩;case refine_19=>
  simp only[QL,ZF,or_false]at he;rcases he with e1|e1|e1|e1|e1<;>rw[e1]<;>first|exact QJ _|exact Nat.le_add_right _ _
 all_goals first|exact Qj (by omega)|exact Nat.ne_of_gt (by omega)|exact Qj (Qy la (by omega))|exact Qj (Qy lc (by omega))
end
def Sq(K:Q5):Bool->Hp->Addr->List V->Prop
 |true,H,a,xs=>SqL K H a xs
 |false,H,a,xs=>SqT K H a xs
section
variable{X:Cx}{pins:List (Addr×Obj)}{σ:L2.St}{H:Hp}{s:QQ}{h':Heap}
theorem _root_.L2.Inv.turnedL{t':Nat}{ch:List Addr}(I:Inv X pins σ H s)(k:∀b o,b∉ch->s.heap.get? b=some o->h'.get? b=some o)(hf:∀b∈ch,tW X pins H b):Inv X pins σ H { s with heap:=h',toks:=t' }:=by
 have nit:∀b u,H b=some u->b∉ch:=fun b u e z=>by rw[(hf b z).1]at e;cases e
 refine I.step (g':=s.gens) (d':=s.drawn) (ch:=ch) (fun b hb=>⟨(hf b hb).2.2.2.1,(hf b hb).2.1,(hf b hb).2.2.2.2.1,(hf b hb).2.2.2.2.2⟩) (fun b o _ _ hc e _=>k b o hc e) (fun b o _ _ hc e _=>⟨o.slots,k b o hc e⟩) (fun _ _ _ _ n=>n)
  (fun b o hc e=>⟨o,k b o hc e⟩) (fun _ _ e=>e) (fun _ _ _ e=>e) (fun b ps e=>⟨#[],by rw[e];simp⟩) (fun m hm=>?_) (fun b u e=>?_) I.bare
 ·obtain⟨o,es,ep,ho,r⟩:=hm;exact⟨o,es,ep,k _ o (fun z=>(hf _ z).2.1 rfl) ho,r⟩
 ·refine(I.hok b u e).stay (fun c v hc q=>k c v ?_ q) (fun _ q=>q) fun _ _ q=>q;rcases hc with z|z
  ·rw[z];exact nit b u e
  ·exact nit c _ z
theorem _root_.L2.Inv.sq{b:Bool}{a:Addr}{xs:List V}(I:Inv X pins σ H s)(h:Sq X.K b H a xs):∃its:List Q6,bh xs its/\SA b s.heap a its.toArray:=by
 cases b with
 |true=>obtain⟨its,r,p,_⟩:=I.list h;exact⟨its,r,p.isList⟩
 |false=>obtain⟨its,r,p,_⟩:=I.tuple h;exact⟨its,r,p⟩
theorem _root_.L2.Inv.sq_inj{b:Bool}{a:Addr}{xs ys:List V}(I:Inv X pins σ H s)(h:Sq X.K b H a xs)(h2:Sq X.K b H a ys):xs=ys:=by
 cases b with
 |true=>exact I.list_inj h h2
 |false=>exact I.tuple_inj h h2
end
def Itz(K:Q5)(b d:Bool)(a c:Addr):It:=
  ⟨fun i H=>∃xs ys x y,Sq K b H a xs/\Sq K d H c ys/\xs[i]?=some x/\ys[i]?=some y,
   fun i H v H'=>∃p x y,v=.ref p/\H p=none/\H'=upd H p (.tup [x,y])/\(∀xs,Sq K b H a xs->xs[i]?=some x)/\∀ys,Sq K d H c ys->ys[i]?=some y,
   fun i H=>∃xs ys,Sq K b H a xs/\Sq K d H c ys/\(xs.length<=i\/ys.length<=i)⟩
theorem yK{h:Heap}{ob o:Obj}{e:Addr}(q:(h.push ob).get? e=some o)(ne:e≠h.objs.size):h.get? e=some o:=(Heap.get?_push_ne h e ob ne).symm.trans q
theorem yW{P:Qu}{w:Qm}{H:Hp}{h:Heap}{a:Addr}{x y:V}{u v:Q6}(e:h.get? a=some { cls:=.type "tuple",data:=.seq #[u,v] })(rx:bX x u)(ry:bX y v):bR P w H h a (.tup [x,y]):=
 ⟨by show 2<=QN;decide,[u,v],.cons rx (.cons ry .nil),⟨_,e,⟨rfl,rfl⟩,_,rfl⟩⟩
theorem yn{P:Qu}{w:Qm}{K:Q5}{es:List Qq}{k:Nat}{pos:Pos}{b d:Bool}{z I O i j a c:Addr}(D:ZA z I O i j a c) :
  Di P w K (.Tuple es k pos) (Itz K b d a c) [z,I,O,i,j] z (fun n h=>ZSt b d h z I O i j a c .none n) where
 mem:=by simp
 obj:=fun n h st e he=>by
  obtain⟨hz,hI,⟨p,q,hO⟩,h1,h2⟩:=st;simp only[QL,ZF,or_false]at he;rcases he with rfl|rfl|rfl|rfl|rfl
  ·exact⟨_,hz,fun v q=>by cases q⟩
  ·exact⟨_,hI,fun v q=>by cases q⟩
  ·exact⟨_,hO,fun v q=>by cases q⟩
  ·exact h1.obj
  ·exact h2.obj
 keep:=fun n h h' st kp=>st.at_ kp
 item:=by
  intro X hP hw hK hc n pins s σ H E Iv hf st hg;subst hP hw hK;obtain⟨xs,ys,x,y,qa,qc,hx,hy⟩:=hg;obtain⟨ia,ra,sa⟩:=Iv.sq qa;obtain⟨ic,rc,sc⟩:=Iv.sq qc;obtain⟨u,hu,ru⟩:=ra.get hx;obtain⟨v,hv,rv⟩:=rc.get hy;refine xT D st sa sc (x:=u) (y:=v) (by simpa using hu) (by simpa using hv) fun h1 st1 T1 up1=>⟨_,rfl,wpAny_letOwnedTupleGo_zip st1.hz fun h2 z2 s2=>?_⟩;have hfr:H s.heap.objs.size=none:=Iv.hok.fresh (QJ _);have sz:∀e∈[z,I,O,i,j],e<s.heap.objs.size:=fun e he=>by
   simp only[QL,ZF,or_false]at he;obtain⟨hz,hI,⟨p,q,hO⟩,h1',h2'⟩:=st;rcases he with rfl|rfl|rfl|rfl|rfl
   ·exact QK hz
   ·exact QK hI
   ·exact QK hO
   ·obtain⟨o,e,_⟩:=h1'.obj;exact QK e
   ·obtain⟨o,e,_⟩:=h2'.obj;exact QK e
  have T2:h2.get? s.heap.objs.size=some { cls:=.type "tuple",data:=.seq #[u,v] }:=s2.extBut _ _ (Nat.ne_of_gt (sz z (by simp))) T1;have I1:Inv X pins σ (upd H s.heap.objs.size (.tup [x,y])) { s with heap:=s.heap.push { cls:=.type "tuple",data:=.seq #[u,v] },toks:=s.toks }:=
   Iv.laid (fun b o e=>Q4 _ e) (QJ _) (yW (QV _ rfl) ru rv)
  have fr2:∀e∈[z,I,O,i,j],(upd H s.heap.objs.size (.tup [x,y])) e=none:=fun e he=>by rw[bc (Qj (sz e he))];exact(hf e he).1
  have I2:Inv X pins σ (upd H s.heap.objs.size (.tup [x,y])) { s with heap:=h2,toks:=s.toks }:=
   Inv.turnedL (s:={ s with heap:=s.heap.push { cls:=.type "tuple",data:=.seq #[u,v] },toks:=s.toks }) (h':=h2) (t':=s.toks) (ch:=[z,I,O,i,j]) I1 (fun e o hn q=>by
    by_cases ce:e=s.heap.objs.size
    ·subst ce;have q':(s.heap.push { cls:=.type "tuple",data:=.seq #[u,v] }).get? s.heap.objs.size=some o:=q;rw[QV _ rfl]at q';cases q';exact T2
    ·have q':s.heap.get? e=some o:=yK q ce;simp only[QL,ZF,or_false,not_or]at hn;exact s2.extBut _ _ hn.1 (up1 e o hn.1 hn.2.2.1 hn.2.2.2.1 hn.2.2.2.2 q')) fun e he=>⟨fr2 e he,(hf e he).2⟩
  refine⟨.ref s.heap.objs.size,_,I2,rfl,⟨_,x,y,rfl,hfr,rfl,fun xs' q=>by rw[Iv.sq_inj q qa];exact hx,fun ys' q=>by rw[Iv.sq_inj q qc];exact hy⟩,?_,fr2⟩;obtain⟨_,hI1,⟨p,q,hO1⟩,i1,j1⟩:=st1;exact⟨z2,s2.extBut _ _ D.Iz hI1,⟨p,q,s2.extBut _ _ D.Oz hO1⟩,i1.at_ fun o e=>s2.extBut _ _ D.iz e,j1.at_ fun o e=>s2.extBut _ _ D.jz e⟩
 done:=by
  intro X hP hw hK hc n pins s σ H E Iv hf st hg;subst hP hw hK;obtain⟨xs,ys,qa,qc,hx⟩:=hg;obtain⟨ia,ra,sa⟩:=Iv.sq qa;obtain⟨ic,rc,sc⟩:=Iv.sq qc;have la:=ra.length;have lc:=rc.length;refine AZ (Iv.ok.hd hc) D st sa sc (hx.elim (fun q=>.inl (by simp;omega)) fun q=>.inr (by simp;omega)) fun h1 up1=>⟨rfl,?_⟩;exact Iv.turnedL (t':=s.toks) (ch:=[z,I,O,i,j]) (fun e o hn q=>by
   simp only[QL,ZF,or_false,not_or]at hn;exact up1 e o hn.1 hn.2.2.1 hn.2.2.2.1 hn.2.2.2.2 q) hf
 self:=fun _ _ _ _ _ st h=>wpAny_pyIter_zip st.hz h
def Jh(K:Q5)(ta:TA):TI:=fun σ H R=>ta σ H fun vs H2=>∃b d a c,vs=[.ref a,.ref c]/\(∃xs,Sq K b H2 a xs)/\(∃ys,Sq K d H2 c ys)/\R (Itz K b d a c) H2
theorem zR:Z7 "zip"=some (.type "zip"):=rfl
section
variable{X:Cx}{pos:Pos}
theorem Ec{es:List Qq}{k:Nat}{tp p:Pos}{a c:Qq}{ta:TA}(hg:Gl X "zip")(hm:X.mg "zip"=none)(ha:WA X [a,c] ta)
  (hs:QR [a,c] X.env=(false,eval a X.env)::QR [c] X.env:=by rfl) (hpl:(ZD pos (QR [c] X.env)).any (·.1)=false:=by rfl):WI X (.Tuple es k tp) (.Call (.Name "zip" p) [a,c] [] pos) (Jh X.K ta):=by
 constructor;intro pins s σ H R I h;refine wpAny_Call_Name_kw (jy I hg hm OP.zR ?_);refine PyProof.Rows.callWith_type1 (thn (ha.h pos pins s σ H _ I h) fun us s1 hz=>?_) hs hpl;obtain⟨vs,H1,I1,r1,q1⟩:=hz;obtain⟨b,d,aa,cc,rfl,⟨xs,qa⟩,⟨ys,qc⟩,q⟩:=q1;obtain⟨u,v,rfl,ru,rv⟩:=pC r1;cases ru;cases rv;obtain⟨ia,ra,sa⟩:=I1.sq qa;obtain⟨ic,rc,sc⟩:=I1.sq qc;refine xU sa sc fun h1 z II O i j D st hi up=>wpAny_pyIter_zip st.hz ⟨z,[z,II,O,i,j],_,_,H1,rfl,I1.kept (t':=s1.toks) up,yn D,st,fun e he=>?_,q⟩;exact I1.fpOk (hi e he) (I1.hok.fresh (hi e he))
def yz:U->Sto->Option (List U×(Sto->Prop))
 |.tup us,_=>some (us,fun _=>True)
 |.ref l,S=>match S[l]? with
  |some (.lst us)=>some (us,fun S=>S[l]?=some (.lst us))
  |_=>none
 |_,_=>none
def sN(us ws:List U):List U:=(us.zip ws).map fun p=>.tup [p.1,p.2]
def FU(ca cb:CE):CI:=fun ρ S=>(ca ρ S).bind fun p=>(cb ρ p.2).bind fun q=>(yz p.1 q.2).bind fun x=>(yz q.1 q.2).bind fun y=>some (sN x.1 y.1,fun S=>x.2 S/\y.2 S,q.2)
theorem Ak{K:Q5}{m:List Addr}{S:Sto}{H:Hp}{u:U}{v:V}{us:List U}{ok:Sto->Prop}(sr:Sr K m S H)(iu:Is K m H v u)(h:yz u S=some (us,ok)) :
  ∃b a,v=.ref a/\(∃xs,Sq K b H a xs)/\∀m2 S2 H2,Ext K m H m2 H2->Sr K m2 S2 H2->ok S2->∃xs,Sq K b H2 a xs/\IsL K m2 H2 xs us:=by
 cases u with
 |tup ws=>
  cases h;obtain⟨a,xs,rfl,sq,il⟩:=iu.of_tup;exact⟨false,a,rfl,⟨xs,sq⟩,fun m2 S2 H2 e _ _=>⟨xs,e.keep.t _ _ sq,il.mono e⟩⟩
 |ref l=>
  simp only[yz]at h;split at h<;>try cases h
  rename_i us hS;obtain⟨a,ha,rfl⟩:=iu.of_ref;obtain⟨a',ha',xs,hx,il⟩:=sr.get hS;rw[ha]at ha';cases ha';refine⟨true,a,rfl,⟨xs,SqL.of hx⟩,fun m2 S2 H2 e sr2 hok=>?_⟩;obtain⟨a',ha',xs,hx,il⟩:=sr2.get hok;rw[e.get ha]at ha';cases ha';exact⟨xs,SqL.of hx,il⟩
 |_=>simp[yz]at h
theorem ED{es:List Qq}{k:Nat}{tp p:Pos}{a c:Qq}{ca cc:CE}(hg:Gl X "zip")(hm:X.mg "zip"=none)(ha:QE X a ca)(hc:QE X c cc)
  (hs:QR [a,c] X.env=(false,eval a X.env)::QR [c] X.env:=by rfl) (hs2:QR [c] X.env=(false,eval c X.env)::QR [] X.env:=by rfl) (hpl:(ZD pos (QR [c] X.env)).any (·.1)=false:=by rfl) :
  QI X (.Tuple es k tp) (.Call (.Name "zip" p) [a,c] [] pos) (FU ca cc):=(Ec hg hm (bS ha (bS hc dQ hs2) hs) hs hpl).imp fun σ H R hz=>tw hz fun m ρ S us ok S' sr lr hf post=>by
 obtain⟨⟨x,S1⟩,h1,h⟩:=Q0.mp hf;obtain⟨⟨y,S2⟩,h2,h⟩:=Q0.mp h;obtain⟨⟨xs,okx⟩,h3,h⟩:=Q0.mp h;obtain⟨⟨ys,oky⟩,h4,h⟩:=Q0.mp h;cases h;refine⟨m,ρ,S,x,S1,sr,lr,h1,fun m1 v1 H1 e1 sr1 i1=>⟨m1,ρ,S1,y,_,sr1,lr.mono e1,h2,fun m2 v2 H2 e2 sr2 i2=>?_⟩⟩;obtain⟨b,aa,rfl,q1,k1⟩:=Ak sr2 (i1.mono e2) h3;obtain⟨d,bb,rfl,q2,k2⟩:=Ak sr2 i2 h4;refine⟨b,d,aa,bb,rfl,q1,q2,post m2 H2 _ (e1.trans e2) sr2 fun m3 S3 H3 i e3 sr3 hok=>?_⟩;obtain⟨vs,sq1,l1⟩:=k1 m3 S3 H3 e3 sr3 hok.1;obtain⟨ws,sq2,l2⟩:=k2 m3 S3 H3 e3 sr3 hok.2;have n1:=l1.length;have n2:=l2.length;refine⟨fun u hu=>?_,fun hi=>⟨vs,ws,sq1,sq2,?_⟩⟩
 ·simp only[sN,Qn,ZQ]at hu;obtain⟨⟨p,q⟩,hz,rfl⟩:=hu;obtain⟨hp,hq⟩:=List.getElem?_zip_eq_some.mp hz;obtain⟨vp,ep,ip⟩:=l1.getD hp;obtain⟨vq,eq,iq⟩:=l2.getD hq;refine⟨⟨vs,ws,vp,vq,sq1,sq2,ep,eq⟩,fun v H4 hy=>?_⟩;obtain⟨r,x',y',rfl,hr,rfl,f1,f2⟩:=hy;have:=f1 vs sq1;rw[ep]at this;cases this;have:=f2 ws sq2;rw[eq]at this;cases this;have ee:Ext X.K m3 H3 m3 (upd H3 r (.tup [vp,vq])):=.of (bC hr _);exact⟨ee,sr3.same (dE hr _),.tup_ (SqT.of aP) (.cons_ (ip.mono ee) (.cons_ (iq.mono ee) .nil_))⟩
 ·simp only[sN,QZ,List.length_zip]at hi;omega
end
def kB:List (CE×CE)->Rho->Sto->Option (List (Key×U)×Sto)
 |[],_,S=>some ([],S)
 |(ck,cv)::r,ρ,S=>(ck ρ S).bind fun p=>(cv ρ p.2).bind fun q=>(jJ p.1).bind fun k=>(kB r ρ q.2).bind fun z=>some ((k,q.1)::z.1,z.2)
def Fs(kus:List (Key×U))(au:List (Key×U)):List (Key×U):=kus.foldl (fun acc kv=>jI acc kv.1 kv.2) au
def vM(kus:List (Key×U)):List (Key×U):=Fs kus []
def Ga(prs:List (CE×CE)):CE:=fun ρ S=>(kB prs ρ (S++[.dic []])).bind fun q=>match q.2[S.length]? with
 |some (.dic [])=>some (.ref S.length,q.2.set S.length (.dic (vM q.1)))
 |_=>none
theorem g6:∀{ns:List Int} {vs:List Q6},bh (ns.map V.int) vs->IntsAre vs ns
 |[],_,h=>by cases h;exact .nil
 |n::ns,_,.cons r t=>by
  obtain⟨k,rfl⟩:=r;exact .cons n k (g6 t)
section
variable{ρ:Rho}{S:Sto}{c1 c2:CS}{t ta tb:CT}{ca cb cc:CE}{cr:CA}{u x y:U}{us:List U}{i l:Nat}{f g:U->U->Sto->Option (U×Sto)}{b:Bool}
def JT(S:Sto):Option (Option U)->Option (U×Sto)
 |some (some u)=>some (u,S)
 |_=>none
theorem A0:ao i ρ S=JT S (ρ[i]?):=rfl
theorem tY:JT S (some (some u))=some (u,S):=rfl
theorem x_c:cC u ρ S=some (u,S):=rfl
def IV(f:U->U->Sto->Option (U×Sto))(x:U)(q:U×Sto):=f x q.1 q.2
def JY(f:U->U->Sto->Option (U×Sto))(cb:CE)(ρ:Rho)(p:U×Sto):=(cb ρ p.2).bind (IV f p.1)
theorem xK:cOp f ca cb ρ S=(ca ρ S).bind (JY f cb ρ):=rfl
theorem lH:JY f cb ρ (x,S)=(cb ρ S).bind (IV f x):=rfl
theorem mG:IV f x (y,S)=f x y S:=rfl
def FH:U×Sto->Option (Bool×Sto)
 |(.bl b,S)=>some (b,S)
 |_=>none
theorem jU:aK ca ρ S=(ca ρ S).bind FH:=by
 unfold aK;congr 1;funext p;obtain⟨u,S⟩:=p;cases u<;>rfl
theorem mE:FH (.bl b,S)=some (b,S):=rfl
def Je(tb:CT)(ρ:Rho)(p:Bool×Sto):=if p.1=true then tb ρ p.2 else some (false,p.2)
def kOr(tb:CT)(ρ:Rho)(p:Bool×Sto):=if p.1=true then some (true,p.2)else tb ρ p.2
def JZ(p:Bool×Sto):Option (Bool×Sto):=some (!p.1,p.2)
theorem HK:Ju ta tb ρ S=(ta ρ S).bind (Je tb ρ):=rfl
theorem D2:Je tb ρ (true,S)=tb ρ S:=rfl
theorem D1:Je tb ρ (false,S)=some (false,S):=rfl
theorem Kh:cOr ta tb ρ S=(ta ρ S).bind (kOr tb ρ):=rfl
theorem Hb:kOr tb ρ (true,S)=some (true,S):=rfl
theorem Ha:kOr tb ρ (false,S)=tb ρ S:=rfl
theorem Hc:gZ ta ρ S=(ta ρ S).bind JZ:=rfl
theorem DI:JZ (b,S)=some (!b,S):=rfl
def CK(cb:CE)(ρ:Rho):U×Sto->Option (U×Sto)
 |(.bl true,S)=>cb ρ S
 |(.bl false,S)=>some (.bl false,S)
 |_=>none
def IU(cb:CE)(ρ:Rho):U×Sto->Option (U×Sto)
 |(.bl false,S)=>cb ρ S
 |(.bl true,S)=>some (.bl true,S)
 |_=>none
def FL:U×Sto->Option (U×Sto)
 |(.bl b,S)=>some (.bl (!b),S)
 |_=>none
theorem uf:fS ca cb ρ S=(ca ρ S).bind (CK cb ρ):=by
 unfold fS;congr 1;funext p;obtain⟨u,S⟩:=p;cases u with
 |bl b=>cases b<;>rfl
 |_=>rfl
theorem ue:CK cb ρ (.bl true,S)=cb ρ S:=rfl
theorem ud:CK cb ρ (.bl false,S)=some (.bl false,S):=rfl
theorem GZ:F9 ca cb ρ S=(ca ρ S).bind (IU cb ρ):=by
 unfold F9;congr 1;funext p;obtain⟨u,S⟩:=p;cases u with
 |bl b=>cases b<;>rfl
 |_=>rfl
theorem DG:IU cb ρ (.bl false,S)=cb ρ S:=rfl
theorem DD:IU cb ρ (.bl true,S)=some (.bl true,S):=rfl
theorem DH:xo ca ρ S=(ca ρ S).bind FL:=by
 unfold xo;congr 1;funext p;obtain⟨u,S⟩:=p;cases u<;>rfl
theorem A2:FL (.bl b,S)=some (.bl (!b),S):=rfl
def wk(u:U)(q:List U×Sto):Option (List U×Sto):=some (u::q.1,q.2)
def AF(cr:CA)(ρ:Rho)(p:U×Sto):=(cr ρ p.2).bind (wk p.1)
theorem px:aB ρ S=some ([],S):=rfl
theorem fw:ag ca cr ρ S=(ca ρ S).bind (AF cr ρ):=rfl
theorem eI:AF cr ρ (u,S)=(cr ρ S).bind (wk u):=rfl
theorem eG:wk u (us,S)=some (u::us,S):=rfl
def JU(p:List U×Sto):Option (U×Sto):=some (.tup p.1,p.2)
def J0(p:List U×Sto):Option (U×Sto):=some (.ref p.2.length,p.2++[.lst p.1])
theorem Ds:bw cr ρ S=(cr ρ S).bind JU:=rfl
theorem Ab:JU (us,S)=some (.tup us,S):=rfl
theorem DL:iM cr ρ S=(cr ρ S).bind J0:=rfl
theorem Ad:J0 (us,S)=some (.ref S.length,S++[.lst us]):=rfl
def kCB(f:Fn)(p:List U×Sto):=f p.1 p.2
theorem Ae{f:Fn}:cCB f cr ρ S=(cr ρ S).bind (kCB f):=rfl
theorem pA{f:Fn}:kCB f (us,S)=f us S:=rfl
def J1(T:Ty)(p:U×Sto):Option (U×Sto):=(tyU p.1 p.2).bind fun t=>some (.bl (xM t T),p.2)
theorem xX{T:Ty}:jP T ca ρ S=(ca ρ S).bind (J1 T):=rfl
theorem qv{T:Ty}:J1 T (u,S)=(tyU u S).bind fun t=>some (.bl (xM t T),S):=rfl
def FI(c2:CS):Out×Rho×Sto->Option (Out×Rho×Sto)
 |(.nx,ρ,S)=>c2 ρ S
 |(o,ρ,S)=>some (o,ρ,S)
theorem Ac:dC ρ S=some (.nx,ρ,S):=rfl
theorem pq:bu c1 c2 ρ S=(c1 ρ S).bind (FI c2):=by
 unfold bu;congr 1;funext p;obtain⟨o,ρ,S⟩:=p;cases o<;>rfl
theorem jW:FI c2 (.nx,ρ,S)=c2 ρ S:=rfl
theorem Dz:FI c2 (.rt u,ρ,S)=some (.rt u,ρ,S):=rfl
theorem Dy:FI c2 (.bk,ρ,S)=some (.bk,ρ,S):=rfl
theorem Dx:FI c2 (.ct,ρ,S)=some (.ct,ρ,S):=rfl
def FN(ρ:Rho)(p:U×Sto):Option (Out×Rho×Sto):=some (.nx,ρ,p.2)
def JX(ρ:Rho)(p:U×Sto):Option (Out×Rho×Sto):=some (.rt p.1,ρ,p.2)
theorem DV:zQ ca ρ S=(ca ρ S).bind (FN ρ):=rfl
theorem Ba:FN ρ (u,S)=some (.nx,ρ,S):=rfl
theorem DC:eA ca ρ S=(ca ρ S).bind (JX ρ):=rfl
theorem DB:JX ρ (u,S)=some (.rt u,ρ,S):=rfl
def IX(c1 c2:CS)(ρ:Rho)(p:Bool×Sto):=if p.1=true then c1 ρ p.2 else c2 ρ p.2
theorem A9:jD t c1 c2 ρ S=(t ρ S).bind (IX c1 c2 ρ):=rfl
theorem ub:IX c1 c2 ρ (true,S)=c1 ρ S:=rfl
theorem ua:IX c1 c2 ρ (false,S)=c2 ρ S:=rfl
def kIf(ca cb:CE)(ρ:Rho)(p:Bool×Sto):=if p.1=true then ca ρ p.2 else cb ρ p.2
theorem Ki:cIf t ca cb ρ S=(t ρ S).bind (kIf ca cb ρ):=rfl
theorem Hs:kIf ca cb ρ (true,S)=ca ρ S:=rfl
theorem Hr:kIf ca cb ρ (false,S)=cb ρ S:=rfl
def JV(i:Nat)(ρ:Rho)(p:U×Sto):Option (Out×Rho×Sto):=some (.nx,ρ.set i (some p.1),p.2)
theorem nG:da i ca ρ S=(ca ρ S).bind (JV i ρ):=rfl
theorem jV:JV i ρ (u,S)=some (.nx,ρ.set i (some u),S):=rfl
def CJ(q:Rho×Sto):Option (Out×Rho×Sto):=some (.nx,q.1,q.2)
def J2(g:CG)(ρ:Rho)(p:U×Sto):=(g p.1 ρ p.2).bind CJ
theorem HI{g:CG}:Ge ca g ρ S=(ca ρ S).bind (J2 g ρ):=rfl
theorem D0{g:CG}:J2 g ρ (u,S)=(g u ρ S).bind CJ:=rfl
theorem DZ:CJ (ρ,S)=some (.nx,ρ,S):=rfl
theorem Ht:gNm i u ρ S=some (ρ.set i (some u),S):=rfl
theorem DS{is:List Nat}:gTp is (.tup us) ρ S=(eP is us ρ).bind fun ρ'=>some (ρ',S):=rfl
theorem D4:eP [] [] ρ=some ρ:=rfl
theorem D3{is:List Nat}:eP (i::is) (u::us) ρ=eP is us (ρ.set i (some u)):=rfl
def FJ(ρ:Rho)(S':Sto):Option (Out×Rho×Sto):=some (.nx,ρ,S')
def IS(o v:U)(ρ:Rho)(r:U×Sto):=(kO o r.1 v r.2).bind (FJ ρ)
def IT(ci:CE)(v:U)(ρ:Rho)(q:U×Sto):=(ci ρ q.2).bind (IS q.1 v ρ)
def kSI(co ci:CE)(ρ:Rho)(p:U×Sto):=(co ρ p.2).bind (IT ci p.1 ρ)
theorem Kb:xn ca cb cc ρ S=(cc ρ S).bind (kSI ca cb ρ):=rfl
theorem GU:kSI ca cb ρ (u,S)=(ca ρ S).bind (IT cb u ρ):=rfl
theorem GS:IT cb y ρ (u,S)=(cb ρ S).bind (IS u y ρ):=rfl
theorem GR:IS x y ρ (u,S)=(kO x u y S).bind (FJ ρ):=rfl
theorem GQ:FJ ρ S=some (.nx,ρ,S):=rfl
def kIx(y:U)(S:Sto):Option O->Option (U×Sto)
 | some (.lst us)=>(match y with
   |.int i=>(atI us i).bind fun u=>some (u,S)
   |_=>none)
 |some (.dic kus)=>(jJ y).bind fun k=>(iN kus k).bind fun u=>some (u,S)
 |some (.fdc _ kus)=>(jJ y).bind fun k=>(iN kus k).bind fun u=>some (u,S)
 |_=>none
theorem Hi{j:Int}:fIx (.tup us) (.int j) S=(atI us j).bind fun u=>some (u,S):=rfl
theorem Hj:fIx (.ref l) y S=kIx y S S[l]?:=by
 unfold fIx kIx;dsimp only<;>(generalize S[l]?=q;rcases q with _|o<;>first|rfl|(cases o<;>rfl))
theorem Hk{j:Int}:kIx (.int j) S (some (.lst us))=(atI us j).bind fun u=>some (u,S):=rfl
theorem Hm{kus:List (Key×U)}:kIx y S (some (.dic kus))=(jJ y).bind fun k=>(iN kus k).bind fun u=>some (u,S):=rfl
def Gy(l:Nat)(i v:U)(S:Sto):Option O->Option Sto
 | some (.lst us)=>(match i with
   |.int k=>(ixN us.length k).bind fun j=>some (S.set l (.lst (us.set j v)))
   |_=>none)
 |some (.dic kus)=>(jJ i).bind fun k=>if kus.length<LIM then some (S.set l (.dic (jI kus k v)))else none
 |_=>none
theorem GP:kO (.ref l) x y S=Gy l x y S S[l]?:=by
 unfold kO Gy;dsimp only<;>(generalize S[l]?=q;rcases q with _|o<;>first|rfl|(cases o<;>rfl))
theorem Dv{j:Int}:Gy l (.int j) y S (some (.lst us))=(ixN us.length j).bind fun j=>some (S.set l (.lst (us.set j y))):=rfl
theorem Dw{kus:List (Key×U)}:Gy l x y S (some (.dic kus))=(jJ x).bind fun k=>if kus.length<LIM then some (S.set l (.dic (jI kus k y)))else none:=rfl
theorem at0{α:Type}{a:α}{r:List α}:atI (a::r) 0=some a:=by show atI _ ((0:Nat):Int)=_;exact d9 rfl
theorem at1{α:Type}{a b:α}{r:List α}:atI (a::b::r) 1=some b:=by show atI _ ((1:Nat):Int)=_;exact d9 rfl
theorem at2{α:Type}{a b c:α}{r:List α}:atI (a::b::c::r) 2=some c:=by show atI _ ((2:Nat):Int)=_;exact d9 rfl
theorem at3{α:Type}{a b c d:α}{r:List α}:atI (a::b::c::d::r) 3=some d:=by show atI _ ((3:Nat):Int)=_;exact d9 rfl
theorem ix0{n:Nat}:ixN (n+1) 0=some 0:=by simp[ixN]
theorem ix1{n:Nat}:ixN (n+1+1) 1=some 1:=by simp[ixN];omega
theorem ix2{n:Nat}:ixN (n+1+1+1) 2=some 2:=by simp[ixN];omega
def GD(S:Sto):Option O->Option (U×Sto)
 |some (.lst us)=>some (.int us.length,S)
 |some (.dic us)=>some (.int us.length,S)
 |_=>none
theorem DN:gY [.ref l] S=GD S S[l]?:=by
 unfold gY GD;dsimp only<;>(generalize S[l]?=q;rcases q with _|o<;>first|rfl|(cases o<;>rfl))
theorem DO:GD S (some (.lst us))=some (.int us.length,S):=rfl
theorem DP{kus:List (Key×U)}:GD S (some (.dic kus))=some (.int kus.length,S):=rfl
theorem DM:gY [.tup us] S=some (.int us.length,S):=rfl
variable{j k:Int}
theorem Be:cT (.int j) (.int k) S=some (.int (j+k),S):=rfl
theorem Du:wI (.int j) (.int k) S=some (.int (j-k),S):=rfl
theorem mH(h:xJ j k):kQ (.int j) (.int k) S=some (.int (j*k),S):=by simp[kQ,fI,h]
theorem DX(h:tN j k):AK (.int j) (.int k) S=some (.int (j / k),S):=by simp[AK,fI,h]
theorem xW(h:0<k):tu (.int j) (.int k) S=some (.int (j % k),S):=by simp[tu,fI,h]
theorem GY(h:Dk j k):F1 (.int j) (.int k) S=some (.int (j^k.toNat),S):=by simp[F1,fI,h]
theorem DK:fLt (.int j) (.int k) S=some (.bl (decide (j<k)),S):=rfl
theorem Hg:fLe (.int j) (.int k) S=some (.bl (decide (j<=k)),S):=rfl
theorem Kj:fGt (.int j) (.int k) S=some (.bl (decide (k<j)),S):=rfl
theorem Kk:fGe (.int j) (.int k) S=some (.bl (decide (k<=j)),S):=rfl
theorem Hy:fEq (.int j) (.int k) S=some (.bl (decide (j=k)),S):=rfl
theorem He:fNe (.int j) (.int k) S=some (.bl (!decide (j=k)),S):=rfl
theorem Hx{a c:Str}:fEq (.str a) (.str c) S=some (.bl (decide (a=c)),S):=rfl
theorem Hd{a c:Str}:fNe (.str a) (.str c) S=some (.bl (!decide (a=c)),S):=rfl
theorem Hz{a c:Bool}:fEq (.bl a) (.bl c) S=some (.bl (decide (a=c)),S):=rfl
theorem Hf{a c:Bool}:fNe (.bl a) (.bl c) S=some (.bl (!decide (a=c)),S):=rfl
def kFn:Out×Rho×Sto->Option (U×Sto)
 |(.rt u,_,S)=>some (u,S)
 |(.nx,_,S)=>some (.non,S)
 |_=>none
theorem lT{n k:Nat}(h:us.length=k):fnU n k c1 us S=(c1 (nS n us) S).bind kFn:=by
 unfold fnU;rw[if_pos h];congr 1;funext p;obtain⟨o,ρ,S⟩:=p;cases o<;>rfl
theorem Hv:kFn (.rt u,ρ,S)=some (u,S):=rfl
theorem Hu:kFn (.nx,ρ,S)=some (.non,S):=rfl
end
section
variable{ρ:Rho}{S:Sto}{t:CT}{ca cb cc:CE}{cr:CA}{u x:U}{us:List U}{i l:Nat}{b:Bool}{c:Cl}{fus:List (Option U)}{g:Fn}
open Classical in
def zq(c:Cl)(i:Nat)(S:Sto):Option O->Option (U×Sto)
 |some (.ins c' fus)=>if c'=c then(fus[i]?).join.bind fun u=>some (u,S)else none
 |_=>none
def IY(c:Cl)(i:Nat)(p:U×Sto):=Jl c i p.1 p.2
theorem Hw:KI c i ca ρ S=(ca ρ S).bind (IY c i):=rfl
theorem DU:IY c i (.ref l,S)=zq c i S S[l]?:=by
 unfold IY Jl zq;dsimp only<;>(generalize S[l]?=q;rcases q with _|o<;>first|rfl|(cases o<;>rfl))
theorem DT:zq c i S (some (.ins c fus))=((fus[i]?).join).bind fun u=>some (u,S):=by
 unfold zq;dsimp only;rw[if_pos rfl]
open Classical in
def Gz(c:Cl)(i l:Nat)(v:U)(S:Sto):Option O->Option Sto
 |some (.ins c' fus)=>if c'=c then some (S.set l (.ins c (fus.set i (some v))))else none
 |_=>none
def GC(c:Cl)(i:Nat)(v:U)(ρ:Rho)(q:U×Sto):=(CW c i q.1 v q.2).bind (FJ ρ)
def JW(c:Cl)(i:Nat)(ca:CE)(ρ:Rho)(p:U×Sto):=(ca ρ p.2).bind (GC c i p.1 ρ)
theorem Kc:Jr c i ca cb ρ S=(cb ρ S).bind (JW c i ca ρ):=rfl
theorem GX:JW c i ca ρ (u,S)=(ca ρ S).bind (GC c i u ρ):=rfl
theorem GW:GC c i u ρ (.ref l,S)=(Gz c i l u S S[l]?).bind (FJ ρ):=by
 unfold GC CW Gz;dsimp only<;>(generalize S[l]?=q;rcases q with _|o<;>first|rfl|(cases o<;>rfl))
theorem GV:Gz c i l u S (some (.ins c fus))=some (S.set l (.ins c (fus.set i (some u)))):=by
 unfold Gz;dsimp only;rw[if_pos rfl]
def wj(g:Fn)(l:Nat)(q:List U×Sto):=g (.ref l::q.1) q.2
open Classical in
def rC(c:Cl)(g:Fn)(cr:CA)(ρ:Rho)(l:Nat)(S:Sto):Option O->Option (U×Sto)
 |some (.ins c' _)=>if c'=c then(cr ρ S).bind (wj g l)else none
 |_=>none
def CH(c:Cl)(g:Fn)(cr:CA)(ρ:Rho)(p:U×Sto):=CY c g p.1 p.2 (cr ρ)
theorem DJ:Js c g ca cr ρ S=(ca ρ S).bind (CH c g cr ρ):=rfl
theorem A5:CH c g cr ρ (.ref l,S)=rC c g cr ρ l S S[l]?:=by
 unfold CH CY rC;dsimp only<;>(generalize S[l]?=q;rcases q with _|o<;>first|rfl|(cases o<;>rfl))
theorem A4:rC c g cr ρ l S (some (.ins c fus))=(cr ρ S).bind (wj g l):=by
 unfold rC;dsimp only;rw[if_pos rfl]
theorem A3:wj g l (us,S)=g (.ref l::us) S:=rfl
def IW(n:Nat):U×Sto->Option (U×Sto)
 |(.non,S)=>some (.ref n,S)
 |_=>none
theorem A6:IW i (.non,S)=some (.ref i,S):=rfl
def kIn(neg:Bool)(x:U)(S:Sto):Option O->Option (U×Sto)
 |some (.lst us)=>if fQ x=true/\us.all fQ=true then some (.bl (if neg then !inU x us else inU x us),S)else none
 |some (.dic kus)=>(jJ x).bind fun k=>some (.bl (if neg then !(iN kus k).isSome else(iN kus k).isSome),S)
 |some (.fdc _ kus)=>(jJ x).bind fun k=>some (.bl (if neg then !(iN kus k).isSome else(iN kus k).isSome),S)
 |_=>none
theorem Hn{neg:Bool}:fIn neg x (.ref l) S=kIn neg x S S[l]?:=by
 unfold fIn kIn;dsimp only<;>(generalize S[l]?=q;rcases q with _|o<;>first|rfl|(cases o<;>rfl))
theorem Hq{neg:Bool}{kus:List (Key×U)}:kIn neg x S (some (.dic kus))=(jJ x).bind fun k=>some (.bl (if neg then !(iN kus k).isSome else(iN kus k).isSome),S):=rfl
theorem Ho{neg:Bool}(h:fQ x=true/\us.all fQ=true):kIn neg x S (some (.lst us))=some (.bl (if neg then !inU x us else inU x us),S):=by
 unfold kIn;dsimp only;rw[if_pos h]
theorem Hh{j:Int}:jJ (.int j)=some (.inl j):=rfl
theorem DQ{z:Str}:jJ (.str z)=some (.inr z):=rfl
def Jc(f:U->List U->Sto->Option (U×Sto))(x:U)(q:List U×Sto):=f x q.1 q.2
def Jd(f:U->List U->Sto->Option (U×Sto))(cr:CA)(ρ:Rho)(x:U)(S:Sto):Option O->Option (U×Sto)
 |some (.lst _)=>(cr ρ S).bind (Jc f x)
 |_=>none
def kBM(f:U->List U->Sto->Option (U×Sto))(cr:CA)(ρ:Rho):U×Sto->Option (U×Sto)
 |(.ref l,S)=>Jd f cr ρ (.ref l) S S[l]?
 |_=>none
variable{fm:U->List U->Sto->Option (U×Sto)}
theorem Km:cBM fm ca cr ρ S=(ca ρ S).bind (kBM fm cr ρ):=by
 unfold cBM;congr 1;funext p;obtain⟨u,S⟩:=p;cases u<;>try rfl
theorem HH:kBM fm cr ρ (.ref l,S)=Jd fm cr ρ (.ref l) S S[l]?:=rfl
theorem HG:Jd fm cr ρ x S (some (.lst us))=(cr ρ S).bind (Jc fm x):=rfl
theorem HF:Jc fm x (us,S)=fm x us S:=rfl
def GF(l:Nat)(u:U)(S:Sto):Option O->Option (U×Sto)
 |some (.lst us)=>if us.length<LIM then some (.non,S.set l (.lst (us++[u])))else none
 |_=>none
theorem HJ:gM (.ref l) [u] S=GF l u S S[l]?:=by
 unfold gM GF;dsimp only<;>(generalize S[l]?=q;rcases q with _|o<;>first|rfl|(cases o<;>rfl))
theorem Af(h:us.length<LIM):GF l u S (some (.lst us))=some (.non,S.set l (.lst (us++[u]))):=by
 unfold GF;dsimp only;rw[if_pos h]
def IZ(ku xu:U)(S:Sto):Option O->Option (U×Sto)
 |some (.dic kus)=>(jJ ku).bind fun k=>some ((iN kus k).getD xu,S)
 |_=>none
def I0(l:Nat)(ku:U)(r:U×Sto):=IZ ku r.1 r.2 r.2[l]?
def Ja(l:Nat)(cx:CE)(ρ:Rho)(q:U×Sto):=(cx ρ q.2).bind (I0 l q.1)
def Jb(l:Nat)(ck cx:CE)(ρ:Rho)(S:Sto):Option O->Option (U×Sto)
 |some (.dic _)=>(ck ρ S).bind (Ja l cx ρ)
 |_=>none
def kDG(ck cx:CE)(ρ:Rho):U×Sto->Option (U×Sto)
 |(.ref l,S)=>Jb l ck cx ρ S S[l]?
 |_=>none
theorem Kl:Gb ca cb cc ρ S=(ca ρ S).bind (kDG cb cc ρ):=by
 unfold Gb;congr 1;funext p;obtain⟨u,S⟩:=p;cases u<;>try rfl
theorem HE:kDG cb cc ρ (.ref l,S)=Jb l cb cc ρ S S[l]?:=rfl
theorem HD{kus:List (Key×U)}:Jb l cb cc ρ S (some (.dic kus))=(cb ρ S).bind (Ja l cc ρ):=rfl
theorem HC:Ja l cc ρ (u,S)=(cc ρ S).bind (I0 l u):=rfl
theorem HB:I0 l u (x,S)=IZ u x S S[l]?:=rfl
theorem HA{kus:List (Key×U)}:IZ u x S (some (.dic kus))=(jJ u).bind fun k=>some ((iN kus k).getD x,S):=rfl
theorem DW:Jt ρ S=some (.ref S.length,S++[.dic []]):=rfl
def kP3(k:Key)(u:U)(z:List (Key×U)×Sto):Option (List (Key×U)×Sto):=some ((k,u)::z.1,z.2)
def kP2(r:List (CE×CE))(ρ:Rho)(x:U)(q:U×Sto):=(jJ x).bind fun k=>(kB r ρ q.2).bind (kP3 k q.1)
def kP1(cv:CE)(r:List (CE×CE))(ρ:Rho)(p:U×Sto):=(cv ρ p.2).bind (kP2 r ρ p.1)
variable{pr:List (CE×CE)}
theorem Kg:kB [] ρ S=some ([],S):=rfl
theorem x_p:kB ((ca,cb)::pr) ρ S=(ca ρ S).bind (kP1 cb pr ρ):=rfl
theorem Kf:kP1 cb pr ρ (u,S)=(cb ρ S).bind (kP2 pr ρ u):=rfl
theorem Ke:kP2 pr ρ x (u,S)=(jJ x).bind fun k=>(kB pr ρ S).bind (kP3 k u):=rfl
theorem Kd{k:Key}{z:List (Key×U)}:kP3 k u (z,S)=some ((k,u)::z,S):=rfl
def kD1(n:Nat)(kus:List (Key×U))(S:Sto):Option O->Option (U×Sto)
 |some (.dic [])=>some (.ref n,S.set n (.dic (vM kus)))
 |_=>none
def kD(n:Nat)(q:List (Key×U)×Sto):=kD1 n q.1 q.2 q.2[n]?
theorem DY:Ga pr ρ S=(kB pr ρ (S++[.dic []])).bind (kD S.length):=by
 unfold Ga;congr 1
theorem Bc{z:List (Key×U)}:kD i (z,S)=kD1 i z S S[i]?:=rfl
theorem Bb{z:List (Key×U)}:kD1 i z S (some (.dic []))=some (.ref i,S.set i (.dic (vM z))):=rfl
theorem Dp:iJ [.tup us] S=some (.tup us,S):=rfl
def IQ(S:Sto):Option O->Option (U×Sto)
 |some (.lst us)=>some (.tup us,S)
 |_=>none
theorem Dq:iJ [.ref l] S=IQ S S[l]?:=by
 unfold iJ IQ;dsimp only<;>(generalize S[l]?=q;rcases q with _|o<;>first|rfl|(cases o<;>rfl))
theorem Dr:IQ S (some (.lst us))=some (.tup us,S):=rfl
theorem tZ:iK [.tup us] S=some (.ref S.length,S++[.lst us]):=rfl
def kLs(S:Sto):Option O->Option (U×Sto)
 |some (.lst us)=>some (.ref S.length,S++[.lst us])
 |_=>none
theorem A7:iK [.ref l] S=kLs S S[l]?:=by
 unfold iK kLs;dsimp only<;>(generalize S[l]?=q;rcases q with _|o<;>first|rfl|(cases o<;>rfl))
theorem A8:kLs S (some (.lst us))=some (.ref S.length,S++[.lst us]):=rfl
theorem DR:F3 [.bl b] S=some (.int (if b then 1 else 0),S):=rfl
theorem ga{X:Sto}{n:Nat}:(S++X)[S.length+n]?=X[n]?:=by rw[Qw (Nat.le_add_right _ _),Nat.add_sub_cancel_left]
theorem ga0{X:Sto}:(S++X)[S.length]?=X[0]?:=ga (n:=0)
theorem gs{X:Sto}{n:Nat}{o:O}:(S++X).set (S.length+n) o=S++X.set n o:=by rw[List.set_append_right _ _ (Nat.le_add_right _ _),Nat.add_sub_cancel_left]
theorem gs0{X:Sto}{o:O}:(S++X).set S.length o=S++X.set 0 o:=gs (n:=0)
section
variable{ok:Sto->Prop}{gg:CG}{cbd:CS}{ρ0 ρ1:Rho}{S0 S1:Sto}
theorem eD(h:ok S):dA ok gg cbd [] ρ S=some (.nx,ρ,S):=by unfold dA;rw[if_pos h]
theorem fK(h:ok S)(hg:gg u ρ S=some (ρ0,S0))(hb:cbd ρ0 S0=some (.nx,ρ1,S1)):dA ok gg cbd (u::us) ρ S=dA ok gg cbd us ρ1 S1:=by
 rw[dA];dsimp only;rw[if_pos h,hg,Q3];dsimp only;rw[hb,Q3]
theorem vY(h:ok S)(hg:gg u ρ S=some (ρ0,S0))(hb:cbd ρ0 S0=some (.rt x,ρ1,S1)):dA ok gg cbd (u::us) ρ S=some (.rt x,ρ1,S1):=by
 rw[dA];dsimp only;rw[if_pos h,hg,Q3];dsimp only;rw[hb,Q3]
theorem yh{n:Nat}(ht:t ρ S=some (true,S0))(hb:cbd ρ S0=some (.nx,ρ1,S1)):eB t cbd (n+1) ρ S=eB t cbd n ρ1 S1:=by
 rw[eB];dsimp only;rw[ht,Q3];dsimp only;rw[if_pos rfl,hb,Q3]
theorem uB{n:Nat}(ht:t ρ S=some (false,S0)):eB t cbd (n+1) ρ S=some (.nx,ρ,S0):=by
 rw[eB];dsimp only;rw[ht,Q3];dsimp only;rw[if_neg (by decide)]
theorem kY{ce:CE}{ys:List U}(h:ok S)(hg:gg u ρ S=some (ρ0,S0))(he:ce ρ0 S0=some (x,S1))(hl:S1[l]?=some (.lst ys))(hn:ys.length<LIM):gP ok gg ce l (u::us) ρ S=gP ok gg ce l us ρ0 (S1.set l (.lst (ys++[x]))):=by
 rw[gP,if_pos h,hg,Q3];dsimp only;rw[he,Q3];dsimp only;rw[hl];dsimp only;rw[if_pos hn]
theorem nA{ce:CE}(h:ok S):gP ok gg ce l [] ρ S=some S:=by rw[gP,if_pos h]
end
end
theorem J9{p:List Q6->Prop}(h:p [])(us:List Q6)(e:us.length=0):p us:=by rw[List.length_eq_zero_iff.mp e];exact h
theorem KJ{n:Nat}{p:List Q6->Prop}(h:∀a us,us.length=n->p (a::us))(us:List Q6)(e:us.length=n+1):p us:=by
 cases us with
 |nil=>cases e
 |cons a us=>exact h a us (Nat.succ.inj e)
theorem rF{X:Cx}{pins:List (Addr×Obj)}{σ:L2.St}{H:Hp}{s:QQ}{a:Addr}{o u:HO}(I:Inv X pins σ H s)(e:H a=some o)(nt:∀xs,o≠.tup xs)(no:∀x,o≠.own x)(nb:∀ps,o≠.tbl ps)
  (nf:∀ob u,X.H₀ a≠some (.frz ob u)) (new:bR X.prog X.w (upd H a u) s.heap a u):Inv X pins σ (upd H a u) s:=by
 have nn:∀b,H b=none->upd H a u b=none:=fun b q=>by rw[bc (Ne.symm (cu e q))];exact q
 have ho:∀b x,H b=some (.own x)->upd H a u b=some (.own x):=fun b x q=>by
  rw[bc];exact q;intro z;subst z;rw[e]at q;cases q;exact no _ rfl
 have ht:∀b xs,H b=some (.tup xs)->upd H a u b=some (.tup xs):=fun b x q=>by
  rw[bc];exact q;intro z;subst z;rw[e]at q;cases q;exact nt _ rfl
 refine⟨I.ok,I.os,I.bare,⟨I.base.keep,I.base.slot,fun b ob q1 q2 q3=>nn _ (I.base.free b ob q1 q2 q3),I.base.there,fun b xs q=>ht _ _ (I.base.tups b xs q),fun b ob v q=>?_,fun b ps q=>?_⟩,I.loc,I.cell,nn _ I.free,fun x c q=>nn _ (I.freeC x c q),fun p hp=>?_,fun b v q=>?_,I.len⟩
 ·rw[bc];exact I.base.frzs b ob v q;intro z;subst z;exact nf _ _ q
 ·obtain⟨more,q'⟩:=I.base.tbls b ps q;refine⟨more,?_⟩;rw[bc];exact q';intro z;subst z;rw[e]at q';cases q';exact nb _ rfl
 ·obtain⟨p1,p2,p3⟩:=I.pin p hp;exact⟨p1,nn _ p2,p3⟩
 ·by_cases hb:b=a
  ·subst hb;rw[aP]at q;cases q;exact new
  ·rw[bc hb]at q;exact(I.hok b v q).stay (fun _ _ _ g=>g) (fun c g=>ho c b g) fun c xs g=>ht c xs g
def Gj(X:Cx)(a:Addr):Prop:=∀ob u,X.H₀ a≠some (.frz ob u)
def kU:Key->U
 |.inl i=>.int i
 |.inr x=>.str x
theorem FR{K:Q5}{m:List Addr}{H:Hp}(k:Key):Is K m H (kV k) (kU k):=by
 cases k with
 |inl i=>exact .int_
 |inr x=>exact .str_
open Classical in
def uni{α:Type}(F:Nat->Option α):Option α:=if h:∃r,∀n,F n=some r then some h.choose else none
theorem Eg{α:Type}{F:Nat->Option α}{r:α}(h:∀n,F n=some r):uni F=some r:=by
 have hx:∃r,∀n,F n=some r:=⟨r,h⟩;unfold uni;rw[dif_pos hx];have:=hx.choose_spec 0;rw[h 0]at this;exact this.symm
theorem ym{α:Type}{F:Nat->Option α}{r:α}(h:uni F=some r)(n:Nat):F n=some r:=by
 unfold uni at h;split at h
 ·rename_i hx;cases h;exact hx.choose_spec n
 ·cases h
end OP
namespace OG
open PySem PySem.Spec PyProof.Rows L2
def mM(wi:TI)(g:TG)(tt:TT)(te:TE)(n:Nat)(caps:List Nat):TE:=fun σ H Q=>wi σ H fun J H1=>∀l,H1 l=none->∃W:Nat->Nat->L2.St->Hp->Prop,(∃m,W 0 m (stC n caps σ) (upd H1 l (.lst [])))/\
 ∀i m σ' H2,W i m σ' H2->(J.stop i H2/\Q (.ref l) H2)\/(J.go i H2/\∃N:L2.St->Hp->Prop,(∀σ'' H',N σ'' H'->∃m',m'<m/\W (i+1) m' σ'' H')/\
  ∀x H3,J.yld i H2 x H3->g x σ' H3 fun σ2 H4=>tt σ2 H4 fun b H5=>match b with
   |true=>te σ2 H5 fun v H6=>∃ys,H6 l=some (.lst ys)/\ys.length<QN/\N σ2 (upd H6 l (.lst (ys++[v])))
   |false=>N σ2 H5)
theorem lP{prog:Qu}{w:Qm}{A:Z9}{R:Result->QQ->Prop}{s:QQ}{elt target iter c:Qq}{scope:X2}{pos:Pos}{it acc:Q6}{env:Env}(I:Nat->QQ->Prop)
  (turn:∀n s,I n s->wpAny (Qx prog w) A (pyNext it) (fun r s₁=>match r with
   |none=>R (.ok .next) s₁
   |some v=>wpAny (Qx prog w) A (letOwnedTupleGo target it v) (fun _ s₁'=>wpAny (Qx prog w) A (assign target env v) (fun _ s₂=>wpAny (Qx prog w) A (PySem.isTrue c env (eval c env)) (fun b s₂'=>match b with
    |true=>wpAny (Qx prog w) A (eval elt env) (fun x s₃=>
     wpAny (Qx prog w) A (call (.builtin "list.append") [acc,x]) (fun _ s₄=>∃m,m<n/\I m s₄) (fun _ _=>False) s₃)
     (fun _ _=>False) s₂'
    |false=>∃m,m<n/\I m s₂') (fun _ _=>False) s₂) (fun _ _=>False) s₁') (fun _ _=>False) s₁) (fun _ _=>False) s)
  (n:Nat) (h:I n s) :
  codeAny (Qx prog w) A (.compLoop (.ListComp elt [⟨target,iter,[c],0⟩] scope pos) 0 it acc env) R s:=by
 refine codeAny_loop rfl I (fun n s hI=>?_) n h;show wpAny _ _ ((compTurn (.ListComp elt [⟨target,iter,[c],0⟩] scope pos) 0 it acc env).onRaise (fun x=>do noteFrame x env;theTreesLotGoes x)) _ _ s;refine wpAny_noted ?_;rw[compTurn_list];refine Q2 (wpAny_standAt (Q2 (ZG (turn n s hI) (fun r s₁ h₁=>?_) fun _ _ h'=>h'.elim)));cases r with
 |none=>exact Q8 h₁
 |some v=>
  refine Q2 (ZG h₁ (fun _ s₁' h₁'=>?_) fun _ _ h'=>h'.elim);refine Q2 (ZG h₁' (fun _ s₂ h₂=>?_) fun _ _ h'=>h'.elim);dsimp only;simp only[List.forIn_cons,List.forIn_nil,if_true,bind_assoc,pure_bind];refine Q2 (ZG h₂ (fun b s₂' h₂'=>?_) fun _ _ h'=>h'.elim);cases b with
  |true=>
   rw[if_pos rfl];exact Q2 (ZG h₂' (fun x s₃ h₃=>Q2 (ZG h₃
    (fun _ s₄ h₄=>Q8 ⟨rfl,h₄⟩) fun _ _ h'=>h'.elim)) fun _ _ h'=>h'.elim)
  |false=>
   rw[if_neg QC];exact Q8 ⟨rfl,h₂'⟩
theorem mC{X:Cx}{Nc capN tn:List Str}{scope:X2}{cl:List (Str×Addr)}{n:Nat}{caps:List Nat}{tg iter elt:Qq}{pos:Pos}{wi:TI}{g:TG}{te:TE}{tt:TT}{c:Qq}
  (hc:X.calm=true) (hi:WI X tg iter wi) (hg:∀s3 H3 fp,WG (cxC X Nc scope cl s3 H3 fp) tg g) (he:∀s3 H3 fp,WE (cxC X Nc scope cl s3 H3 fp) elt te)
  (ht:∀s3 H3 fp,WT (cxC X Nc scope cl s3 H3 fp) c tt)
  (hclos:closureFor scope X.env=pure cl) (hkind:scope.kind=.function) (hnl:∀x∈scope.names,x.2=.local->scope.names.lookup x.1=some .local) (hcell:∀x∈scope.names,x.2≠.cell)
  (hcl:ph X.env cl) (hhas:((relabel scope X.env).names.all fun p=>!(p.2 == .cell||p.2 == .free)||(cl.lookup p.1).isSome)=true)
  (hcap:Paired (Cap X scope cl) caps capN) (hN:Nc=tn++capN) (hn:tn.length=n)
  {use:Option (Q6->Sem Unit)} {pins:List (Addr×Obj)} {σ:L2.St} {H:Hp} {s:QQ} {Q:VK} {Qf:Q6->QQ->Prop} (I:Inv X pins σ H s) (h:mM wi g tt te n caps σ H Q)
  (hend:∀(D C:Addr) (s6:QQ) (H5:Hp) (m:Str->Option Q6),Inv X pins σ H5 s6->s6.heap.Ns C m->H5 C=none->C≠X.env.locals->X.s₀.heap.objs.size<=C->(∀x c,X.env.cells.lookup x=some c->c≠C)->(∀p∈X.pn++pins,p.1≠C)->Q (.ref D) H5->compPost (Qx X.prog X.w) X.A X.xe use Qf (.ref D) C (.ok .next) s6)
  (hs:∀x,foldedSetIterable iter X.env x=pure x) :
  wpAny (Qx X.prog X.w) X.A (comprehension (.ListComp elt [⟨tg,iter,[c],0⟩] scope pos) scope X.env (firstIterPos [⟨tg,iter,[c],0⟩] pos) (newList []) (firstAsync [⟨tg,iter,[c],0⟩]) (firstIter [⟨tg,iter,[c],0⟩] X.env) use) Qf X.xe s:=by
 refine wpAny_comprehension_free (use:=use) (g:=⟨tg,iter,[c],0⟩) (gs:=[]) rfl hs hclos hkind hnl (thn (hi.h pins s σ H _ I h) fun v s1 h1=>thn h1 fun itv s2 h2=>?_);obtain⟨it,fp,tnn,J,H2,rfl,I2,T,st2,f2,hW⟩:=h2;have hD:=I2.fresh;obtain⟨W,⟨m0,w0⟩,turn⟩:=hW _ hD;refine wpAny_newObj_type (wpAny_newFunctionEnv hcell (by intro y hy;simp at hy) (fun h₁ hns₁ hsb₁=>?_) hkind);dsimp only at hns₁ hsb₁ ⊢;have I3:Inv X pins σ (upd H2 s2.heap.objs.size (.lst [])) { s2 with heap:=s2.heap.push { cls:=.type "list",dict:=none,data:=.seq ([]:List Q6).toArray },toks:=s2.toks }:=I2.lnew (its:=[]) .nil (ZN _);generalize hs3:({ s2 with heap:=s2.heap.push { cls:=.type "list",dict:=none,data:=.seq ([]:List Q6).toArray },toks:=s2.toks }:QQ)=s3 at I3;have es3:s3.heap=s2.heap.push { cls:=.type "list",dict:=none,data:=.seq ([]:List Q6).toArray }:=by rw[<-hs3]
 generalize hDD:s2.heap.objs.size=D at *;have kept:∀b o,s3.heap.get? b=some o->h₁.get? b=some o:=fun b o e=>by
  have lt:=QK e;rw[es3]at lt e;exact hsb₁.extBut b o (Qj lt) (Q4 _ e)
 have old:∀b o,s2.heap.get? b=some o->s3.heap.get? b=some o:=fun b o e=>by rw[es3];exact Q4 _ e
 have ltD:∀b∈fp,b<D:=fun b hb=>by
  obtain⟨o,e,_⟩:=T.obj 0 _ st2 b hb;rw[<-hDD];exact QK e
 have fo:∀b∈fp,b<s3.heap.objs.size:=fun b hb=>by
  obtain⟨o,e,_⟩:=T.obj 0 _ st2 b hb;exact QK (old _ _ e)
 have f3:∀b∈fp,tW X pins (upd H2 D (.lst [])) b:=fun b hb=>by
  refine⟨?_,(f2 b hb).2⟩;rw[bc (Qj (ltD b hb))];exact(f2 b hb).1
 rw[<-es3]at hns₁ hsb₁ ⊢;have Ic:=fun t'=>Inv.comp (h1:=h₁) (t':=t') (Nc:=Nc) (n:=n) I3 hc f3 fo hkind hcl hhas hcap tn hN hn hns₁ kept;have stat:∀{H':Hp},(∀b∈fp,H' b=none)->∀b∈fp,tW (cxC X Nc scope cl s3 (upd H2 D (.lst [])) fp) [] H' b:=fun hn' b hb=>by
  refine⟨hn' b hb,Qj (fo b hb),fun z=>?_,.inl hb,fun x c e=>(f2 b hb).2.2.2.2.1 x c (hcl.look e),fun p hp=>(by simp at hp)⟩;rcases QL.mp (I3.stkSub b z)with q|q
  ·exact(f2 b hb).2.1 q
  ·exact(f2 b hb).2.2.1 q
 have loop:∀s4:QQ,(∃t',s4={ s3 with heap:=h₁,toks:=t' })->codeAny (Qx X.prog X.w) X.A (.compLoop (.ListComp elt [⟨tg,iter,[c],0⟩] scope pos) 0 (.ref it) (.ref D) (compEnvC scope cl s3.heap.objs.size X.env))
   (compPost (Qx X.prog X.w) X.A X.xe use Qf (.ref D) s3.heap.objs.size) s4:=by
  rintro s4 ⟨t',rfl⟩;refine lP (fun n' s'=>∃i σ' H',Inv (cxC X Nc scope cl s3 (upd H2 D (.lst [])) fp) [] σ' H' s'/\tnn i s'.heap/\(∀b∈fp,H' b=none)/\W i n' σ' H') ?_ m0
   ⟨0,_,_,Ic t',T.keep 0 _ _ st2 fun b hb o e=>kept _ _ (old _ _ e),fun b hb=>(f3 b hb).1,w0⟩
  rintro n' s5 ⟨i,σ5,H5,I5,st5,fr5,w5⟩;rcases turn i n' σ5 H5 w5 with⟨stop,qn⟩|⟨go,N,hN',step⟩
  ·refine thn (T.done (cxC X Nc scope cl s3 (upd H2 D (.lst [])) fp) rfl rfl rfl hc i [] s5 σ5 H5 (fun _ _=>False) I5 (stat fr5) st5 stop) fun r s6 ⟨hr,I6⟩=>?_;subst hr;obtain⟨m,hm,_⟩:=I6.loc;have I7:Inv X pins σ H5 s6:=Inv.call' (ch:=fp) I3 I6.os I6.base I6.hok I6.bare fun b hb=>⟨(f2 b hb).2.2.2.1,(f2 b hb).2.1,(f2 b hb).2.2.2.2.1,(f2 b hb).2.2.2.2.2⟩;exact hend D _ s6 H5 m I7 hm I6.free (Ne.symm (Qj I3.lt)) I3.sz (fun x c e=>by
     obtain⟨v',o,ho,_⟩:=I3.cell x c e;exact Qj (QK ho)) (fun p hp=>Qj (QK (I3.pin p hp).1)) qn
  ·refine thn (T.item (cxC X Nc scope cl s3 (upd H2 D (.lst [])) fp) rfl rfl rfl hc i [] s5 σ5 H5 (fun _ _=>False) I5 (stat fr5) st5 go) fun r s6 ⟨u,hr,h6⟩=>?_;subst hr;refine thn h6 fun _ s7 hz=>?_;obtain⟨x,H7,I7,r7,y7,st7,fr7⟩:=hz;have I7':=I7.pinned (stat fr7) (T.obj _ _ st7);refine thn ((hg s3 (upd H2 D (.lst [])) fp).h _ s7 σ5 H7 x u _ I7' r7 (step x H7 y7)) fun _ s8 hz=>?_;obtain⟨σ8,H8,I8,q8⟩:=hz;have fin:∀{s10:QQ} {H10:Hp},Inv (cxC X Nc scope cl s3 (upd H2 D (.lst [])) fp) _ σ8 H10 s10->N σ8 H10->∃m',m'<n'/\∃i' σ' H',Inv (cxC X Nc scope cl s3 (upd H2 D (.lst [])) fp) [] σ' H' s10/\tnn i' s10.heap/\(∀b∈fp,H' b=none)/\W i' m' σ' H':=fun{s10 H10} I10 q10=>by
    obtain⟨m',hm,w10⟩:=hN' σ8 H10 q10;refine⟨m',hm,i+1,σ8,H10,Inv.unpinned I10,T.keep _ _ _ st7 fun b hb o e=>(Inv.pin I10 (b,o) (Qt _ (Qt _ (dN hb e)))).1,fun b hb=>?_,w10⟩;obtain⟨o,e,d⟩:=T.obj _ _ st7 b hb;exact(Inv.pin I10 (b,o) (Qt _ (Qt _ (dN hb e)))).2.1
   refine thn ((ht s3 (upd H2 D (.lst [])) fp).h _ s8 σ8 H8 _ I8 q8) fun b9 s9' h9=>?_;obtain⟨H9',I9',q9'⟩:=h9;cases b9 with
   |false=>exact fin I9' q9'
   |true=>
    refine thn ((he s3 (upd H2 D (.lst [])) fp).h _ s9' σ8 H9' _ I9' q9') fun v9 s9 hz=>?_;obtain⟨x9,H9,I9,r9,ys,hy,hlt,q9⟩:=hz;exact thn (kF (X:=cxC X Nc scope cl s3 (upd H2 D (.lst [])) fp) _ s9 σ8 H9 (.ref D) [x9] (.ref D) [v9] (fun _ H'=>N σ8 H') I9 rfl (.cons r9 .nil) ⟨D,ys,x9,rfl,rfl,hy,hlt,q9⟩) fun _ s10 ⟨_,H10,I10,_,q10⟩=>fin I10 q10
 have e4:∀t',({ s2 with heap:=h₁,toks:=t' }:QQ)={ s3 with heap:=h₁,toks:=t' }:=fun t'=>by rw[<-hs3]
 refine codeAny_compStart_list (loop _ ⟨_,e4 _⟩) (T.self _ 0 _ _ _ (T.keep 0 _ _ st2 fun b hb o e=>kept _ _ (old _ _ e)) (loop _ ⟨_,e4 _⟩))
theorem sv{X:Cx}{Nc capN tn:List Str}{scope:X2}{cl:List (Str×Addr)}{n:Nat}{caps:List Nat}{tg iter elt:Qq}{pos:Pos}{wi:TI}{g:TG}{te:TE}{tt:TT}{c:Qq}
  (hc:X.calm=true) (hi:WI X tg iter wi) (hg:∀s3 H3 fp,WG (cxC X Nc scope cl s3 H3 fp) tg g) (he:∀s3 H3 fp,WE (cxC X Nc scope cl s3 H3 fp) elt te)
  (ht:∀s3 H3 fp,WT (cxC X Nc scope cl s3 H3 fp) c tt)
  (hclos:closureFor scope X.env=pure cl) (hkind:scope.kind=.function) (hnl:∀x∈scope.names,x.2=.local->scope.names.lookup x.1=some .local) (hcell:∀x∈scope.names,x.2≠.cell)
  (hcl:ph X.env cl) (hhas:((relabel scope X.env).names.all fun p=>!(p.2 == .cell||p.2 == .free)||(cl.lookup p.1).isSome)=true)
  (hcap:Paired (Cap X scope cl) caps capN) (hN:Nc=tn++capN) (hn:tn.length=n)
  (hs:∀x,foldedSetIterable iter X.env x=pure x:=by intro _;rfl) :
  WE X (.ListComp elt [⟨tg,iter,[c],0⟩] scope pos) (mM wi g tt te n caps):=by
 constructor;intro pins s σ H Q I h;rw[eval_ListComp];refine mC hc hi hg he ht hclos hkind hnl hcell hcl hhas hcap hN hn I h (fun D C s6 H5 m I7 hm fr nl sz cn pn qn=>⟨m,hm,fun h' hs'=>?_⟩) hs;exact⟨.ref D,H5,I7.turned (t':=s6.toks) (it:=C) (fun b o hb e=>hs'.extBut b o hb e) fr nl (.inr sz) cn pn,rfl,qn⟩
end OG
namespace OP
open PySem PySem.Spec PyProof.Rows L2 OG
open Classical in
def bO(ok:Sto->Prop)(g:CG)(ct:CT)(ce:CE)(l:Nat):List U->Rho->Sto->Option Sto
 |[],_,S=>if ok S then some S else none
 |u::us,ρ,S=>if ok S then(g u ρ S).bind fun p=>(ct p.1 p.2).bind fun q=>if q.1=true then(ce p.1 q.2).bind fun r=>match r.2[l]? with
  |some (.lst ys)=>if ys.length<LIM then bO ok g ct ce l us p.1 (r.2.set l (.lst (ys++[r.1])))else none
  |_=>none else bO ok g ct ce l us p.1 q.2 else none
def cm(ci:CI)(g:CG)(ct:CT)(ce:CE)(n:Nat)(caps:List Nat):CE:=fun ρ S=>(ci ρ S).bind fun p=>(bO p.2.1 g ct ce p.2.2.length p.1 (mh n caps ρ) (p.2.2++[.lst []])).bind fun S'=>some (.ref p.2.2.length,S')
section
variable{X:Cx}{K:Q5}
theorem qi{g:CG}{ct:CT}{ce:CE}{n:Nat}{caps:List Nat}{J:It}{us:List U}{ok:Sto->Prop}{Q:VK}{m1:List Addr}{H1:Hp}{S1 S':Sto}{ρ:Rho}{σ:L2.St}{l:Addr}(sr1:Sr K m1 S1 H1)(lr:Lr K m1 H1 ρ σ)(ito:z9 K J m1 H1 us ok)(hl:H1 l=none)(h2:bO ok g ct ce S1.length us (mh n caps ρ) (S1++[.lst []])=some S')
  (post:∀m2 H2,Ext K (m1++[l]) (upd H1 l (.lst [])) m2 H2->Sr K m2 S' H2->Q (.ref l) H2) :
  ∃W:Nat->Nat->L2.St->Hp->Prop,(∃m,W 0 m (OG.stC n caps σ) (upd H1 l (.lst [])))/\
 ∀i m σ' H2,W i m σ' H2->(J.stop i H2/\Q (.ref l) H2)\/(J.go i H2/\∃N:L2.St->Hp->Prop,(∀σ'' H',N σ'' H'->∃m',m'<m/\W (i+1) m' σ'' H')/\
  ∀x H3,J.yld i H2 x H3->tG K g x σ' H3 fun σ2 H4=>tT K ct σ2 H4 fun b H5=>match b with
   |true=>tE K ce σ2 H5 fun v H6=>∃ys,H6 l=some (.lst ys)/\ys.length<QN/\N σ2 (upd H6 l (.lst (ys++[v])))
   |false=>N σ2 H5):=by
 have ee:Ext K m1 H1 (m1++[l]) (upd H1 l (.lst [])):=.new (bC hl _);let W:Nat->Nat->L2.St->Hp->Prop:=fun i k σ2 H2=>k=us.length-i/\i<=us.length/\∃m2 ρ2 S2,Ext K (m1++[l]) (upd H1 l (.lst [])) m2 H2/\Sr K m2 S2 H2/\Lr K m2 H2 ρ2 σ2/\bO ok g ct ce S1.length (us.drop i) ρ2 S2=some S'
 refine⟨W,⟨us.length,by simp,ZN _,m1++[l],mh n caps ρ,S1++[.lst []],.refl,sr1.new (o:=.lst []) hl ⟨[],aP,.nil_⟩,vU (lr.mono ee),by simpa using h2⟩,?_⟩;rintro i k σ2 H2 ⟨rfl,hi,m2,ρ2,S2,e2,sr2,lr2,hl2⟩;by_cases hlt:i<us.length
 ·have hu:=Q7 hlt;rw[kW hu]at hl2;unfold bO at hl2;split at hl2
  ·rename_i hok;obtain⟨⟨ρ3,S3⟩,h3,hl2⟩:=Q0.mp hl2;obtain⟨⟨b4,S4⟩,h4,hl2⟩:=Q0.mp hl2;obtain⟨hgo,hy⟩:=(ito m2 S2 H2 i (ee.trans e2) sr2 hok).1 _ hu;refine .inr ⟨hgo,W (i+1) (us.length-(i+1)),fun σ' H' w'=>⟨_,by omega,w'⟩,fun x H3 y=>?_⟩;obtain⟨e3,sr3,ix⟩:=hy x H3 y;refine⟨m2,ρ2,S2,_,ρ3,S3,sr3,lr2.mono e3,ix,h3,fun m4 σ4 H4 e4 sr4 lr4=>⟨m4,ρ3,S3,b4,S4,sr4,lr4,h4,fun m4' H4' e4' sr4'=>?_⟩⟩;cases b4 with
   |false=>
    rw[if_neg QC]at hl2;exact⟨rfl,hlt,m4',ρ3,_,(((e2.trans e3).trans e4).trans e4'),sr4',lr4.mono e4',hl2⟩
   |true=>
    rw[if_pos rfl]at hl2;obtain⟨⟨u5,S5⟩,h5,hl2⟩:=Q0.mp hl2;simp only at hl2;split at hl2<;>try cases hl2
    rename_i ys hys;split at hl2<;>try cases hl2
    rename_i hlen;refine⟨m4',ρ3,S4,u5,S5,sr4',lr4.mono e4',h5,fun m5 v5 H5 e5 sr5 i5=>?_⟩;obtain⟨a',ha',xs,hx,il⟩:=sr5.get hys;have ha:m5[S1.length]?=some l:=((((e2.trans e3).trans e4).trans e4').trans e5).get (dF sr1.len);rw[ha]at ha';cases ha';have eu:Ext K m5 H5 m5 (upd H5 l (.lst (xs++[v5]))):=.of (sr5.keep ha _);exact⟨xs,hx,Fx (by rw[il.length];exact hlen),rfl,hlt,m5,ρ3,_,(((((e2.trans e3).trans e4).trans e4').trans e5).trans eu),sr5.put (o:=.lst (ys++[u5])) ha ⟨_,aP,(il.append (.cons_ i5 .nil_)).mono eu⟩,(lr4.mono ((e4'.trans e5).trans eu)),hl2⟩
  ·cases hl2
 ·have e:i=us.length:=by omega
  subst e;rw[List.drop_length]at hl2;unfold bO at hl2;split at hl2
  ·rename_i hok;cases hl2;exact .inl ⟨(ito m2 _ H2 _ (ee.trans e2) sr2 hok).2 (QJ _),post m2 H2 e2 sr2⟩
  ·cases hl2
theorem mB{ci:CI}{g:CG}{ct:CT}{ce:CE}{n:Nat}{caps:List Nat}:∀σ H Q,tE K (cm ci g ct ce n caps) σ H Q->mM (tI K ci) (tG K g) (tT K ct) (tE K ce) n caps σ H Q:=by
 rintro σ H Q ⟨m,ρ,S,u,S',sr,lr,hc,post⟩;obtain⟨⟨us,ok,S1⟩,h1,h2⟩:=Q0.mp hc;obtain⟨S2,h2,h3⟩:=Q0.mp h2;cases h3;refine⟨m,ρ,S,us,ok,S1,sr,lr,h1,fun m1 H1 J e1 sr1 ito l hl=>?_⟩;have ee:Ext K m1 H1 (m1++[l]) (upd H1 l (.lst [])):=.new (bC hl _);exact qi sr1 (lr.mono e1) ito hl h2 fun m2 H2 e2 sr2=>post m2 _ H2 ((e1.trans ee).trans e2) sr2 (.ref_ (e2.get (dF sr1.len)))
theorem qT{Nc capN tn:List Str}{scope:X2}{cl:List (Str×Addr)}{n:Nat}{caps:List Nat}{tg iter elt:Qq}{pos:Pos}{ci:CI}{g:CG}{ct:CT}{ce:CE}{c:Qq}
  (hc:X.calm=true) (hi:QI X tg iter ci) (hg:∀s3 H3 fp,WG (cxC X Nc scope cl s3 H3 fp) tg (tG X.K g)) (ht:∀s3 H3 fp,WT (cxC X Nc scope cl s3 H3 fp) c (tT X.K ct)) (he:∀s3 H3 fp,WE (cxC X Nc scope cl s3 H3 fp) elt (tE X.K ce))
  (hclos:closureFor scope X.env=pure cl) (hkind:scope.kind=.function) (hnl:∀x∈scope.names,x.2=.local->scope.names.lookup x.1=some .local) (hcell:∀x∈scope.names,x.2≠.cell)
  (hcl:ph X.env cl) (hhas:((relabel scope X.env).names.all fun p=>!(p.2 == .cell||p.2 == .free)||(cl.lookup p.1).isSome)=true)
  (hcap:Paired (Cap X scope cl) caps capN) (hN:Nc=tn++capN) (hn:tn.length=n)
  (hs:∀x,foldedSetIterable iter X.env x=pure x:=by intro _;rfl) :
  QE X (.ListComp elt [⟨tg,iter,[c],0⟩] scope pos) (cm ci g ct ce n caps):=(sv hc hi hg he ht hclos hkind hnl hcell hcl hhas hcap hN hn hs).imp mB
end
end OP
namespace OP
open PySem PySem.Spec PyProof PyProof.Rows L2 OG
mutual
inductive RdV(K:Q5)(H:Hp):V->PyData->Prop
 |non:RdV K H .non .none
 |bl (b:Bool):RdV K H (.bl b) (.bool b)
 |int (i:Int):RdV K H (.int i) (.int i)
 |str (x:Str):RdV K H (.str x) (.str x)
 |lst {a:Addr} {xs:List V} {ds:List PyData}:SqL K H a xs->xF K H xs ds->RdV K H (.ref a) (.list ds)
 |tup {a:Addr} {xs:List V} {ds:List PyData}:SqT K H a xs->xF K H xs ds->RdV K H (.ref a) (.tuple ds)
inductive xF(K:Q5)(H:Hp):List V->List PyData->Prop
 |nil:xF K H [] []
 |cons {x:V} {xs:List V} {d:PyData} {ds:List PyData}:RdV K H x d->xF K H xs ds->xF K H (x::xs) (d::ds)
end
mutual
inductive Dt(S:Sto):U->PyData->Prop
 |non:Dt S .non .none
 |bl (b:Bool):Dt S (.bl b) (.bool b)
 |int (i:Int):Dt S (.int i) (.int i)
 |str (x:Str):Dt S (.str x) (.str x)
 |lst {l:Nat} {us:List U} {ds:List PyData}:S[l]?=some (.lst us)->DtL S us ds->Dt S (.ref l) (.list ds)
 |tup {us:List U} {ds:List PyData}:DtL S us ds->Dt S (.tup us) (.tuple ds)
inductive DtL(S:Sto):List U->List PyData->Prop
 |nil:DtL S [] []
 |cons {x:U} {xs:List U} {d:PyData} {ds:List PyData}:Dt S x d->DtL S xs ds->DtL S (x::xs) (d::ds)
end
section
variable{X:Cx}{K:Q5}{pins:List (Addr×Obj)}{σ:L2.St}{H:Hp}{s:QQ}
mutual
theorem RdV.reads(I:Inv X pins σ H s):∀{x:V} {d:PyData} {v:Q6},RdV X.K H x d->bX x v->∃as,Reads s.heap v d as
 |_,_,_,.non,r=>by cases r;exact⟨_,.none⟩
 |_,_,_,.bl b,r=>by cases r;exact⟨_,.bool b⟩
 |_,_,_,.int i,r=>by obtain⟨t,rfl⟩:=r;exact⟨_,.int i t⟩
 |_,_,_,.str i,r=>by obtain⟨t,rfl⟩:=r;exact⟨_,.str i t⟩
 |_,_,_,.lst (a:=a) h t,r=>by
  cases r;obtain⟨its,rv,pl,_⟩:=I.list h;obtain⟨as,k⟩:=xF.reads I t rv;obtain⟨o,h1,h2,n,h3⟩:=pl.isList;exact⟨_,.list h1 h2 h3 (by simpa using k)⟩
 |_,_,_,.tup (a:=a) h t,r=>by
  cases r;obtain⟨its,rv,pl,_⟩:=I.tuple h;obtain⟨as,k⟩:=xF.reads I t rv;obtain⟨o,h1,h2,n,h3⟩:=pl;exact⟨_,.tuple h1 h2 h3 (by simpa using k)⟩
theorem xF.reads(I:Inv X pins σ H s):∀{xs:List V} {ds:List PyData} {vs:List Q6},xF X.K H xs ds->bh xs vs->∃as,ReadsAll s.heap vs ds as
 |_,_,_,.nil,r=>by cases r;exact⟨_,.nil⟩
 |_,_,_,.cons h t,.cons r rs=>by
  obtain⟨as,a⟩:=RdV.reads I h r;obtain⟨bs,b⟩:=xF.reads I t rs;exact⟨_,.cons a b⟩
end
mutual
theorem Dt.rd{m:List Addr}{S:Sto}(sr:Sr K m S H):∀{u:U} {d:PyData} {v:V},Dt S u d->Is K m H v u->RdV K H v d
 |_,_,_,.non,i=>by rw[i.of_non];exact .non
 |_,_,_,.bl b,i=>by rw[i.of_bl];exact .bl b
 |_,_,_,.int b,i=>by rw[i.of_int];exact .int b
 |_,_,_,.str b,i=>by rw[i.of_str];exact .str b
 |_,_,_,.lst h t,i=>by
  obtain⟨a,ha,rfl⟩:=i.of_ref;obtain⟨a',ha',xs,hx,il⟩:=sr.get h;rw[ha]at ha';cases ha';exact .lst (SqL.of hx) (DtL.rd sr t il)
 |_,_,_,.tup t,i=>by
  obtain⟨a,xs,rfl,sa,la⟩:=i.of_tup;exact .tup sa (DtL.rd sr t la)
theorem DtL.rd{m:List Addr}{S:Sto}(sr:Sr K m S H):∀{us:List U} {ds:List PyData} {vs:List V},DtL S us ds->IsL K m H vs us->xF K H vs ds
 |_,_,_,.nil,i=>by rw[i.of_nil];exact .nil
 |_,_,_,.cons h t,i=>by
  obtain⟨x,r,rfl,i1,i2⟩:=i.of_cons;exact .cons (Dt.rd sr h i1) (DtL.rd sr t i2)
end
mutual
theorem Dt.uniq{S:Sto}:∀{u:U} {d e:PyData},Dt S u d->Dt S u e->d=e
 |_,_,_,.non,.non=>rfl
 |_,_,_,.bl _,.bl _=>rfl
 |_,_,_,.int _,.int _=>rfl
 |_,_,_,.str _,.str _=>rfl
 |_,_,_,.lst h t,.lst h' t'=>by
  rw[h]at h';cases h';rw[DtL.uniq t t']
 |_,_,_,.tup t,.tup t'=>by rw[DtL.uniq t t']
theorem DtL.uniq{S:Sto}:∀{us:List U} {ds es:List PyData},DtL S us ds->DtL S us es->ds=es
 |_,_,_,.nil,.nil=>rfl
 |_,_,_,.cons h t,.cons h' t'=>by rw[Dt.uniq h h',DtL.uniq t t']
end
def xI(d:PyData):Prop:=d.canLay0=true/\d.depth<=60
def H0(K:Q5)(neg:Bool):R2:=fun x y H Q=>(∃dx dy,RdV K H x dx/\RdV K H y dy/\xI dx/\xI dy/\Q (.bl (if neg then !dx.eqv dy else dx.eqv dy)) H)\/
 ∃a b xs ys,x=.ref a/\y=.ref b/\SqL K H a xs/\SqL K H b ys/\xs.length≠ys.length/\Q (.bl neg) H
theorem Ay(hu:X.A.units+64<cLine):OpR X (compareOp .Eq) (H0 X.K false):=by
 rintro pins s σ H x y v u Q I rx ry (⟨dx,dy,hx,hy,lx,ly,q⟩|⟨a,b,xs,ys,rfl,rfl,ha,hb,ne,q⟩)
 ·obtain⟨as,hx⟩:=hx.reads I rx;obtain⟨bs,hy⟩:=hy.reads I ry;exact SeqAt.compareEq_reads hx hy lx.1 ly.1 (by have:=lx.2;omega) ⟨.bl _,H,I,rfl,q⟩
 ·cases rx;cases ry;obtain⟨i1,r1,p1,_⟩:=I.list ha;obtain⟨i2,r2,p2,_⟩:=I.list hb;have l1:=r1.length;have l2:=r2.length;exact SeqAt.RcAt.lists_lengths p1.isList p2.isList (by simp;omega) (by omega) X.prog X.w X.xe _ ⟨.bl false,H,I,rfl,q⟩
theorem Fh(hu:X.A.units+64<cLine):OpR X (compareOp .NotEq) (H0 X.K true):=by
 rintro pins s σ H x y v u Q I rx ry (⟨dx,dy,hx,hy,lx,ly,q⟩|⟨a,b,xs,ys,rfl,rfl,ha,hb,ne,q⟩)
 ·obtain⟨as,hx⟩:=hx.reads I rx;obtain⟨bs,hy⟩:=hy.reads I ry;exact SeqAt.compareNe_reads hx hy lx.1 ly.1 (by have:=lx.2;omega) ⟨.bl _,H,I,rfl,q⟩
 ·cases rx;cases ry;obtain⟨i1,r1,p1,_⟩:=I.list ha;obtain⟨i2,r2,p2,_⟩:=I.list hb;have l1:=r1.length;have l2:=r2.length;exact SeqAt.RcNeAt.lists_lengths p1.isList p2.isList (by simp;omega) (by omega) X.prog X.w X.xe _ ⟨.bl true,H,I,rfl,q⟩
def xQ(x y:U)(S:Sto)(b:Bool):Prop:=(∃dx dy,Dt S x dx/\Dt S y dy/\xI dx/\xI dy/\b=dx.eqv dy)\/∃l l' us vs,x=.ref l/\y=.ref l'/\S[l]?=some (.lst us)/\S[l']?=some (.lst vs)/\us.length≠vs.length/\b=false
theorem DtL.length{S:Sto}:∀{us:List U} {ds:List PyData},DtL S us ds->us.length=ds.length
 |_,_,.nil=>rfl
 |_,_,.cons _ t=>by rw[QD,QD,DtL.length t]
theorem xQ.mix{l l':Nat}{us vs:List U}{S:Sto}{dx dy:PyData}(h1:Dt S (.ref l) dx)(h2:Dt S (.ref l') dy)(k1:S[l]?=some (.lst us))(k2:S[l']?=some (.lst vs))(ne:us.length≠vs.length):dx.eqv dy=false:=by
 cases h1 with
 |lst a1 t1=>
  cases h2 with
  |lst a2 t2=>
   rw[k1]at a1;cases a1;rw[k2]at a2;cases a2;show PyData.eqvAll _ _=false;exact SeqAt.eqvAll_other_length (by rw[<-t1.length,<-t2.length];exact ne)
theorem xQ.uniq{x y:U}{S:Sto}{b c:Bool}(h:xQ x y S b)(k:xQ x y S c):b=c:=by
 rcases h with⟨dx,dy,h1,h2,_,_,rfl⟩|⟨l,l',us,vs,rfl,rfl,h1,h2,ne,rfl⟩
 ·rcases k with⟨ex,ey,k1,k2,_,_,rfl⟩|⟨l,l',us,vs,rfl,rfl,k1,k2,ne,rfl⟩
  ·rw[h1.uniq k1,h2.uniq k2]
  ·exact xQ.mix h1 h2 k1 k2 ne
 ·rcases k with⟨ex,ey,k1,k2,_,_,rfl⟩|⟨_,_,_,_,_,_,_,_,_,rfl⟩
  ·exact(xQ.mix k1 k2 h1 h2 ne).symm
  ·rfl
open Classical in
def rN(neg:Bool):U->U->Sto->Option (U×Sto):=fun x y S=>if h:∃b,xQ x y S b then some (.bl (if neg then !h.choose else h.choose),S)else none
theorem p8{x y:U}{S:Sto}{b:Bool}(neg:Bool)(h:xQ x y S b):rN neg x y S=some (.bl (if neg then !b else b),S):=by
 unfold rN;rw[dif_pos ⟨b,h⟩];have e:(⟨b,h⟩:∃b,xQ x y S b).choose=b:=(Exists.choose_spec (⟨b,h⟩:∃b,xQ x y S b)).uniq h;rw[e]
theorem Cp{neg:Bool}:OpP K (H0 K neg) (rN neg):=by
 intro m S H x y v w u S' Q sr ix iy hf post;unfold rN at hf;split at hf<;>try cases hf
 rename_i h;have hb:=h.choose_spec;generalize h.choose=b at hb post;rcases hb with⟨dx,dy,h1,h2,l1,l2,rfl⟩|⟨l,l',us,vs,rfl,rfl,h1,h2,ne,rfl⟩
 ·exact .inl ⟨dx,dy,h1.rd sr ix,h2.rd sr iy,l1,l2,post m _ H .refl sr .bl_⟩
 ·obtain⟨a,ha,rfl⟩:=ix.of_ref;obtain⟨a',ha',xs,hx,la⟩:=sr.get h1;rw[ha]at ha';cases ha';obtain⟨c,hc,rfl⟩:=iy.of_ref;obtain⟨c',hc',ys,hy,lc⟩:=sr.get h2;rw[hc]at hc';cases hc';refine .inr ⟨a,c,xs,ys,rfl,rfl,SqL.of hx,SqL.of hy,by rw[la.length,lc.length];exact ne,?_⟩;have e:(if neg=true then !false else false)=neg:=by cases neg<;>rfl
  have:=post m _ H .refl sr (Is.bl_ (b:=if neg=true then !false else false));rw[e]at this;exact this
def jM(us:List U)(lo hi:Option Int):List U:=(us.drop (HT.sIx us.length 0 lo)).take (HT.sIx us.length us.length hi-HT.sIx us.length 0 lo)
theorem rO{m:List Addr}{xs:List V}{us:List U}{lo hi:Option Int}(i:IsL K m H xs us):IsL K m H (AQ xs lo hi) (jM us lo hi):=by
 unfold AQ jM;rw[i.length];exact(i.drop _).take _
def fSl(x:U)(lo hi:Option Int)(S:Sto):Option (U×Sto):=match x with
 |.tup us=>if HT.sIx us.length 0 lo=0/\HT.sIx us.length us.length hi=us.length then none else some (.tup (jM us lo hi),S)
 |.ref l=>match S[l]? with
  |some (.lst us)=>some (.ref S.length,S++[.lst (jM us lo hi)])
  |_=>none
 |_=>none
def lQ:Option CE->Rho->Sto->Option (Option Int×Sto)
 |none,_,S=>some (none,S)
 |some c,ρ,S=>(c ρ S).bind fun p=>match p.1 with
  |.int i=>some (some i,p.2)
  |_=>none
def cSl(ca:CE)(cl ch:Option CE):CE:=fun ρ S=>(ca ρ S).bind fun p=>(lQ cl ρ p.2).bind fun q=>(lQ ch ρ q.2).bind fun r=>fSl p.1 q.1 r.1 r.2
def Jw(K:Q5)(m:List Addr)(H:Hp)(Q:Option Int->Hp->Prop)(o:Option Int)(S':Sto):Prop:=∀m' H',Ext K m H m' H'->Sr K m' S' H'->Q o H'
def tO(K:Q5)(c:Option CE):TO:=fun σ H Q=>∃m ρ S o S',Sr K m S H/\Lr K m H ρ σ/\lQ c ρ S=some (o,S')/\Jw K m H Q o S'
abbrev QO(X:Cx)(e:Option Qq)(c:Option CE):Prop:=WO X e (tO X.K c)
theorem dz:QO X none none:=⟨fun pins s σ H Q I hz=>gN hz fun m ρ S o S' sr lr hc post=>yb.h pins s σ H Q I (by cases hc;exact post m H .refl sr)⟩
theorem dw{e:Qq}{ca:CE}(h:QE X e ca):QO X (some e) (some ca):=⟨fun pins s σ H Q I hz=>gN hz fun m ρ S o S' sr lr hc post=>(ya h).h pins s σ H Q I (by
 obtain⟨⟨x,S1⟩,h1,h2⟩:=Q0.mp hc;refine⟨m,ρ,S,x,S1,sr,lr,h1,fun m1 v1 H1 e1 sr1 i1=>?_⟩;cases x<;>simp at h2;obtain⟨rfl,rfl⟩:=h2;exact⟨_,i1.of_int,post m1 H1 e1 sr1⟩)⟩
theorem Ky{e:Qq}{lo hi:Option Qq}{ca:CE}{cl ch:Option CE}{pos p2:Pos}(ha:QE X e ca)(hl:QO X lo cl)(hh:QO X hi ch):QE X (.Subscript e (.Slice lo hi none p2) pos) (cSl ca cl ch):=(nJ (uP.or Ai) ha hl hh).imp fun σ H Q hz=>gN hz fun m ρ S u S' sr lr hc post=>by
 obtain⟨⟨x,S1⟩,h1,ha⟩:=Q0.mp hc;obtain⟨⟨l,S2⟩,h2,hb⟩:=Q0.mp ha;obtain⟨⟨k,S3⟩,h3,h⟩:=Q0.mp hb;clear ha hb hc;refine⟨m,ρ,S,x,S1,sr,lr,h1,fun m1 v1 H1 e1 sr1 i1=>⟨m1,ρ,S1,l,S2,sr1,lr.mono e1,h2,fun m2 H2 e2 sr2=>⟨m2,ρ,S2,k,S3,sr2,lr.mono (e1.trans e2),h3,fun m3 H3 e3 sr3=>?_⟩⟩⟩;have i3:=i1.mono (e2.trans e3);have e03:=(e1.trans e2).trans e3;cases x with
 |tup us=>
  simp only[fSl]at h;split at h<;>try cases h
  rename_i hw;obtain⟨a,xs,rfl,sa,la⟩:=i3.of_tup;exact .inr ⟨a,xs,rfl,sa,by rw[la.length];exact hw,fun p hp=>iB sr3 (rO la) (post.mono e03) hp⟩
 |ref r=>
  simp only[fSl]at h;split at h<;>try cases h
  rename_i us hS;obtain⟨a,ha,rfl⟩:=i3.of_ref;obtain⟨a',ha',xs,hx,la⟩:=sr3.get hS;rw[ha]at ha';cases ha';exact .inl ⟨a,xs,rfl,SqL.of hx,fun p hp=>b8 sr3 (rO la) (post.mono e03) hp⟩
 |_=>simp[fSl]at h
end
section
variable{X:Cx}{K:Q5}
def BX(K:Q5):R2:=fun x y H Q=>∃a k xs,x=.ref a/\y=.int k/\SqT K H a xs/\xs≠[]/\1<=k/\xs.length*k.toNat<=1000/\∀q H',tQ H H'->SqT K H' q (Qr k.toNat xs).flatten->Q (.ref q) H'
theorem Cq:OpR X (binaryOp .Mult) (BX X.K):=by
 intro pins s σ H x y v u Q I rx ry h;obtain⟨a,k,xs,rfl,rfl,ha,hne,hk,hz,q⟩:=h;cases rx;obtain⟨t,rfl⟩:=ry;obtain⟨its,r1,p1,hzz⟩:=I.tuple ha;have hlen:=r1.length;obtain⟨⟨cls,dd,data,sl⟩,ho,hc,n,hd⟩:=id p1;simp only at hc hd;subst hc hd;have hne':its≠[]:=fun z=>hne (r1.nil_iff.mp z);refine wpAny_binaryOp_repeat_ref (T:="tuple") (U:="int") (by decide) ⟨_,ho,rfl⟩ (fun s'=>typeIs_int s' k t) jB F.fills_int_mul F.slot_int_rmul n8 F.slot_int_index.lookup
  (call_meets F.slot_int_rmul (typeIs_int s k t) F.entry_int_rmul (F.args_int_rmul_2 _ _) (lL k t a its.toArray n dd sl) ⟨ho,rfl,⟨_,ho,rfl⟩,?_⟩)
 by_cases k1:k=1
 ·subst k1;refine call_meets F.slot_tuple_mul ⟨_,ho,rfl⟩ F.entry_tuple_mul (F.args_tuple_mul_2 _ _) (pE a its.toArray n dd sl t) ⟨ho,⟨.ref a,H,I,rfl,q a H (.refl _) ?_⟩⟩;simpa using ha
 ·have hfold:List.foldl (fun x1 x2=>x1++x2) #[] (Qr k.toNat its.toArray)=(Qr k.toNat its).flatten.toArray:=by
   have:=kN its k.toNat [];rw[ZX]at this;exact this
  have hfl:(Qr k.toNat its).flatten.length<=1000:=by rw[pR,<-hlen,Nat.mul_comm];exact hz
  have hlp:0<its.length:=List.length_pos_iff.mpr hne';have hk2:k.toNat<=1000:=Qo (Nat.le_mul_of_pos_left _ (by rw[hlen];exact hlp)) hz;have hsz:(its.toArray.size:Int)*k<=1000:=by
   rw[QM,<-hlen];have e:k=((k.toNat:Nat):Int):=by omega
   rw[e,<-Int.natCast_mul];omega
  refine call_meets F.slot_tuple_mul ⟨_,ho,rfl⟩ F.entry_tuple_mul (F.args_tuple_mul_2 _ _) (pD a its.toArray n dd sl k t ?_ ?_ ?_ ?_ ?_ ?_) ⟨ho,?_⟩
  ·simp;omega
  ·simp[hne',k1]
  ·simp[hne'];omega
  ·omega
  ·unfold Builtin.Tuple.tupleTooMany;have:¬(its.toArray.size:Int)*k>(QN:Int):=by
    have:(1000:Nat)<=QN:=nW (QJ _);omega
   simpa using this
  ·rw[hfold,QM];exact nW hfl
  ·rw[hfold];refine⟨.ref s.heap.objs.size,_,I.laid (t':=s.toks) (o:=.tup (Qr k.toNat xs).flatten) (fun b ob q=>Q4 _ q) (QJ _) ?_,rfl,q _ _ (dE (I.hok.fresh (QJ _)) _) (SqT.of aP)⟩;exact⟨nW (by rw[pR,Nat.mul_comm];exact hz),_,r1.rep k.toNat,xP.new _ _⟩
def tq:U->U->Sto->Option (U×Sto)
 |.int i,.int j,S=>if xJ i j then some (.int (i*j),S)else none
 |.tup us,.int k,S=>if us≠[]/\1<=k/\us.length*k.toNat<=1000 then some (.tup (Qr k.toNat us).flatten,S)else none
 |.ref l,.int k,S=>match S[l]? with
  |some (.lst us)=>if 0<=k/\k<=100000/\us.length*k.toNat<=LIM then some (.ref S.length,S++[.lst (Qr k.toNat us).flatten])else none
  |_=>none
 |_,_,_=>none
theorem Az:OpR X (binaryOp .Mult) (fun x y H Q=>rI xJ (fun i j=>.int (i*j)) x y H Q\/(BX X.K x y H Q\/HY x y H Q)):=gq.or (Cq.or Ff)
instance {us:List U}:Decidable (us≠[]):=match us with
 |[]=>.isFalse fun h=>h rfl
 |_::_=>.isTrue fun h=>by cases h
theorem Aw:OpP K (fun x y H Q=>rI xJ (fun i j=>.int (i*j)) x y H Q\/(BX K x y H Q\/HY x y H Q)) tq:=by
 intro m S H x y v w u S' Q sr ix iy hf post;cases x<;>cases y<;>simp only[tq]at hf<;>try cases hf
 ·split at hf<;>try cases hf
  rename_i hc;exact .inl ⟨_,_,ix.of_int,iy.of_int,hc,post m _ H .refl sr .int_⟩
 ·rename_i us k;split at hf<;>try cases hf
  rename_i hc;obtain⟨a,xs,rfl,sa,la⟩:=ix.of_tup;refine .inr (.inl ⟨a,k,xs,rfl,iy.of_int,sa,fun z=>hc.1 ?_,hc.2.1,by rw[la.length];exact hc.2.2,fun q H' s sq=>?_⟩)
  ·subst z;have:=la.length;exact List.length_eq_zero_iff.mp this.symm
  ·exact post m _ H' (.of (cH s)) (sr.same s) (.tup_ sq ((la.rep k.toNat).mono (.of (cH s))))
 ·rename_i l k;split at hf<;>try cases hf
  rename_i us hS;split at hf<;>try cases hf
  rename_i hc;obtain⟨a,ha,rfl⟩:=ix.of_ref;obtain⟨a',ha',xs,hx,la⟩:=sr.get hS;rw[ha]at ha';cases ha';exact .inr (.inr ⟨a,k,xs,rfl,iy.of_int,hx,by omega,by omega,lim (by rw[la.length];exact hc.2.2),fun p hp=>b8 sr (la.rep k.toNat) post hp⟩)
end
end OP
namespace OG
open PySem PySem.Spec PyProof.Rows L2
theorem AA{C a:Addr}{m:Str->Option Q6}{h h':Heap}(n:h.Ns C m)(s:Heap.SameBut a h h')(ne:C≠a):h'.Ns C m:=by
 obtain⟨o,es,ep,e,r⟩:=n;exact⟨o,es,ep,(s.2 C ne).trans e,r⟩
theorem sj{X:Cx}{Nc capN tn:List Str}{scope:X2}{cl:List (Str×Addr)}{n:Nat}{caps:List Nat}{tg iter elt:Qq}{pos:Pos}{wi:TI}{g:TG}{te:TE}
  (hc:X.calm=true) (hi:WI X tg iter wi) (hg:∀s3 H3 fp,WG (cxC X Nc scope cl s3 H3 fp) tg g) (he:∀s3 H3 fp,WE (cxC X Nc scope cl s3 H3 fp) elt te)
  (hclos:closureFor scope X.env=pure cl) (hkind:scope.kind=.function) (hnl:∀x∈scope.names,x.2=.local->scope.names.lookup x.1=some .local) (hcell:∀x∈scope.names,x.2≠.cell)
  (hcl:ph X.env cl) (hhas:((relabel scope X.env).names.all fun p=>!(p.2 == .cell||p.2 == .free)||(cl.lookup p.1).isSome)=true)
  (hcap:Paired (Cap X scope cl) caps capN) (hN:Nc=tn++capN) (hn:tn.length=n)
  {i₀:Nat} {x₀:Str} {pos₀ pos':Pos} (hN0:X.N.Nodup) (hi0:X.N[i₀]?=some x₀) (hx0:X.env.scope.names.lookup x₀=some .local)
  (hsw:Ze (.ListComp elt [⟨tg,iter,[],0⟩] scope pos) (some (.Name x₀ pos')) pos₀.line X.env=pure true)
  (hs:∀x,foldedSetIterable iter X.env x=pure x:=by intro _;rfl) :
  WS X (.Assign [.Name x₀ pos'] (.ListComp elt [⟨tg,iter,[],0⟩] scope pos) pos₀) (fun D σ H=>yu wi g te n caps σ H fun v H'=>D.nx (σ.set i₀ (some v)) H'):=by
 constructor;intro pins s σ H Dn I h;rw[exec_Assign_arm];refine Q2 (wpAny_standAt ?_);have hsw':swapsWithSole [.Name x₀ pos'] (.ListComp elt [⟨tg,iter,[],0⟩] scope pos) pos₀.line X.env=pure true:=hsw;rw[hsw'];refine Q2 (Q8 ?_);rw[if_pos rfl,arm_evalThenUse_ListComp];refine Q2 (Q2 (rR (Qf:=fun _ s'=>wpAny (Qx X.prog X.w) X.A (pure ()) (fun _ s'=>wpAny (Qx X.prog X.w) X.A (pure Flow.next) (SP X pins Dn) X.xe s') X.xe s') hc hi hg he hclos hkind hnl hcell hcl hhas hcap hN hn I h (fun D C s6 H5 m I7 hm fr nl sz cn pn qn=>?_) hs));show wpAny _ _ (assign (.Name x₀ pos') X.env (.ref D)) _ _ s6;rw[arm_assign_Name];refine Q2 (wpAny_standAt (wpAny_bindName (jZ (v:=.ref D) I7 hN0 hi0 (.inl hx0) rfl (fun s7 I7' hsb=>?_) (.inr hx0))));obtain⟨a7,hsb,ha7⟩:=hsb;have cNe:C≠a7:=by
  rcases ha7 with z|z
  ·rw[z];exact nl
  ·exact Ne.symm (cn _ _ z)
 refine⟨m,AA hm hsb cNe,fun h' hs'=>Q8 (Q8 ⟨_,H5,?_,qn⟩)⟩;exact I7'.turned (t':=s7.toks) (it:=C) (fun b o hb e=>hs'.extBut b o hb e) fr nl (.inr sz) cn pn
theorem nI{X:Cx}{Nc capN tn:List Str}{scope:X2}{cl:List (Str×Addr)}{n:Nat}{caps:List Nat}{tg iter elt:Qq}{pos:Pos}{wi:TI}{g:TG}{te:TE}{tt:TT}{c:Qq}
  (hc:X.calm=true) (hi:WI X tg iter wi) (hg:∀s3 H3 fp,WG (cxC X Nc scope cl s3 H3 fp) tg g) (he:∀s3 H3 fp,WE (cxC X Nc scope cl s3 H3 fp) elt te)
  (ht:∀s3 H3 fp,WT (cxC X Nc scope cl s3 H3 fp) c tt)
  (hclos:closureFor scope X.env=pure cl) (hkind:scope.kind=.function) (hnl:∀x∈scope.names,x.2=.local->scope.names.lookup x.1=some .local) (hcell:∀x∈scope.names,x.2≠.cell)
  (hcl:ph X.env cl) (hhas:((relabel scope X.env).names.all fun p=>!(p.2 == .cell||p.2 == .free)||(cl.lookup p.1).isSome)=true)
  (hcap:Paired (Cap X scope cl) caps capN) (hN:Nc=tn++capN) (hn:tn.length=n)
  {i₀:Nat} {x₀:Str} {pos₀ pos':Pos} (hN0:X.N.Nodup) (hi0:X.N[i₀]?=some x₀) (hx0:X.env.scope.names.lookup x₀=some .local)
  (hsw:Ze (.ListComp elt [⟨tg,iter,[c],0⟩] scope pos) (some (.Name x₀ pos')) pos₀.line X.env=pure true)
  (hs:∀x,foldedSetIterable iter X.env x=pure x:=by intro _;rfl) :
  WS X (.Assign [.Name x₀ pos'] (.ListComp elt [⟨tg,iter,[c],0⟩] scope pos) pos₀) (fun D σ H=>mM wi g tt te n caps σ H fun v H'=>D.nx (σ.set i₀ (some v)) H'):=by
 constructor;intro pins s σ H Dn I h;rw[exec_Assign_arm];refine Q2 (wpAny_standAt ?_);have hsw':swapsWithSole [.Name x₀ pos'] (.ListComp elt [⟨tg,iter,[c],0⟩] scope pos) pos₀.line X.env=pure true:=hsw;rw[hsw'];refine Q2 (Q8 ?_);rw[if_pos rfl,arm_evalThenUse_ListComp];refine Q2 (Q2 (mC (Qf:=fun _ s'=>wpAny (Qx X.prog X.w) X.A (pure ()) (fun _ s'=>wpAny (Qx X.prog X.w) X.A (pure Flow.next) (SP X pins Dn) X.xe s') X.xe s') hc hi hg he ht hclos hkind hnl hcell hcl hhas hcap hN hn I h (fun D C s6 H5 m I7 hm fr nl sz cn pn qn=>?_) hs));show wpAny _ _ (assign (.Name x₀ pos') X.env (.ref D)) _ _ s6;rw[arm_assign_Name];refine Q2 (wpAny_standAt (wpAny_bindName (jZ (v:=.ref D) I7 hN0 hi0 (.inl hx0) rfl (fun s7 I7' hsb=>?_) (.inr hx0))));obtain⟨a7,hsb,ha7⟩:=hsb;have cNe:C≠a7:=by
  rcases ha7 with z|z
  ·rw[z];exact nl
  ·exact Ne.symm (cn _ _ z)
 refine⟨m,AA hm hsb cNe,fun h' hs'=>Q8 (Q8 ⟨_,H5,?_,qn⟩)⟩;exact I7'.turned (t':=s7.toks) (it:=C) (fun b o hb e=>hs'.extBut b o hb e) fr nl (.inr sz) cn pn
end OG
namespace OP
open PySem PySem.Spec PyProof.Rows L2 OG
section
variable{X:Cx}{K:Q5}
theorem mj{i₀:Nat}{x₀:Str}{pos₀ pos':Pos}{Nc capN tn:List Str}{scope:X2}{cl:List (Str×Addr)}{n:Nat}{caps:List Nat}{tg iter elt:Qq}{pos:Pos}{ci:CI}{g:CG}{ce:CE}
  (hc:X.calm=true) (hi:QI X tg iter ci) (hg:∀s3 H3 fp,WG (cxC X Nc scope cl s3 H3 fp) tg (tG X.K g)) (he:∀s3 H3 fp,WE (cxC X Nc scope cl s3 H3 fp) elt (tE X.K ce))
  (hclos:closureFor scope X.env=pure cl) (hkind:scope.kind=.function) (hnl:∀x∈scope.names,x.2=.local->scope.names.lookup x.1=some .local) (hcell:∀x∈scope.names,x.2≠.cell)
  (hcl:ph X.env cl) (hhas:((relabel scope X.env).names.all fun p=>!(p.2 == .cell||p.2 == .free)||(cl.lookup p.1).isSome)=true)
  (hcap:Paired (Cap X scope cl) caps capN) (hN:Nc=tn++capN) (hn:tn.length=n)
  (hN0:X.N.Nodup) (hi0:X.N[i₀]?=some x₀) (hx0:X.env.scope.names.lookup x₀=some .local)
  (hsw:Ze (.ListComp elt [⟨tg,iter,[],0⟩] scope pos) (some (.Name x₀ pos')) pos₀.line X.env=pure true)
  (hs:∀x,foldedSetIterable iter X.env x=pure x:=by intro _;rfl) :
  QS X (.Assign [.Name x₀ pos'] (.ListComp elt [⟨tg,iter,[],0⟩] scope pos) pos₀) (da i₀ (cP ci g ce n caps)):=(sj hc hi hg he hclos hkind hnl hcell hcl hhas hcap hN hn hN0 hi0 hx0 hsw hs).imp fun D σ H hz=>tw hz fun m ρ S o ρ' S' sr lr hc post=>by
 obtain⟨⟨u,S1⟩,h1,h2⟩:=Q0.mp hc;cases h2;exact rQ _ _ _ ⟨m,ρ,S,u,_,sr,lr,h1,fun m1 v1 H1 e1 sr1 i1=>post m1 _ H1 e1 sr1 ((lr.mono e1).set i₀ i1)⟩
theorem oa{i₀:Nat}{x₀:Str}{pos₀ pos':Pos}{Nc capN tn:List Str}{scope:X2}{cl:List (Str×Addr)}{n:Nat}{caps:List Nat}{tg iter elt:Qq}{pos:Pos}{ci:CI}{g:CG}{ct:CT}{ce:CE}{c:Qq}
  (hc:X.calm=true) (hi:QI X tg iter ci) (hg:∀s3 H3 fp,WG (cxC X Nc scope cl s3 H3 fp) tg (tG X.K g)) (ht:∀s3 H3 fp,WT (cxC X Nc scope cl s3 H3 fp) c (tT X.K ct)) (he:∀s3 H3 fp,WE (cxC X Nc scope cl s3 H3 fp) elt (tE X.K ce))
  (hclos:closureFor scope X.env=pure cl) (hkind:scope.kind=.function) (hnl:∀x∈scope.names,x.2=.local->scope.names.lookup x.1=some .local) (hcell:∀x∈scope.names,x.2≠.cell)
  (hcl:ph X.env cl) (hhas:((relabel scope X.env).names.all fun p=>!(p.2 == .cell||p.2 == .free)||(cl.lookup p.1).isSome)=true)
  (hcap:Paired (Cap X scope cl) caps capN) (hN:Nc=tn++capN) (hn:tn.length=n)
  (hN0:X.N.Nodup) (hi0:X.N[i₀]?=some x₀) (hx0:X.env.scope.names.lookup x₀=some .local)
  (hsw:Ze (.ListComp elt [⟨tg,iter,[c],0⟩] scope pos) (some (.Name x₀ pos')) pos₀.line X.env=pure true)
  (hs:∀x,foldedSetIterable iter X.env x=pure x:=by intro _;rfl) :
  QS X (.Assign [.Name x₀ pos'] (.ListComp elt [⟨tg,iter,[c],0⟩] scope pos) pos₀) (da i₀ (cm ci g ct ce n caps)):=(nI hc hi hg he ht hclos hkind hnl hcell hcl hhas hcap hN hn hN0 hi0 hx0 hsw hs).imp fun D σ H hz=>tw hz fun m ρ S o ρ' S' sr lr hc post=>by
 obtain⟨⟨u,S1⟩,h1,h2⟩:=Q0.mp hc;cases h2;exact mB _ _ _ ⟨m,ρ,S,u,_,sr,lr,h1,fun m1 v1 H1 e1 sr1 i1=>post m1 _ H1 e1 sr1 ((lr.mono e1).set i₀ i1)⟩
end
end OP
namespace OP
open PySem PySem.Spec PyProof PyProof.Rows L2 OG
section
variable{X:Cx}{K:Q5}
def jN(ca:CE):CE:=fun ρ S=>(ca ρ S).bind fun p=>match p.1 with
 |.int i=>some (.int (-i),p.2)
 |_=>none
theorem Ag:UnR X (unaryOp .USub) (fun x H Q=>∃i,x=.int i/\Q (.int (-i)) H):=by
 rintro pins s σ H x v Q I rx ⟨i,rfl,q⟩;obtain⟨t,rfl⟩:=rx;exact PyProof.Rows.neg_int ⟨.int (-i),H,I.tok _,⟨_,rfl⟩,q⟩
theorem gH{a:Qq}{ca:CE}{pos:Pos}(ha:QE X a ca):QE X (.UnaryOp .USub a pos) (jN ca):=(D7 Ag ha).imp fun σ H Q hz=>gN hz fun m ρ S u S' sr lr hc post=>by
 obtain⟨⟨x,S1⟩,h1,h2⟩:=Q0.mp hc;refine⟨m,ρ,S,x,S1,sr,lr,h1,fun m1 v1 H1 e1 sr1 i1=>?_⟩;cases x<;>simp at h2;obtain⟨rfl,rfl⟩:=h2;exact⟨_,i1.of_int,post m1 _ H1 e1 sr1 .int_⟩
def mx:U->List U->Sto->Option (U×Sto)
 |.ref l,[.int i],S=>match S[l]? with
  |some (.lst us)=>if 0<=i/\i<us.length/\us.length<=LIM then(us[i.toNat]?).bind fun u=>some (u,S.set l (.lst (us.eraseIdx i.toNat)))else none
  |_=>none
 |_,_,_=>none
theorem Cn:MtP K Aq mx:=by
 intro m S H x v us vs u S' Q sr ix i hf post;match x,us,hf with
 |.ref l,[.int k],hf=>
  simp only[mx]at hf;split at hf<;>try cases hf
  rename_i ws hS;split at hf<;>try cases hf
  rename_i hk;obtain⟨w,hw,h⟩:=Q0.mp hf;cases h;obtain⟨a,ha,rfl⟩:=ix.of_ref;obtain⟨a',ha',xs,hx,la⟩:=sr.get hS;rw[ha]at ha';cases ha';obtain⟨y,hy,iy⟩:=la.getD hw;obtain⟨z,rfl,iz⟩:=i.one;have eu:Ext K m H m (upd H a (.lst (xs.eraseIdx k.toNat))):=.of (sr.keep ha _);have hL:ws.length<=100000:=hk.2.2;exact⟨a,xs,k,k.toNat,y,rfl,by rw[iz.of_int],hx,by omega,by omega,seqIndex_of hk.1 (by rw[la.length];exact hk.2.1),hy,post m _ _ eu (sr.put ha ⟨_,aP,(la.erase _).mono eu⟩) (iy.mono eu)⟩
variable{e:Qq}{es:List Qq}{co:CE}{cr:CA}{o:Qq}{apos cpos:Pos}
theorem BY (ho : QE X o co) (ha : QA X (e :: es) cr) (hbase : attributeBase o "pop" X.env (eval o X.env) = eval o X.env := by rfl) (hfew : ((ZD cpos (QR (e :: es) X.env)).all (fun x => !x.1) && (backToKw cpos (keywordEach [] X.env)).all (fun x => x.1.isSome)
   && decide ((e::es).length+([]:List Keyword).length+(if ([]:List Keyword).isEmpty then 0 else 1)<30))=true:=by rfl) (hline:(apos.endLine == cpos.line)=true:=by rfl) (hs:QR (e::es) X.env=(false,eval e X.env)::QR es X.env:=by rfl) (hplain:(ZD cpos (QR es X.env)).any (·.1)=false:=by rfl) :
  QE X (.Call (.Attribute o "pop" apos) (e::es) [] cpos) (cBM mx co cr):=(ux PySem.F.plainAttrs_list PySem.F.slot_list_pop PySem.F.type_list_pop zc ho ha.h hbase hfew hline hs hplain).imp (xp Cn)
def jc(cr:CA):CE:=fun ρ S=>(cr ρ S).bind fun p=>match p.1 with
 |[.int j]=>if 0<=j/\j<=1000 then some (.ref p.2.length,p.2++[.lst (bx 0 j.toNat)])else none
 |_=>none
theorem mw:∀(n:Nat) (a:Int) (vs:List Q6),vs.length=n->(∀(j:Nat) (v:Q6),vs[j]?=some v->∃t,v=Value.int (a+(j:Int)) t)->bh ((Qe n).map fun i:Nat=>V.int (a+(i:Nat))) vs
 |0,a,vs,hl,h=>by
  rw[List.length_eq_zero_iff.mp hl];exact .nil
 |n+1,a,[],hl,h=>by simp at hl
 |n+1,a,v::vs,hl,h=>by
  rw[List.range_succ_eq_map,Qk,Qs];refine .cons ?_ ?_
  ·obtain⟨t,e⟩:=h 0 v rfl;exact⟨t,by simpa using e⟩
  ·have:=mw n (a+1) vs (by simpa using hl) fun j x hx=>by
    obtain⟨t,e⟩:=h (j+1) x (by simpa using hx);exact⟨t,by rw[e];congr 1;omega⟩
   have e:(Qe n).map (fun i:Nat=>V.int (a+1+(i:Nat)))=(Qe n).map ((fun i:Nat=>V.int (a+(i:Nat))) ∘ Nat.succ):=Zw fun i _=>by
    simp only[Function.comp];congr 1;omega
   rw[<-e];exact this
theorem nM{a:Qq}{ta:TA}{p1 p2 pos1 pos2:Pos}(hc:X.calm=true)(hgl:Gl X "list")(hml:X.mg "list"=none)(hg:Gl X "range")(hm:X.mg "range"=none)(ha:WA X [a] ta)(hs:QR [a] X.env=[(false,eval a X.env)])
  (hs1:QR [Expr.Call (.Name "range" p2) [a] [] pos2] X.env=[(false,eval (.Call (.Name "range" p2) [a] [] pos2) X.env)]) :
  WE X (.Call (.Name "list" p1) [.Call (.Name "range" p2) [a] [] pos2] [] pos1) (fun σ H Q=>ta σ H fun vs H1=>∃j:Int,vs=[.int j]/\0<=j/\j<=1000/\∀p,H1 p=none->Q (.ref p) (upd H1 p (.lst ((Qe j.toNat).map fun i:Nat=>V.int (0+(i:Nat)))))):=by
 constructor;intro pins s σ H Q I h;refine wpAny_Call_Name_kw (jy I hgl hml OG.d7 ?_ (by decide) (by decide));refine PyProof.Rows.callWith_type1 ?_ hs1 rfl;rw[hs1];show wpAny _ _ (spliced [(false,eval (.Call (.Name "range" p2) [a] [] pos2) X.env)]) _ _ s;refine Calls.spliced_cons ?_;refine Call_ (jy I hg hm boot_range (PyProof.Rows.callWith_type1 (thn (ha.h pos2 pins s σ H _ I h) fun us s1 ⟨vs,H1,I1,r1,q1⟩=>?_) hs rfl));obtain⟨j,e,j0,j1,q⟩:=q1;subst e;cases r1 with
 |cons r rr=>
  cases rr;obtain⟨t,rfl⟩:=r;refine call_range_1 ?_;refine Calls.spliced_nil ?_;have hsz:Builtin.Range.rangeSize 0 j 1=((j.toNat:Nat):Int):=by
   unfold Builtin.Range.rangeSize;simp;omega
  refine call_list_range (n:=j.toNat) (I1.ok.hd hc) (QV _ rfl) ?_ hsz (by omega) fun h' tk acc c' hk hg' hi=>?_
  ·unfold Builtin.Range.small;rw[hsz];unfold Builtin.Range.rangeFitsLong;simp;omega
  ·have hv:bh ((Qe j.toNat).map fun i:Nat=>V.int (0+(i:Nat))) acc.toList:=mw j.toNat 0 acc.toList (by simpa using hi.1) fun k v hv=>by
    obtain⟨t,e⟩:=hi.2 k v (by simpa using hv);exact⟨t,by rw[e];congr 1;omega⟩
   refine⟨.ref _,_,I1.laid (t':=tk) (o:=.lst ((Qe j.toNat).map fun i:Nat=>V.int (0+(i:Nat)))) (fun b ob q=>hk b ob (Q4 _ q)) (by rw[ZI];omega) ?_,rfl,q _ (I1.hok.fresh (by rw[ZI];omega))⟩;exact⟨by rw[QZ,Za];exact Qo (by omega) (show 1000<=QN by decide),_,_,hv,by simpa using hg'⟩
theorem wq{m:List Addr}{H:Hp}(n:Nat):IsL K m H ((Qe n).map fun i:Nat=>V.int (0+(i:Nat))) (bx 0 n):=by
 unfold bx;generalize Qe n=l;induction l with
 |nil=>exact .nil_
 |cons a r ih=>exact .cons_ .int_ ih
theorem pK{a:Qq}{cr:CA}{p1 p2 pos1 pos2:Pos}(hc:X.calm=true)(hgl:Gl X "list")(hml:X.mg "list"=none)(hg:Gl X "range")(hm:X.mg "range"=none)(ha:QA X [a] cr)(hs:QR [a] X.env=[(false,eval a X.env)])
  (hs1:QR [Expr.Call (.Name "range" p2) [a] [] pos2] X.env=[(false,eval (.Call (.Name "range" p2) [a] [] pos2) X.env)]) :
  QE X (.Call (.Name "list" p1) [.Call (.Name "range" p2) [a] [] pos2] [] pos1) (jc cr):=(nM hc hgl hml hg hm ha.h hs hs1).imp fun σ H Q hz=>gN hz fun m ρ S u S' sr lr hc post=>by
 obtain⟨⟨ws,S1⟩,h1,h2⟩:=Q0.mp hc;simp only at h2;split at h2<;>try cases h2
 rename_i j;split at h2<;>try cases h2
 rename_i hj;refine⟨m,ρ,S,_,S1,sr,lr,h1,fun m1 v1 H1 e1 sr1 i1=>?_⟩;obtain⟨x,rfl,ix⟩:=i1.one;rw[ix.of_int];exact⟨j,rfl,hj.1,hj.2,fun p hp=>b8 sr1 (wq _) (post.mono e1) hp⟩
end
section
variable{X:Cx}{K:Q5}
variable{pos:Pos}
def BE:List U->Option (List Key)
 |[]=>some []
 |u::r=>(jJ u).bind fun k=>(BE r).map (k::·)
theorem pF{m:List Addr}{H:Hp}:∀{us:List U} {xs:List V} {ks:List Key},IsL K m H xs us->BE us=some ks->xs=ks.map kV
 |[],xs,ks,i,h=>by cases h;exact i.of_nil
 |u::r,xs,ks,i,h=>by
  obtain⟨x,t,rfl,ix,it⟩:=i.of_cons;obtain⟨k,hk,h⟩:=Q0.mp h;obtain⟨ks',h',rfl⟩:=ZQ.mp h;rw[i9 ix hk,pF it h'];rfl
def rV:CE:=fun _ S=>some (.ref S.length,S++[.dit []])
theorem vg{pos:Pos}:QE X (.Dict [] [] pos) rV:=uu.imp fun σ H Q hz=>gN hz fun m ρ S u S' sr lr hc post=>by
 cases hc;exact fun p hp=>post (m++[p]) _ _ (.new (bC hp _)) (sr.new hp ⟨[],aP,.nil_⟩) (.ref_ (dF sr.len))
def gR(co:CE)(cr:CA)(cv:CE):CS:=fun ρ S=>(cv ρ S).bind fun p=>(co ρ p.2).bind fun q=>(cr ρ q.2).bind fun r=>match q.1 with
 |.ref l=>match r.2[l]? with
  |some (.dit kus)=>(BE r.1).bind fun k=>if kus.length<LIM/\r.1.length<=LIM then some (.nx,ρ,r.2.set l (.dit (jI kus k p.1)))else none
  |_=>none
 |_=>none
theorem n9{o:Qq}{es:List Qq}{e:Qq}{co cv:CE}{cr:CA}{k2:Nat}{p2 pos pos':Pos}(hu:X.A.units+1<cLine)(ho:QE X o co)(hi:QA X es cr)(hv:QE X e cv)
  (hs:Ze e (some (.Subscript o (.Tuple es k2 p2) pos')) pos.line X.env=pure false:=by rfl):QS X (.Assign [.Subscript o (.Tuple es k2 p2) pos'] e pos) (gR co cr cv):=
 (qw hu ho (ur hi.h) hv hs).imp fun D σ H hz=>tw hz fun m ρ S oo ρ' S' sr lr hc post=>by
 obtain⟨⟨v,S1⟩,h1,ha⟩:=Q0.mp hc;obtain⟨⟨ou,S2⟩,h2,hb⟩:=Q0.mp ha;obtain⟨⟨ius,S3⟩,h3,h⟩:=Q0.mp hb;clear ha hb hc;cases ou with
 |ref l=>
  simp only at h;split at h<;>try cases h
  rename_i kus hS;obtain⟨k,hk,h4⟩:=Q0.mp h;split at h4<;>try cases h4
  rename_i hlen;refine⟨m,ρ,S,v,S1,sr,lr,h1,fun m1 v1 H1 e1 sr1 i1=>⟨m1,ρ,S1,_,S2,sr1,lr.mono e1,h2,fun m2 v2 H2 e2 sr2 i2=>⟨m2,ρ,S2,ius,S3,sr2,lr.mono (e1.trans e2),h3,fun m3 vs H3 e3 sr3 i3=>?_⟩⟩⟩;refine⟨lim (by rw[i3.length];exact hlen.2),fun p hp=>?_⟩;obtain⟨a,ha,rfl⟩:=(i2.mono e3).of_ref;obtain⟨a',ha',kvs,hx,ip⟩:=sr3.get hS;rw[ha]at ha';cases ha';have hvs:=pF i3 hk;subst hvs;have s3:tQ H3 (upd H3 p (.tup (k.map kV))):=dE hp _;have en:Ext X.K m3 H3 m3 (upd H3 p (.tup (k.map kV))):=.of (bC hp _);have srn:=sr3.same s3;have hxn:(upd H3 p (.tup (k.map kV))) a=some (.dT kvs):=s3 _ _ hx;have e13:=((e1.trans e2).trans e3).trans en;have ee:Ext X.K m3 (upd H3 p (.tup (k.map kV))) m3 (upd (upd H3 p (.tup (k.map kV))) a (.dT (o8 kvs k v1))):=.of (srn.keep ha _);exact⟨a,_,rfl,AX.t hxn aP (Fx (by rw[IsP.length ip];exact hlen.1)),post m3 σ _ (e13.trans ee) (srn.put ha ⟨_,aP,(IsP.put (ip.mono en) (i1.mono ((e2.trans e3).trans en))).mono ee⟩) (lr.mono (e13.trans ee))⟩
 |_=>cases h
end
end OP
namespace OP
open PySem PySem.Spec PyProof PyProof.Rows L2 OG PySem.W
section
variable{cmp:Nat->Nat->(Bool->QQ->Prop)->QQ->Prop}{s:QQ}{n:Nat}{lt:Nat->Nat->Bool}
structure xO(n:Nat)(lt:Nat->Nat->Bool):Prop where
 tr:∀{i j k},i<n->j<n->k<n->lt i j=true->lt j k=true->lt i k=true
 tot:∀{i j},i<n->j<n->i≠j->lt i j=false->lt j i=true
 asym:∀{i j},i<n->j<n->lt i j=true->lt j i=false
def Dm(cmp:Nat->Nat->(Bool->QQ->Prop)->QQ->Prop)(n:Nat)(lt:Nat->Nat->Bool)(s:QQ):Prop:=∀i j C,i<n->j<n->C (lt i j) s->cmp i j C s
structure Pm(n:Nat)(p:Array Nat):Prop where
 sz:p.size=n
 bd:∀i,i<n->p.getD i 0<n
 ne:∀i j,i<j->j<n->p.getD i 0≠p.getD j 0
def Asc(lt:Nat->Nat->Bool)(p:Array Nat)(k:Nat):Prop:=∀i j,i<j->j<k->lt (p.getD i 0) (p.getD j 0)=true
def Dsc(lt:Nat->Nat->Bool)(p:Array Nat)(k:Nat):Prop:=∀i j,i<j->j<k->lt (p.getD j 0) (p.getD i 0)=true
variable{p:Array Nat}
theorem Pm.ne'(P:Pm n p){i j:Nat}(hi:i<n)(hj:j<n)(h:i≠j):p.getD i 0≠p.getD j 0:=by
 rcases Nat.lt_or_gt_of_ne h with z|z
 ·exact P.ne i j z hj
 ·exact Ne.symm (P.ne j i z hi)
theorem Asc.snoc(O:xO n lt)(P:Pm n p){m:Nat}(h1:1<=m)(hm:m<n)(h:Asc lt p m)(h2:lt (p.getD (m-1) 0) (p.getD m 0)=true):Asc lt p (m+1):=fun i j hij hj=>by
 by_cases e:j=m
 ·subst e;by_cases e2:i=j-1
  ·subst e2;exact h2
  ·exact O.tr (P.bd _ (by omega)) (P.bd _ (by omega)) (P.bd _ (by omega)) (h i (j-1) (by omega) (by omega)) h2
 ·exact h i j hij (by omega)
theorem Dsc.snoc(O:xO n lt)(P:Pm n p){m:Nat}(h1:1<=m)(hm:m<n)(h:Dsc lt p m)(h2:lt (p.getD m 0) (p.getD (m-1) 0)=true):Dsc lt p (m+1):=fun i j hij hj=>by
 by_cases e:j=m
 ·subst e;by_cases e2:i=j-1
  ·subst e2;exact h2
  ·exact O.tr (P.bd _ (by omega)) (P.bd _ (by omega)) (P.bd _ (by omega)) h2 (h i (j-1) (by omega) (by omega))
 ·exact h i j hij (by omega)
theorem xA(O:xO n lt)(A:Dm cmp n lt s)(P:Pm n p):∀(f m:Nat) {Q:Nat->QQ->Prop},1<=m->m+f<=n->Asc lt p m->(∀m',m<=m'->m'<=m+f->Asc lt p m'->(m'=m+f\/lt (p.getD m' 0) (p.getD (m'-1) 0)=true)->Q m' s)->(kas_asc p f m).kasWp cmp Q s
 |0,m,Q,h1,h2,h3,q=>q m (QJ _) (by omega) h3 (.inl rfl)
 |f+1,m,Q,h1,h2,h3,q=>by
  refine A _ _ _ (P.bd _ (by omega)) (P.bd _ (by omega)) ?_;cases hc:lt (p.getD m 0) (p.getD (m-1) 0)with
  |true=>exact q m (QJ _) (by omega) h3 (.inr hc)
  |false=>
   have h4:=h3.snoc O P h1 (by omega) (O.tot (P.bd _ (by omega)) (P.bd _ (by omega)) (P.ne' (by omega) (by omega) (by omega)) hc);exact xA O A P f (m+1) (by omega) (by omega) h4 fun m' a b c d=>q m' (by omega) (by omega) c (by rcases d with d|d;exact .inl (by omega);exact .inr d)
theorem wU(O:xO n lt)(A:Dm cmp n lt s)(P:Pm n p):∀(f m:Nat) {Q:Array Nat×Nat×Nat->QQ->Prop},1<=m->m+f<=n->Dsc lt p m->(∀m',m<=m'->m'<=m+f->Dsc lt p m'->Q (p,m',0) s)->(kas_desc f p m 0).kasWp cmp Q s
 |0,m,Q,h1,h2,h3,q=>q m (QJ _) (by omega) h3
 |f+1,m,Q,h1,h2,h3,q=>by
  refine A _ _ _ (P.bd _ (by omega)) (P.bd _ (by omega)) ?_;cases hc:lt (p.getD m 0) (p.getD (m-1) 0)with
  |true=>exact wU O A P f (m+1) (by omega) (by omega) (h3.snoc O P h1 (by omega) hc) fun m' a b c=>q m' (by omega) (by omega) c
  |false=>
   refine A _ _ _ (P.bd _ (by omega)) (P.bd _ (by omega)) ?_;rw[O.tot (P.bd _ (by omega)) (P.bd _ (by omega)) (P.ne' (by omega) (by omega) (by omega)) hc];exact q m (QJ _) (by omega) h3
theorem kM{p q:Array Nat}{i j:Nat}(h:p[i]?=q[j]?):p.getD i 0=q.getD j 0:=by
 rw[ZT,ZT,h]
theorem km{m k:Nat}(hm:m<=p.size):(kas_rev p 0 m).getD k 0=if k<m then p.getD (m-1-k) 0 else p.getD k 0:=by
 unfold kas_rev;have h:=getElem?_mirror_all (i:=0) hm k;split
 ·rename_i c;rw[if_pos ⟨ZN _,c⟩]at h;exact kM (by rw[h];congr 1;omega)
 ·rename_i c;rw[if_neg (by omega)]at h;exact kM h
theorem Pm.rev(P:Pm n p){m:Nat}(hm:m<=n):Pm n (kas_rev p 0 m) where
 sz:=by rw[kas_rev_size];exact P.sz
 bd:=fun i hi=>by
  rw[km (by rw[P.sz];exact hm)];split<;>exact P.bd _ (by omega)
 ne:=fun i j hij hj=>by
  rw[km (by rw[P.sz];exact hm),km (by rw[P.sz];exact hm)];split<;>split<;>exact P.ne' (by omega) (by omega) (by omega)
theorem Dsc.rev{m:Nat}(P:Pm n p)(hm:m<=n)(h:Dsc lt p m):Asc lt (kas_rev p 0 m) m:=fun i j hij hj=>by
 rw[km (by rw[P.sz];exact hm),km (by rw[P.sz];exact hm),if_pos (by omega),if_pos hj];exact h _ _ (by omega) (by omega)
theorem zL(O:xO n lt)(A:Dm cmp n lt s)(P:Pm n p){Q:Nat×Array Nat->QQ->Prop}(h1:1<=n)(q:∀m p',1<=m->m<=n->Pm n p'->Asc lt p' m->Q (m,p') s):(kas_count n p).kasWp cmp Q s:=by
 unfold kas_count;rw[KasT.kasWp_bind];refine xA O A P (n-1) 1 (QJ _) (by omega) (fun i j a b=>by omega) fun m a b c d=>?_;by_cases e:m=n
 ·rw[if_pos (by rw[e];exact beq_self_eq_true n)];exact q m p a (by omega) P c
 rw[if_neg (by simpa using e)];have d':lt (p.getD m 0) (p.getD (m-1) 0)=true:=by
  rcases d with d|d
  ·omega
  ·exact d
 by_cases g:m>1
 ·rw[if_pos g];refine A _ _ _ (P.bd _ (by omega)) (P.bd _ (by omega)) ?_;rw[c 0 (m-1) (by omega) (by omega)];exact q m p a (by omega) P c
 ·rw[if_neg g];have m1:m=1:=by omega
  subst m1;unfold kas_descPart;rw[KasT.kasWp_bind];have d2:Dsc lt p 2:=fun i j a b=>by
   have e1:i=0:=by omega
   have e2:j=1:=by omega
   subst e1;subst e2;exact d'
  refine wU O A P (n-(1+1)) (1+1) (by omega) (by omega) d2 fun m' a' b' c'=>?_;rw[if_neg (by simp)];unfold kas_tail3;rw[KasT.kasWp_bind];have hm':m'<=n:=by omega
  exact xA O A (P.rev hm') (n-m') m' (by omega) (by omega) (c'.rev P hm') fun m2 a2 b2 c2 _=>q m2 _ (by omega) (by omega) (P.rev hm') c2
theorem mZ(O:xO n lt)(A:Dm cmp n lt s)(P:Pm n p){k:Nat}(hk:k<n)(hs:Asc lt p k):∀(f l r:Nat) {Q:Nat->QQ->Prop},l<=r->r<=k->r-l<=f->(∀i,i<l->lt (p.getD i 0) (p.getD k 0)=true)->(∀i,r<=i->i<k->lt (p.getD k 0) (p.getD i 0)=true)->
  (∀l',l'<=k->(∀i,i<l'->lt (p.getD i 0) (p.getD k 0)=true)->(∀i,l'<=i->i<k->lt (p.getD k 0) (p.getD i 0)=true)->Q l' s)->(kas_place p k f l r).kasWp cmp Q s
 |0,l,r,Q,h1,h2,h3,h4,h5,q=>q l (by omega) h4 fun i a b=>h5 i (by omega) b
 |f+1,l,r,Q,h1,h2,h3,h4,h5,q=>by
  unfold kas_place;by_cases e:l≥r
  ·rw[if_pos e];exact q l (by omega) h4 fun i a b=>h5 i (by omega) b
  ·rw[if_neg e];have hM:(l+r) / 2<k:=by omega
   refine A _ _ _ (P.bd _ hk) (P.bd _ (by omega)) ?_;cases hc:lt (p.getD k 0) (p.getD ((l+r) / 2) 0)with
   |true=>
    refine mZ O A P hk hs f l ((l+r) / 2) (by omega) (by omega) (by omega) h4 (fun i a b=>?_) q;by_cases e2:i=(l+r) / 2
    ·subst e2;exact hc
    ·exact O.tr (P.bd _ hk) (P.bd _ (by omega)) (P.bd _ (by omega)) hc (hs _ i (by omega) b)
   |false=>
    have hc':=O.tot (P.bd _ hk) (P.bd _ (show(l+r) / 2<n by omega)) (P.ne' hk (by omega) (by omega)) hc;refine mZ O A P hk hs f ((l+r) / 2+1) r (by omega) (by omega) (by omega) (fun i a=>?_) h5 q;by_cases e2:i=(l+r) / 2
    ·subst e2;exact hc'
    ·exact O.tr (P.bd _ (by omega)) (P.bd _ (by omega)) (P.bd _ hk) (hs i ((l+r) / 2) (by omega) hM) hc'
theorem k8{k l i:Nat}(hk:k<p.size)(hl:l<=k):(bubble p k (k-l)).getD i 0=if i=l then p.getD k 0 else if l<i/\i<=k then p.getD (i-1) 0 else p.getD i 0:=by
 have h:=getElem?_bubble hk (k-l) (by omega) i;rw[show k-(k-l)=l by omega]at h;by_cases c:i=l
 ·rw[if_pos c]at h ⊢;exact kM h
 ·rw[if_neg c]at h ⊢;by_cases d:l<i/\i<=k
  ·rw[if_pos d]at h ⊢;exact kM h
  ·rw[if_neg d]at h ⊢;exact kM h
theorem Pm.bub(P:Pm n p){k l:Nat}(hk:k<n)(hl:l<=k):Pm n (bubble p k (k-l)) where
 sz:=by rw[bubble_size];exact P.sz
 bd:=fun i hi=>by
  rw[k8 (by rw[P.sz];exact hk) hl];repeat' split
  all_goals exact P.bd _ (by omega)
 ne:=fun i j hij hj=>by
  rw[k8 (by rw[P.sz];exact hk) hl,k8 (by rw[P.sz];exact hk) hl];repeat' split
  all_goals first|(exfalso;omega)|exact P.ne' (by omega) (by omega) (by omega)
theorem Asc.bub(P:Pm n p){k l:Nat}(hk:k<n)(hl:l<=k)(h:Asc lt p k)(h1:∀i,i<l->lt (p.getD i 0) (p.getD k 0)=true)(h2:∀i,l<=i->i<k->lt (p.getD k 0) (p.getD i 0)=true):Asc lt (bubble p k (k-l)) (k+1):=fun i j hij hj=>by
 rw[k8 (by rw[P.sz];exact hk) hl,k8 (by rw[P.sz];exact hk) hl];repeat' split
 all_goals first|(exfalso;omega)|exact h1 _ (by omega)|exact h2 _ (by omega) (by omega)|exact h _ _ (by omega) (by omega)
theorem AU(O:xO n lt)(A:Dm cmp n lt s):∀(f:Nat) (p:Array Nat) (k:Nat) {Q:Array Nat->QQ->Prop},Pm n p->k+f=n->Asc lt p k->(∀p',Pm n p'->Asc lt p' n->Q p' s)->(kas_bin f p k).kasWp cmp Q s
 |0,p,k,Q,P,h1,h2,q=>q p P (by rw[<-h1];exact h2)
 |f+1,p,k,Q,P,h1,h2,q=>by
  unfold kas_bin;rw[KasT.kasWp_bind];refine mZ O A P (k:=k) (by omega) h2 k 0 k (ZN _) (QJ _) (by omega) (fun i a=>by omega) (fun i a b=>by omega) fun l a b c=>?_;exact AU O A f _ (k+1) (P.bub (by omega) a) (by omega) (h2.bub P (by omega) a b c) q
theorem mY:Pm n (List.toArray (Qe n)):=by
 have g:∀i,i<n->(List.toArray (Qe n)).getD i 0=i:=fun i hi=>by simp[X4,hi]
 exact⟨by simp,fun i hi=>by rw[g i hi];exact hi,fun i j hij hj=>by rw[g i (by omega),g j hj];omega⟩
theorem uM(O:xO n lt)(A:Dm cmp n lt s){Q:Array Nat->QQ->Prop}(h1:1<=n)(q:∀p',Pm n p'->Asc lt p' n->Q p' s):(kas_sort n).kasWp cmp Q s:=by
 unfold kas_sort;rw[KasT.kasWp_bind];refine zL O A mY h1 fun m p' a b P c=>?_;by_cases e:m<n
 ·rw[if_pos e];rw[show max m 1=m by omega];exact AU O A _ _ _ P (by omega) c q
 ·rw[if_neg e];exact q p' P (by rw[show n=m by omega];exact c)
end
end OP
namespace OP
open PySem PySem.Spec PyProof PyProof.Rows L2 OG
section
variable{prog:Qu}{w:Qm}{A:Z9}{E:Q6->QQ->Prop}{s:QQ}{d it:Addr}{o:Obj}{es:Array DictEntry}{ep i:Nat}
theorem qQ{Q:Q6->QQ->Prop}(hd:(d == sysModules)=false)(ho:s.heap.get? d=some o)(hc:o.ExactDict)(he:o.data=.dict es ep)
  (q:Q (.ref s.heap.objs.size) { s with heap:=s.heap.push { cls:=.type "dict_keyiterator",data:=.fields #[.ref d,.int 0 0,.int es.size 0,.int ep 0] } }):wpAny (Qx prog w) A (pyIter (.ref d)) Q E s:=by
 have T:s.TypeIs (.ref d) "dict":=⟨o,ho,hc.1⟩;refine wpAny_pyIter_slot T F.slot_dict_iter (wpAny_call_entry F.slot_dict_iter T F.entry_dict_iter ?_ (F.args_dict_iter_1 _));unfold Builtin.«dict.__iter__»;refine Q2 ?_;unfold Builtin.Dict.dictSlotNone;refine Q2 (wpAny_notOrdered_dict T ?_);refine Q8 (show wpAny _ _ (Builtin.Dict.showsAll d >>= _) _ _ s from ?_);unfold Builtin.Dict.showsAll;rw[if_neg (by rw[hd];exact QC)];refine Q2 (Q8 (Q2 (wpAny_dictEntries ho he (Q2 (wpAny_dictEpoch ho he ?_)))));refine Q2 (wpAny_newObj_type (Q8 ⟨_,rfl,"dict_keyiterator",_,⟨_,QV _ rfl,rfl⟩,F.slot_dict_keyiterator_next.lookup,q⟩))
theorem qR{Q:Option Q6->QQ->Prop}(hit:s.heap.IsKeyIter it d i es.size ep)(ho:s.heap.get? d=some o)(he:o.data=.dict es ep)(hi:i<es.size)
  (q:∀h',h'.IsKeyIter it d (i+1) es.size ep->Heap.SameBut it s.heap h'->Q (some es[i].key) { s with heap:=h' }):wpAny (Qx prog w) A (pyNext (.ref it)) Q E s:=by
 obtain⟨io,hio,ic,id'⟩:=id hit;unfold pyNext;refine Q2 (wpAny_attempt (wpAny_callSpecial?_slot (name:=Str.ofString "__next__") hit.typeIs F.slot_dict_keyiterator_next (wpAny_call_entry F.slot_dict_keyiterator_next hit.typeIs F.entry_dict_keyiterator_next ?_ (F.args_dict_keyiterator_next_1 _))));refine Q2 (Q8 (Q2 (Q2 ?_)));first|refine Q2 (wpAny_typeNameOfWhole_keyiter hit.typeIs (Q8 (Q2 (wpAny_fieldsOf hio id' ?_))))|refine Q2 (wpAny_typeNameOf_keyiter hit.typeIs (Q8 (Q2 (wpAny_fieldsOf hio id' ?_))))
 simp only[show Builtin.Dict_items.ownsTuple "dict_keyiterator"=false by decide,Qc,if_false];refine(show wpAny _ _ (if (Value.ref d == Value.none)=true then _ else _) _ _ s from ?_);rw[if_neg (show ¬((Value.ref d == Value.none)=true)from QC)];refine Q2 (Q8 (Q2 (wpAny_dictEntries ho he ?_)));rw[if_neg (by simp)];refine Q2 (Q8 (Q2 (wpAny_dictEpoch ho he ?_)));rw[if_neg (by simp)];refine Q8 ?_;simp only[show ¬((i:Int)<0)by omega,if_false,Zv,QH hi];refine Q2 ?_;first|refine Q2 (wpAny_typeNameOfWhole_keyiter hit.typeIs (Q8 (Q2 (wpAny_isOneOf_keyiter hit.typeIs ?_))))|refine Q2 (wpAny_typeNameOf_keyiter hit.typeIs (Q8 (Q2 (wpAny_isOneOf_keyiter hit.typeIs ?_))))
 refine(show wpAny _ _ (setField (.ref it) 1 (rawInt ((i:Int)+1)) >>= _) _ _ s from Q2 (wpAny_setField hio id' (by simp) ?_));have hit2:(s.heap.update it (Obj.mapFields (·.setIfInBounds 1 (rawInt ((i:Int)+1))))).IsKeyIter it d (i+1) es.size ep:=⟨_,Zx _ hio (Obj.isFreed_of_fields (Obj.data_mapFields id' _)),(Obj.cls_mapFields ..).trans ic,by rw[Obj.data_mapFields id'];simp[rawInt]⟩;refine Q2 (wpAny_holding (Q2 (wpAny_isOneOf_keyiter (s:={ s with heap:=s.heap.update it (Obj.mapFields (·.setIfInBounds 1 (rawInt ((i:Int)+1)))) }) hit2.typeIs ?_)));exact(show wpAny _ _ (pure es[i].key) _ _ _ from Q8 (Q8 ⟨_,rfl,Q8 (q _ hit2 (Heap.SameBut.update ..))⟩))
theorem u7{Q:Option Q6->QQ->Prop}(hh:A.handled=none)(hit:s.heap.IsKeyIter it d i es.size ep)(ho:s.heap.get? d=some o)(he:o.data=.dict es ep)(hi:es.size<=i)
  (q:∀h',Heap.ExtBut it s.heap h'->Q none { s with heap:=h' }):wpAny (Qx prog w) A (pyNext (.ref it)) Q E s:=by
 obtain⟨io,hio,ic,id'⟩:=id hit;unfold pyNext;refine Q2 (wpAny_attempt (wpAny_callSpecial?_slot (name:=Str.ofString "__next__") hit.typeIs F.slot_dict_keyiterator_next (wpAny_call_entry F.slot_dict_keyiterator_next hit.typeIs F.entry_dict_keyiterator_next ?_ (F.args_dict_keyiterator_next_1 _))));refine Q2 (Q8 (Q2 (Q2 ?_)));first|refine Q2 (wpAny_typeNameOfWhole_keyiter hit.typeIs (Q8 (Q2 (wpAny_fieldsOf hio id' ?_))))|refine Q2 (wpAny_typeNameOf_keyiter hit.typeIs (Q8 (Q2 (wpAny_fieldsOf hio id' ?_))))
 simp only[show Builtin.Dict_items.ownsTuple "dict_keyiterator"=false by decide,Qc,if_false];refine(show wpAny _ _ (if (Value.ref d == Value.none)=true then _ else _) _ _ s from ?_);rw[if_neg (show ¬((Value.ref d == Value.none)=true)from QC)];refine Q2 (Q8 (Q2 (wpAny_dictEntries ho he ?_)));rw[if_neg (by simp)];refine Q2 (Q8 (Q2 (wpAny_dictEpoch ho he ?_)));rw[if_neg (by simp)];refine Q8 ?_;simp only[show ¬((i:Int)<0)by omega,if_false,Zv,Array.getElem?_eq_none hi];refine Q2 ?_;first|refine Q2 (wpAny_typeNameOfWhole_keyiter hit.typeIs (Q8 ?_));skip|refine Q2 (wpAny_typeNameOf_keyiter hit.typeIs (Q8 ?_));skip
 refine(show wpAny _ _ (setField (.ref it) 0 .none >>= _) _ _ s from Q2 (wpAny_setField hio id' (by simp) ?_));refine(show wpAny _ _ (newExc (.type "StopIteration") [] >>= _) _ _ _ from Q2 ?_);simp only[newExc,newTuple];refine Q2 (wpAny_newObj_type ?_ (by size_fits));refine Q2 (m:=firstArgMember _ _) (wpAny_of_eq (a:=Value.none) (by first|rfl|(simp only[firstArgMember];rfl)) (wpAny_newObj_type ?_ (by size_fits)));simp only[raiseNew];refine Q2 (wpAny_handled ?_);rw[show A.in1.handled=none from hh];refine Q2 (Q8 (wpAny_throw ?_));refine Q2 (wpAny_isInstance (T:="StopIteration") (b:=true) ⟨_,QV _ rfl,rfl⟩ isSubtype_stop ?_);exact Q8 (q _ (((Heap.SameBut.update ..).extBut.push _).push _))
end
def FzT(H:Hp)(a:Addr)(ep:Nat)(ks:List (List Key)):Prop:=∃ob es kvs,H a=some (.frz ob (.dT kvs))/\ob.data=.dict es ep/\kvs.map (·.1)=ks
def Itt(a:Addr)(ep:Nat)(ks:List (List Key)):It:=
 ⟨fun i H=>i<ks.length/\FzT H a ep ks,fun i H x H'=>H'=H/\∃k p,ks[i]?=some k/\x=.ref p/\H p=some (.tup (k.map kV)),fun i H=>ks.length<=i/\FzT H a ep ks⟩
theorem wF{P:Qu}{w:Qm}{H:Hp}{h:Heap}{a:Addr}{ob:Obj}{kvs:List (List Key×V)}{es:Array DictEntry}{ep:Nat}(ok:HOk P w H h)(e:H a=some (.frz ob (.dT kvs)))(d:ob.data=.dict es ep) :
  h.get? a=some ob/\es.size=kvs.length/\∀(i:Nat) (hi:i<es.size),∃k p,(kvs.map (·.1))[i]?=some k/\es[i].key=.ref p/\H p=some (.tup (k.map kV)):=by
 obtain⟨e1,_,_,xs,r,o,es',ep',e2,e3,e4,e5,_⟩:=(show bR P w H h a (.frz ob (.dT kvs))from ok a _ e);rw[e1]at e2;cases e2;rw[d]at e4;cases e4;have hl:kvs.length=xs.length:=Paired.length r;have hs:es.size=xs.length:=size_of_entries e5;refine⟨e1,by omega,fun i hi=>?_⟩;have key:∀{l:List (List Key×V)} {m:List (List Key×Addr×Q6)} {i:Nat} {x:List Key×Addr×Q6},Paired (fun(p:List Key×V) (q:List Key×Addr×Q6)=>p.1=q.1/\H q.2.1=some (.tup (p.1.map kV))/\bX p.2 q.2.2) l m->m[i]?=some x->∃k,(l.map (·.1))[i]?=some k/\H x.2.1=some (.tup (k.map kV)):=by
  intro l m i x q;induction q generalizing i with
  |nil=>intro z;simp at z
  |@cons p q ps qs hq t ih=>
   intro z;cases i with
   |zero=>simp at z;subst z;exact⟨p.1,by simp,hq.2.1⟩
   |succ i=>obtain⟨k,k1,k2⟩:=ih (by simpa using z);exact⟨k,by simpa using k1,k2⟩
 have hx:xs[i]?=some xs[i]:=Q7 (by omega);obtain⟨k,k1,k2⟩:=key r hx;refine⟨k,(xs[i]).2.1,k1,?_,k2⟩;have h1:=entry_at e5 i;rw[hx,QH hi]at h1;have h2:=Option.some.inj h1;rw[h2];rfl
theorem sA{P:Qu}{w:Qm}{K:Q5}{tg:Qq}(a it:Addr){ks:List (List Key)}{ep:Nat} :
  Di P w K tg (Itt a ep ks) [it] it (fun n h=>h.IsKeyIter it a n ks.length ep) where
 mem:=by simp
 obj:=fun n h st c hc=>by
  simp only[QL,ZF,or_false]at hc;subst hc;obtain⟨o,e,_,q⟩:=st;exact⟨o,e,fun v z=>by rw[q]at z;cases z⟩
 keep:=fun n h h' st kp=>Heap.IsKeyIter.at st fun o q=>kp it (by simp) o q
 item:=by
  intro X hP hw hK hc n pins s σ H E Iv hf st hg;subst hP hw hK;obtain⟨hi,ob,es,kvs,hq,d,ek⟩:=hg;obtain⟨g1,g2,g3⟩:=wF Iv.hok hq d;have hl:ks.length=es.size:=by rw[<-ek,QZ,g2]
  have hi':n<es.size:=by omega
  obtain⟨k,p,k1,k2,k3⟩:=g3 n hi';obtain⟨f0,f1,f2,f3⟩:=hf it (by simp);refine qR (by rw[<-hl];exact st) g1 d hi' fun h1 st1 sb=>⟨_,rfl,?_⟩;have I1:Inv X pins σ H { s with heap:=h1 }:=Iv.turned (t':=s.toks) (fun b o hb e=>(sb.2 b hb).trans e) f0 f1 f3.1 f3.2.1 f3.2.2;have st2:h1.IsKeyIter it a (n+1) ks.length ep:=by rw[hl];exact st1
  obtain⟨o,e,c,q⟩:=id st2;exact zB (s:={ s with heap:=h1 }) e c q (by decide) ⟨.ref p,H,I1,by rw[k2];rfl,⟨rfl,k,p,by rw[<-ek];exact k1,rfl,k3⟩,st2,fun b hb=>(hf b hb).1⟩
 done:=by
  intro X hP hw hK hc n pins s σ H E Iv hf st hg;subst hP hw hK;obtain⟨hi,ob,es,kvs,hq,d,ek⟩:=hg;obtain⟨g1,g2,g3⟩:=wF Iv.hok hq d;have hl:ks.length=es.size:=by rw[<-ek,QZ,g2]
  obtain⟨f0,f1,f2,f3⟩:=hf it (by simp);exact u7 (Iv.ok.hd hc) (by rw[<-hl];exact st) g1 d (by omega) fun h1 eb=>⟨rfl,Iv.turned (t':=s.toks) (fun b o hb e=>eb b o hb e) f0 f1 f3.1 f3.2.1 f3.2.2⟩
 self:=fun _ _ _ _ _ st h=>wpAny_pyIter_keyiter st h
def AI(X:Cx)(tl:TE):TI:=fun σ H R=>tl σ H fun x H1=>∃a kvs,x=.ref a/\H1 a=some (.dT kvs)/\∀ob es ep,Gj X a->ob.data=.dict es ep->R (Itt a ep (kvs.map (·.1))) (upd H1 a (.frz ob (.dT kvs)))
theorem yg{X:Cx}{tg l:Qq}{tl:TE}(hl:WE X l tl):WI X tg l (AI X tl):=by
 constructor;intro pins s σ H R I h;refine thn (hl.h pins s σ H _ I h) fun v s1 hz=>?_;obtain⟨x,H1,I1,r1,q1⟩:=hz;obtain⟨a,kvs,rfl,hq,q⟩:=q1;have hq0:=hq;cases r1;obtain⟨hz,hs,xs,rv,ob,es,ep,e1,e2,e3,e4,e5⟩:=(show bR X.prog X.w H1 s1.heap a (.dT kvs)from I1.hok a _ hq);have hl:kvs.length=es.size:=by rw[size_of_entries e4];exact Paired.length rv
 have nf:Gj X a:=fun ob' u' z=>by have:=I1.base.frzs a ob' u' z;rw[hq]at this;cases this
 have mono:∀{l:List (List Key×V)} {m:List (List Key×Addr×Q6)} (fz:HO),Paired (fun(p:List Key×V) (q:List Key×Addr×Q6)=>p.1=q.1/\H1 q.2.1=some (.tup (p.1.map kV))/\bX p.2 q.2.2) l m->Paired (fun(p:List Key×V) (q:List Key×Addr×Q6)=>p.1=q.1/\(upd H1 a fz) q.2.1=some (.tup (p.1.map kV))/\bX p.2 q.2.2) l m:=by
  intro l m fz z;induction z with
  |nil=>exact .nil
  |cons hq t ih=>exact .cons ⟨hq.1,by rw[bc (fun e=>by rw[e,hq0]at hq;cases hq.2.1)];exact hq.2.1,hq.2.2⟩ ih
 have rv2:=mono (.frz ob (.dT kvs)) rv;have I2:Inv X pins σ (upd H1 a (.frz ob (.dT kvs))) s1:=rF I1 hq (by simp) (by simp) (by simp) nf ⟨e1,hz,hs,xs,rv2,ob,es,ep,e1,e2,e3,e4,e5⟩;refine qQ hs e1 e2 e3 ?_;refine⟨s1.heap.objs.size,[s1.heap.objs.size],_,_,_,rfl,I2.kept (t':=s1.toks) fun b o g=>Q4 _ g,sA a _,⟨_,QV _ rfl,rfl,by rw[QZ,hl];rfl⟩,fun b hb=>?_,q ob es ep nf e3⟩;simp only[QL,ZF,or_false]at hb;subst hb;exact I2.fpOk (QJ _) (I2.hok.fresh (QJ _))
theorem wu{X:Cx}{pins:List (Addr×Obj)}{σ:L2.St}{H:Hp}{s:QQ}{a:Addr}{ob:Obj}{kvs:List (List Key×V)}(I:Inv X pins σ H s)(nf:Gj X a)(e:H a=some (.frz ob (.dT kvs))):Inv X pins σ (upd H a (.dT kvs)) s:=by
 obtain⟨_,hz,hs,xs,rv,rest⟩:=(show bR X.prog X.w H s.heap a (.frz ob (.dT kvs))from I.hok a _ e);have mono:∀{l:List (List Key×V)} {m:List (List Key×Addr×Q6)} (fz:HO),Paired (fun(p:List Key×V) (q:List Key×Addr×Q6)=>p.1=q.1/\H q.2.1=some (.tup (p.1.map kV))/\bX p.2 q.2.2) l m->Paired (fun(p:List Key×V) (q:List Key×Addr×Q6)=>p.1=q.1/\(upd H a fz) q.2.1=some (.tup (p.1.map kV))/\bX p.2 q.2.2) l m:=by
  intro l m fz z;induction z with
  |nil=>exact .nil
  |cons hq t ih=>exact .cons ⟨hq.1,by rw[bc (fun q=>by rw[q,e]at hq;cases hq.2.1)];exact hq.2.1,hq.2.2⟩ ih
 exact rF I e (by simp) (by simp) (by simp) nf ⟨hz,hs,xs,mono _ rv,rest⟩
theorem rD{K:Q5}{m:List Addr}{H:Hp}:∀ks:List Key,IsL K m H (ks.map kV) (ks.map kU)
 |[]=>.nil_
 |k::r=>.cons_ (FR k) (rD r)
theorem zt{K:Q5}{m:List Addr}{H:Hp}{a:Addr}{l ep:Nat}{kus:List (List Key×U)}(ha:m[l]?=some a):z9 K (Itt a ep (kus.map (·.1))) m H (kus.map fun q=>.tup (q.1.map kU)) (fun S'=>S'[l]?=some (.fdt ep kus)):=by
 intro m2 S2 H2 i e sr hok;obtain⟨a',ha',ob,es,kvs,hx,hd,ip⟩:=sr.get hok;have ha2:=e.get ha;rw[ha2]at ha';cases ha';have hz:FzT H2 a ep (kus.map (·.1)):=⟨ob,es,kvs,hx,hd,ip.1⟩;refine⟨fun u hu=>?_,fun hu=>⟨by simpa using hu,hz⟩⟩;have hi:i<kus.length:=by have:=(Q9.mp hu).1;simpa using this
 refine⟨⟨by simpa using hi,hz⟩,?_⟩;rintro x H3 ⟨rfl,k,p,hk,rfl,hp⟩;refine⟨.refl,sr,?_⟩;rw[Qn]at hk hu;rw[Q7 hi]at hk hu;cases hk;cases hu;exact .tup_ (.inl (.inl hp)) (rD _)
end OP
namespace OP
open PySem PySem.Spec PyProof PyProof.Rows L2 OG PySem.W
theorem iG{prog:Qu}{w:Qm}{A:Z9}{E:Q6->QQ->Prop}{s:QQ}{a:Addr}{vs:List Q6}{n:Nat}{P:PySem.Fin->QQ->Prop}
  (g:s.heap.get? a=some (seqObj "list" vs.toArray n)) (h2:2<=vs.length) (h64:vs.length<64)
  (ask:∀h':Heap,(∀b o,b≠a->s.heap.get? b=some o->h'.get? b=some o)->wpAny (Qx prog w) A (keyKind' vs.toArray) (fun κ s'=>s'={ s with heap:=h' }/\KasT.kasWp (kas_ask prog w A κ vs) (kas_sort vs.length)
   (fun p s''=>s''={ s with heap:=h' }/\P (Fin.done (Flow.ret Value.none)) { s with heap:=sortedHeap s.heap a vs (p.toList.map fun i=>vs.getD i Value.none).toArray }) { s with heap:=h' }) E { s with heap:=h' }) :
  wpAny (Qx prog w) A (Builtin.«list.sort» { pos:=[Value.ref a] }) P E s:=by
 rw[list_sort_plain];have hS:vs.toArray.size=vs.length:=by simp
 have hz:vs.length<=QN:=by unfold QN;omega
 have lt:=QK g;refine Q2 (listItems_at g rfl (Q2 (listUpdate_at g rfl ?_ (by rw[hS];exact hz) (by simp))));obtain⟨e1,g1⟩:∃e1,(s.heap.update a (Obj.mapSeq fun _=>#[])).get? a=some (seqObj "list" #[] e1):=⟨_,get?_update_seq g fun _=>#[]⟩;refine Q2 (seqEpoch_at g1 rfl (Q2 (wpAny_newTuple (Q2 (wpAny_newList (wpAny_holding ?_) (by simp))) (by simpa using hz))));have hu:(s.heap.update a (Obj.mapSeq fun _=>#[])).objs.size=s.heap.objs.size:=Heap.size_update ..;have g2:(((s.heap.update a (Obj.mapSeq fun _=>#[])).push (seqObj "tuple" vs.toArray 0)).push (seqObj "list" #[] 0)).get? a=some (seqObj "list" #[] e1):=
  Q4 _ (Q4 _ g1)
 have n2:¬vs.toArray.size<2:=by rw[hS];omega
 dsimp only;rw[if_neg n2];have hk:∀b o,b≠a->s.heap.get? b=some o->(((s.heap.update a (Obj.mapSeq fun _=>#[])).push (seqObj "tuple" vs.toArray 0)).push (seqObj "list" #[] 0)).get? b=some o:=fun b o hb ho=>by
  refine Q4 _ (Q4 _ ?_);rw[Heap.get?_update_ne _ _ _ _ hb];exact ho
 refine Q2 (ZG (ask _ hk) (fun κ s' hs'=>?_) fun _ _ h'=>h');obtain⟨rfl,hrun⟩:=hs';rw[if_neg n2];refine Q2 (ZG (kat_run (ks:=vs) (Q:=fun st' s'=>∃p:Array Nat,p.size=vs.length/\arrOf st'=Array.map (kas_item (vs.toArray.zip vs.toArray)) p/\failedOf st'=none/\s'=_/\P (Fin.done (Flow.ret Value.none)) { s with heap:=sortedHeap s.heap a vs (p.toList.map fun i=>vs.getD i Value.none).toArray }) rfl h2 h64 (fun p st' s' hp harr hfail hG=>⟨p,hp,harr,hfail,hG⟩) hrun) (fun r s' hr=>?_) fun _ _ h'=>h');obtain⟨u,st'⟩:=r;obtain⟨p,hp,harr,hfail,rfl,hP⟩:=hr;have hout:Array.map (fun x=>x.snd) (arrOf st')=(p.toList.map fun i=>vs.getD i Value.none).toArray:=kat_snds rfl harr;refine Q2 (seqEpoch_at g2 rfl (Q2 (listUpdate_at g2 rfl ?_ (by simp) ?_)))
 ·dsimp only at hfail ⊢;rw[hfail];simp only[bne_self_eq_false,Qc,if_false];have hP':=hP;rw[<-hout]at hP';exact Q8 hP'
 ·dsimp only;rw[hout];simp;unfold QN;omega
def bE(h:Heap)(v:Q6)(p:Int×Int):Prop:=∃b o t1 t2 e,v=Value.ref b/\h.get? b=some o/\o.cls=Value.type "tuple"/\o.data=Data.seq #[Value.int p.1 t1,Value.int p.2 t2] e
def ltP(p q:Int×Int):Bool:=decide (p.1<q.1\/p.1=q.1/\p.2<q.2)
section
variable{prog:Qu}{w:Qm}{A:Z9}{E:Q6->QQ->Prop}{s:QQ}
theorem i8{b:Bool}{x y:Int}{t u:Tok}{Q:Bool->QQ->Prop}(h:Q (decide (x<y)) s):wpAny (Qx prog w) A (oneLt' b (Value.int x t) (Value.int y u)) Q E s:=by
 cases b with
 |true=>exact oneLt_int h
 |false=>
  rw[oneLt'_eq];dsimp only;rw[if_neg QC];exact Q2 (wpAny_lt_int (wpAny_truthy_bool h))
theorem Ck{v v':Q6}{p p':Int×Int}{C:Bool->QQ->Prop}(h:bE s.heap v p)(h':bE s.heap v' p')(c:C (ltP p p') s):wpAny (Qx prog w) A (keyLt' (tuples' true) v v') C E s:=by
 obtain⟨b,o,t1,t2,e,rfl,g,_,d⟩:=h;obtain⟨b',o',t1',t2',e',rfl,g',_,d'⟩:=h';refine kat_lt g d g' d' (kat_cons (wpAny_eqBool_int ?_));by_cases e1:p.1=p'.1
 ·rw[e1,beq_self_eq_true];refine kat_yes (kat_cons (wpAny_eqBool_int ?_));by_cases e2:p.2=p'.2
  ·rw[e2,beq_self_eq_true];refine kat_yes (kat_nil ?_);have:ltP p p'=false:=by simp[ltP,e1,e2]
   rw[this]at c;exact c
  ·rw[beq_eq_false_iff_ne.mpr e2];refine kat_no (i8 ?_);have:ltP p p'=decide (p.2<p'.2):=by simp[ltP,e1]
   rw[this]at c;exact c
 ·rw[beq_eq_false_iff_ne.mpr e1];refine kat_no (i8 ?_);have:ltP p p'=decide (p.1<p'.1):=by simp[ltP,e1]
  rw[this]at c;exact c
def c0(h:Heap):List Q6->List (Int×Int)->Prop
 |[],[]=>True
 |v::vs,p::ps=>bE h v p/\c0 h vs ps
 |_,_=>False
theorem cG{h:Heap}:∀{vs:List Q6} {ps:List (Int×Int)},c0 h vs ps->vs.length=ps.length
 |[],[],_=>rfl
 |_::_,_::_,k=>by rw[QD,QD,cG k.2]
 |[],_::_,k=>k.elim
 |_::_,[],k=>k.elim
theorem dS{h:Heap}:∀{vs:List Q6} {ps:List (Int×Int)} {i:Nat},c0 h vs ps->i<ps.length->bE h (vs.getD i Value.none) (ps.getD i (0,0))
 |[],[],_,_,k=>absurd k (Nat.not_lt_zero _)
 |_::_,_::_,0,k,_=>k.1
 |_::vs,_::ps,i+1,k,l=>by
  show bE h (vs.getD i Value.none) (ps.getD i (0,0));exact dS k.2 (by rw[QD]at l;omega)
 |[],_::_,_,k,_=>k.elim
 |_::_,[],_,k,_=>k.elim
theorem vD{h h':Heap}{v:Q6}{p:Int×Int}{a:Addr}(k:bE h v p)(hv:v≠.ref a)(m:∀b o,b≠a->h.get? b=some o->h'.get? b=some o):bE h' v p:=by
 obtain⟨b,o,t1,t2,e,rfl,g,c,d⟩:=k;exact⟨b,o,t1,t2,e,rfl,m b o (fun e=>hv (by rw[e])) g,c,d⟩
theorem iY{h h':Heap}{a:Addr}(m:∀b o,b≠a->h.get? b=some o->h'.get? b=some o):∀{vs:List Q6} {ps:List (Int×Int)},c0 h vs ps->(∀v∈vs,v≠.ref a)->c0 h' vs ps
 |[],[],_,_=>trivial
 |v::vs,_::_,k,hv=>⟨vD k.1 (hv v QY) m,iY m k.2 fun x hx=>hv x (QU _ hx)⟩
 |[],_::_,k,_=>k.elim
 |_::_,[],k,_=>k.elim
theorem ml{h:Heap}:∀{vs:List Q6} {ps:List (Int×Int)},c0 h vs ps->∃fs,KatTups h vs fs/\fs.length=vs.length/\∀f∈fs,∃i t,f=Value.int i t
 |[],[],_=>⟨[],trivial,rfl,fun f hf=>by cases hf⟩
 |v::vs,p::ps,k=>by
  obtain⟨fs,h1,h2,h3⟩:=ml k.2;obtain⟨b,o,t1,t2,e,hv,g,c,d⟩:=k.1;refine⟨Value.int p.1 t1::fs,⟨⟨b,o,_,e,hv,g,c,d,rfl⟩,h1⟩,by rw[QD,QD,h2],fun f hf=>?_⟩;rcases QL.mp hf with z|z
  ·exact⟨_,_,z⟩
  ·exact h3 f z
 |[],_::_,k=>k.elim
 |_::_,[],k=>k.elim
theorem sM{vs:List Q6}{ps:List (Int×Int)}{Q:SortKind->QQ->Prop}(h:c0 s.heap vs ps)(hn:0<vs.length)(q:Q (tuples' true) s):wpAny (Qx prog w) A (keyKind' vs.toArray) Q E s:=by
 obtain⟨fs,h1,h2,h3⟩:=ml h;refine kat_kind (T:=Value.type "int") h1 (by omega) (fun v hv A Q E s' _ q=>?_) (by decide +kernel) (by exact q);obtain⟨i,t,rfl⟩:=h3 v hv;exact wpAny_typeOf (typeIs_int s' i t) q
end
theorem Fu{ps:List (Int×Int)}(nd:ps.Nodup):xO ps.length fun i j=>ltP (ps.getD i (0,0)) (ps.getD j (0,0)) where
 tr:=fun{i j k} hi hj hk h1 h2=>by simp only[ltP,decide_eq_true_eq]at *;omega
 asym:=fun{i j} hi hj h=>by simp only[ltP,decide_eq_true_eq,decide_eq_false_iff_not]at *;omega
 tot:=fun{i j} hi hj hne h=>by
  simp only[ltP,decide_eq_true_eq,decide_eq_false_iff_not]at *;have hd:ps.getD i (0,0)≠ps.getD j (0,0):=by
   rw[QX,QX,Q7 hi,Q7 hj];simp only[ZV];exact fun e=>hne ((List.getElem_inj nd).mp e)
  have:¬((ps.getD i (0,0)).1=(ps.getD j (0,0)).1/\(ps.getD i (0,0)).2=(ps.getD j (0,0)).2):=fun e=>hd (Prod.ext e.1 e.2);omega
theorem fO{prog:Qu}{w:Qm}{A:Z9}{E:Q6->QQ->Prop}{s:QQ}{a:Addr}{vs:List Q6}{n:Nat}{P:PySem.Fin->QQ->Prop}
  (g:s.heap.get? a=some (seqObj "list" vs.toArray n)) (h2:vs.length<2) (hP:P (Fin.done (Flow.ret Value.none)) { s with heap:=sortedHeap s.heap a vs vs.toArray }) :
  wpAny (Qx prog w) A (Builtin.«list.sort» { pos:=[Value.ref a] }) P E s:=by
 rw[list_sort_plain];have hS:vs.toArray.size=vs.length:=by simp
 have hz:vs.length<=QN:=by unfold QN;omega
 refine Q2 (listItems_at g rfl (Q2 (listUpdate_at g rfl ?_ (by rw[hS];exact hz) (by simp))));obtain⟨e1,g1⟩:∃e1,(s.heap.update a (Obj.mapSeq fun _=>#[])).get? a=some (seqObj "list" #[] e1):=⟨_,get?_update_seq g fun _=>#[]⟩;refine Q2 (seqEpoch_at g1 rfl (Q2 (wpAny_newTuple (Q2 (wpAny_newList (wpAny_holding ?_) (by simp))) (by simpa using hz))));have g2:(((s.heap.update a (Obj.mapSeq fun _=>#[])).push (seqObj "tuple" vs.toArray 0)).push (seqObj "list" #[] 0)).get? a=some (seqObj "list" #[] e1):=
  Q4 _ (Q4 _ g1)
 have n2:vs.toArray.size<2:=by rw[hS];omega
 dsimp only;rw[if_pos n2];refine Q2 (Q8 ?_);rw[if_pos n2];refine Q2 (Q8 ?_);have hout:Array.map (fun x=>x.snd) (arrOf (SortSt.mk' general' (vs.toArray.zip vs.toArray) #[] 7 none))=vs.toArray:=by
  show Array.map (fun x=>x.snd) (vs.toArray.zip vs.toArray)=vs.toArray;simp[List.map_snd_zip]
 refine Q2 (seqEpoch_at g2 rfl (Q2 (listUpdate_at g2 rfl ?_ (by simp) ?_)))
 ·have hfail:failedOf (SortSt.mk' general' (vs.toArray.zip vs.toArray) #[] 7 none)=none:=rfl;dsimp only at hfail ⊢;simp only[hfail,bne_self_eq_false,Qc,if_false];have hP':=hP;rw[<-hout]at hP';exact Q8 hP'
 ·dsimp only;rw[hout];rw[hS];omega
def GO(ps:List (Int×Int))(q:Array Nat):Prop:=Pm ps.length q/\Asc (fun i j=>ltP (ps.getD i (0,0)) (ps.getD j (0,0))) q ps.length
theorem kH{prog:Qu}{w:Qm}{A:Z9}{E:Q6->QQ->Prop}{s:QQ}{a:Addr}{vs:List Q6}{ps:List (Int×Int)}{n:Nat}{P:PySem.Fin->QQ->Prop}
  (g:s.heap.get? a=some (seqObj "list" vs.toArray n)) (hp:c0 s.heap vs ps) (hv:∀v∈vs,v≠.ref a) (nd:ps.Nodup) (h64:ps.length<64)
  (k:∀q:Array Nat,GO ps q->P (Fin.done (Flow.ret Value.none)) { s with heap:=sortedHeap s.heap a vs (q.toList.map fun i=>vs.getD i Value.none).toArray }) :
  wpAny (Qx prog w) A (Builtin.«list.sort» { pos:=[Value.ref a] }) P E s:=by
 have hl:=cG hp;by_cases h2:vs.length<2
 ·have hr:((Qe ps.length).toArray.toList.map fun i=>vs.getD i Value.none)=vs:=by
   rw[<-hl];refine X1 fun i=>?_;by_cases hi:i<vs.length
   ·simp[List.getElem?_range hi,Q7 hi]
   ·simp[Zs (Nat.le_of_not_lt hi),hi]
  have:=k (Qe ps.length).toArray ⟨mY,fun i j hij hj=>by omega⟩;rw[hr]at this;exact fO g h2 this
 ·refine iG g (by omega) (by omega) fun h' m=>?_;have hp':c0 ({ s with heap:=h' }:QQ).heap vs ps:=iY m hp hv;refine sM hp' (by omega) ⟨rfl,?_⟩;have hl':vs.length=ps.length:=hl;rw[hl'];refine uM (Fu nd) (fun i j C hi hj c=>?_) (by omega) fun q P1 P2=>⟨rfl,k q ⟨P1,P2⟩⟩;exact Ck (dS hp' hi) (dS hp' hj) c
theorem mm{h:Heap}:∀{vs:List Q6} {ps:List (Int×Int)},c0 h vs ps->∀v∈vs,∀a,h.objs.size<=a->v≠.ref a
 |[],[],_,v,hv,_,_=>by cases hv
 |_::_,_::_,k,v,hv,a,ha=>by
  rcases QL.mp hv with z|z
  ·obtain⟨b,o,t1,t2,e,e1,g,_⟩:=k.1;rw[z,e1];intro e2;cases e2;exact absurd (QK g) (Nat.not_lt.mpr ha)
  ·exact mm k.2 v z a ha
 |[],_::_,k,_,_,_,_=>k.elim
 |_::_,[],k,_,_,_,_=>k.elim
def PrL(K:Q5)(H:Hp):List V->List (Int×Int)->Prop
 |[],[]=>True
 |x::xs,p::ps=>(∃a,x=.ref a/\SqT K H a [.int p.1,.int p.2])/\PrL K H xs ps
 |_,_=>False
theorem kq{K:Q5}{H:Hp}:∀{ys:List V} {ps:List (Int×Int)},PrL K H ys ps->ys.length=ps.length
 |[],[],_=>rfl
 |_::_,_::_,k=>by rw[QD,QD,kq k.2]
 |[],_::_,k=>k.elim
 |_::_,[],k=>k.elim
theorem qY{X:Cx}{pins:List (Addr×Obj)}{σ:L2.St}{H:Hp}{s:QQ}(I:Inv X pins σ H s):∀{ys:List V} {ps:List (Int×Int)} {vs:List Q6},PrL X.K H ys ps->bh ys vs->c0 s.heap vs ps
 |[],[],_,_,r=>by cases r;trivial
 |_::_,p::ps,_,k,r=>by
  cases r with
  |cons r1 r2=>
   refine⟨?_,qY I k.2 r2⟩;obtain⟨a,rfl,hs⟩:=k.1;obtain⟨its,rv,⟨o,g,c,n,d⟩,_⟩:=I.tuple hs;cases r1;cases rv with
   |cons u1 u2=>cases u2 with
    |cons u3 u4=>
     cases u4;obtain⟨t1,rfl⟩:=u1;obtain⟨t2,rfl⟩:=u3;exact⟨a,o,t1,t2,n,rfl,g,c,d⟩
 |[],_::_,_,k,_=>k.elim
 |_::_,[],_,k,_=>k.elim
theorem yj{ys:List V}{vs:List Q6}(r:bh ys vs){i:Nat}(hi:i<ys.length):bX (ys.getD i .non) (vs.getD i Value.none):=by
 induction r generalizing i with
 |nil=>simp at hi
 |cons r1 r2 ih=>
  cases i with
  |zero=>exact r1
  |succ i=>exact ih (by simpa using hi)
theorem jE{ys:List V}{vs:List Q6}(r:bh ys vs):∀(is:List Nat),(∀i∈is,i<ys.length)->bh (is.map fun i=>ys.getD i .non) (is.map fun i=>vs.getD i Value.none)
 |[],_=>.nil
 |i::is,h=>.cons (yj r (h i QY)) (jE r is fun j hj=>h j (QU _ hj))
theorem eS{n:Nat}{q:Array Nat}(P:Pm n q):∀i∈q.toList,i<n:=fun i hi=>by
 obtain⟨j,hj,e⟩:=List.mem_iff_getElem.mp hi;have hj':j<q.size:=by simpa using hj
 have:=P.bd j (by rw[<-P.sz];exact hj');rw[ZT,QH hj']at this;rw[Array.getElem_toList]at e;rw[<-e];exact this
theorem qz:∀as:List Addr,bh (as.map V.ref) (as.map Value.ref)
 |[]=>.nil
 |a::r=>.cons rfl (qz r)
theorem pQ{p:Int×Int}:ltP p p=false:=by simp[ltP]
theorem zg{p q:Int×Int}(h:ltP p q=true)(k:ltP q p=true):False:=by simp only[ltP,decide_eq_true_eq]at h k;omega
theorem rY:∀{L M:List (Int×Int)},L.Pairwise (fun a b=>ltP a b=true)->M.Pairwise (fun a b=>ltP a b=true)->(∀x,x∈L↔x∈M)->L=M
 |[],[],_,_,_=>rfl
 |[],m::M,_,_,h=>by have:=(h m).mpr QY;cases this
 |l::L,[],_,_,h=>by have:=(h l).mp QY;cases this
 |l::L,m::M,h1,h2,h=>by
  obtain⟨a1,b1⟩:=Zb.mp h1;obtain⟨a2,b2⟩:=Zb.mp h2;have e:l=m:=by
   rcases QL.mp ((h l).mp QY)with z|z
   ·exact z
   ·rcases QL.mp ((h m).mpr QY)with y|y
    ·exact y.symm
    ·exact(zg (a2 l z) (a1 m y)).elim
  subst e;congr 1;refine rY b1 b2 fun x=>⟨fun hx=>?_,fun hx=>?_⟩
  ·rcases QL.mp ((h x).mp (QU _ hx))with z|z
   ·subst z;have:=a1 x hx;rw[pQ]at this;cases this
   ·exact z
  ·rcases QL.mp ((h x).mpr (QU _ hx))with z|z
   ·subst z;have:=a2 x hx;rw[pQ]at this;cases this
   ·exact z
open Classical in
def dR(ps:List (Int×Int)):List (Int×Int):=if h:∃L:List (Int×Int),L.Pairwise (fun a b=>ltP a b=true)/\∀x,x∈L↔x∈ps then h.choose else[]
theorem jG{L ps:List (Int×Int)}(h1:L.Pairwise (fun a b=>ltP a b=true))(h2:∀x,x∈L↔x∈ps):dR ps=L:=by
 have h:∃L:List (Int×Int),L.Pairwise (fun a b=>ltP a b=true)/\∀x,x∈L↔x∈ps:=⟨L,h1,h2⟩;unfold dR;rw[dif_pos h];obtain⟨k1,k2⟩:=h.choose_spec;exact rY k1 h1 fun x=>(k2 x).trans (h2 x).symm
theorem xB{ps:List (Int×Int)}{q:Array Nat}(h:GO ps q):dR ps=q.toList.map fun i=>ps.getD i (0,0):=by
 obtain⟨P,A⟩:=h;have hl:q.toList.length=ps.length:=by rw[QF,P.sz]
 have gd:∀i (hi:i<q.toList.length),q.getD i 0=q.toList[i]:=fun i hi=>by
  have hi':i<q.size:=by simpa using hi
  rw[ZT,QH hi',Array.getElem_toList];rfl
 have h1:(q.toList.map fun i=>ps.getD i (0,0)).Pairwise (fun a b=>ltP a b=true):=by
  rw[Zz];intro i j hi hj hij;rw[QZ]at hi hj;rw[List.getElem_map,List.getElem_map,<-gd i hi,<-gd j hj];exact A i j hij (by omega)
 have nd:(q.toList.map fun i=>ps.getD i (0,0)).Nodup:=h1.imp fun{a b} h e=>by subst e;rw[pQ]at h;cases h
 have sub:∀x∈q.toList.map fun i=>ps.getD i (0,0),x∈ps:=fun x hx=>by
  obtain⟨i,hi,rfl⟩:=Qh.mp hx;have:=eS P i hi;rw[QX,Q7 this];exact ZK this
 refine jG h1 fun x=>⟨sub x,fun hx=>?_⟩;refine Classical.byContradiction fun hn=>?_;have:=List.Nodup.length_le_of_subset (ZS.mpr ⟨hn,nd⟩) (l₂:=ps) fun y hy=>by
  rcases QL.mp hy with z|z
  ·rw[z];exact hx
  ·exact sub y z
 rw[QD,QZ,hl]at this;omega
def pP(p:Int×Int):U:=.tup [.int p.1,.int p.2]
def kA:List U->Option (List (Int×Int))
 |[]=>some []
 |.tup [.int a,.int b]::r=>(kA r).map ((a,b)::·)
 |_=>none
theorem iZ:∀ps:List (Int×Int),kA (ps.map pP)=some ps
 |[]=>rfl
 |p::ps=>by rw[Qk,pP,kA,iZ ps];rfl
theorem kr:∀{us:List U} {ps:List (Int×Int)},kA us=some ps->us=ps.map pP
 |[],ps,h=>by cases h;rfl
 |u::us,ps,h=>by
  unfold kA at h;split at h
  ·rename_i e;cases e
  ·rename_i e;injection e with e1 e2;subst e1;subst e2;obtain⟨qs,e,h⟩:=ZQ.mp h;subst h;rw[Qk,<-kr e];rfl
  ·cases h
section
variable{K:Q5}{m:List Addr}{H:Hp}
theorem vn:∀{ys:List V} {ps:List (Int×Int)},IsL K m H ys (ps.map pP)->PrL K H ys ps
 |ys,[],h=>by rw[h.of_nil];trivial
 |ys,p::ps,h=>by
  obtain⟨y,r,rfl,i,t⟩:=h.of_cons;obtain⟨a,xs,rfl,hs,il⟩:=i.of_tup;have e:xs=[p.1,p.2].map V.int:=IsL.ints (ns:=[p.1,p.2]) il;subst e;exact⟨⟨a,rfl,hs⟩,vn t⟩
theorem vo:∀{ys:List V} {ps:List (Int×Int)} {i:Nat},PrL K H ys ps->i<ps.length->Is K m H (ys.getD i .non) (pP (ps.getD i (0,0)))
 |[],[],i,_,h=>by simp at h
 |y::ys,p::ps,0,k,_=>by
  obtain⟨a,e,hs⟩:=k.1;show Is K m H y (pP p);rw[e];exact .tup_ hs (jK [p.1,p.2])
 |y::ys,p::ps,i+1,k,h=>by
  show Is K m H (ys.getD i .non) (pP (ps.getD i (0,0)));exact vo k.2 (by simpa using h)
 |[],_::_,_,k,_=>k.elim
 |_::_,[],_,k,_=>k.elim
theorem pL{ys:List V}{ps:List (Int×Int)}(k:PrL K H ys ps):∀is:List Nat,(∀i∈is,i<ps.length)->IsL K m H (is.map fun i=>ys.getD i .non) (is.map fun i=>pP (ps.getD i (0,0)))
 |[],_=>.nil_
 |i::is,h=>.cons_ (vo k (h i QY)) (pL k is fun j hj=>h j (QU _ hj))
end
section
variable{X:Cx}{K:Q5}
def Ar:V->List V->Hp->VK->Prop:=fun x vs H Q=>∃(l:Addr) (ns:List Int) (z:Int) (j:Nat),x=.ref l/\vs=[.int z]/\H l=some (.lst (ns.map V.int))/\ns[j]?=some z/\(∀m,m<j->ns[m]?≠some z)/\j<1000000/\Q (.int (j:Nat)) H
def wt(z:Int):Q6->Bool
 |.int i _=>i == z
 |_=>false
theorem nN{ns:List Int}{its:List Q6}(r:bh (ns.map V.int) its){i:Nat}{v:Q6}(h:its[i]?=some v):∃n t,ns[i]?=some n/\v=Value.int n t:=by
 have hi:i<its.length:=(Q9.mp h).1;have hl:=r.length;rw[QZ]at hl;have hn:i<ns.length:=by omega
 obtain⟨u,e1,e2⟩:=r.get (i:=i) (x:=.int ns[i]) (by rw[Qn,Q7 hn];rfl);rw[h]at e1;cases e1;obtain⟨t,e⟩:=e2;exact⟨_,t,Q7 hn,e⟩
theorem zd:MtM X "list.index" Ar:=by
 intro pins s σ H x vs v us Q I rx rv h;obtain⟨l,ns,z,j,rfl,rfl,hH,hj,hm,hb,q⟩:=h;cases rx;obtain⟨u,rfl,ru⟩:=rv.one;obtain⟨tz,rfl⟩:=ru;obtain⟨_,its,n,r,hl,e⟩:=I.lstM hH;have hlen:=r.length;rw[QZ]at hlen;have hj':j<its.toArray.size:=by have:=(Q9.mp hj).1;simp;omega
 have at_:∀(m:Nat) (hm:m<its.toArray.size),∃k t,ns[m]?=some k/\its.toArray[m]=Value.int k t:=fun m hm=>by
  have hm':m<its.length:=by simpa using hm
  obtain⟨k,t,e1,e2⟩:=nN r (Q7 hm');exact⟨k,t,e1,by simpa using e2⟩
 refine call_meets PySem.F.slot_list_index ⟨_,e,rfl⟩ PySem.F.entry_list_index (PySem.F.args_list_index_2 _ _) (PySem.MeetsSeq.list_index l its.toArray n (Value.int z tz) (wt z) (fun y hy=>?_) j hj' (by omega) ?_ fun m hm1 hm2=>?_) ⟨e,?_⟩
 ·obtain⟨m,hm1,rfl⟩:=Array.mem_iff_getElem.mp hy;obtain⟨k,t,_,e2⟩:=at_ m hm1;rw[e2];exact PySem.MeetsSeq.EqGives.int _ _ _ _
 ·obtain⟨k,t,e1,e2⟩:=at_ j hj';rw[e2];rw[hj]at e1;cases e1;simp[wt]
 ·obtain⟨k,t,e1,e2⟩:=at_ m hm1;rw[e2];simp only[wt,beq_eq_false_iff_ne];intro e3;exact hm m hm2 (by rw[e1,e3])
 ·exact⟨.int (j:Nat),_,I.kept (fun b o g=>g),⟨_,rfl⟩,q⟩
theorem AH:∀{ns:List Int} {z:Int} {k:Nat} (h:k<ns.length),ns[k]=z->ns.idxOf z<=k
 |[],_,_,h,_=>absurd h (Nat.not_lt_zero _)
 |n::ns,z,0,_,e=>by
  have:n=z:=e;subst this;simp
 |n::ns,z,k+1,h,e=>by
  rw[List.idxOf_cons];have:=AH (ns:=ns) (z:=z) (k:=k) (by simpa using h) (by simpa using e);cases (n == z)<;>simp<;>omega
def cL:U->List U->Sto->Option (U×Sto)
 |.ref l,[.int z],S=>match S[l]? with
  |some (.lst us)=>(ja us).bind fun ns=>if z∈ns/\ns.length<=LIM then some (.int (ns.idxOf z:Nat),S)else none
  |_=>none
 |_,_,_=>none
theorem Co:MtP K Ar cL:=by
 intro m S H x v us vs u S' Q sr ix i hf post;match x,us,hf with
 |.ref l,[.int z],hf=>
  simp only[cL]at hf;split at hf<;>try cases hf
  rename_i ws hS;obtain⟨ns,hn,h⟩:=Q0.mp hf;split at h<;>try cases h
  have hk:z∈ns/\ns.length<=LIM:=by assumption
  obtain⟨a,ha,rfl⟩:=ix.of_ref;obtain⟨a',ha',xs,hx,la⟩:=sr.get hS;rw[ha]at ha';cases ha';obtain⟨y,rfl,iy⟩:=i.one;rw[iH hn]at la;rw[la.ints]at hx;have hlt:ns.idxOf z<ns.length:=List.idxOf_lt_length_of_mem hk.1;have hL:ns.length<=100000:=hk.2;refine⟨a,ns,z,ns.idxOf z,rfl,by rw[iy.of_int],hx,?_,fun k hk e=>?_,by omega,post m _ _ .refl sr .int_⟩
  ·rw[Q7 hlt,List.getElem_idxOf]
  ·obtain⟨h1,h2⟩:=Q9.mp e;exact absurd (AH h1 h2) (Nat.not_le.mpr hk)
variable{e:Qq}{es:List Qq}{co:CE}{cr:CA}{o:Qq}{apos cpos:Pos}
theorem mW (ho : QE X o co) (ha : QA X (e :: es) cr) (hbase : attributeBase o "index" X.env (eval o X.env) = eval o X.env := by rfl) (hfew : ((ZD cpos (QR (e :: es) X.env)).all (fun x => !x.1) && (backToKw cpos (keywordEach [] X.env)).all (fun x => x.1.isSome)
   && decide ((e::es).length+([]:List Keyword).length+(if ([]:List Keyword).isEmpty then 0 else 1)<30))=true:=by rfl) (hline:(apos.endLine == cpos.line)=true:=by rfl) (hs:QR (e::es) X.env=(false,eval e X.env)::QR es X.env:=by rfl) (hplain:(ZD cpos (QR es X.env)).any (·.1)=false:=by rfl) :
  QE X (.Call (.Attribute o "index" apos) (e::es) [] cpos) (cBM cL co cr):=(ux PySem.F.plainAttrs_list PySem.F.slot_list_index PySem.F.type_list_index zd ho ha.h hbase hfew hline hs hplain).imp (xp Co)
end
section
variable{X:Cx}{K:Q5}
theorem CF{pins:List (Addr×Obj)}{σ:L2.St}{H:Hp}{s:QQ}{b:Addr}{ks:List Key}(I:Inv X pins σ H s)(sq:SqT X.K H b (ks.map kV)):(tupleKind (bA X.prog X.w)).is s.heap ks b:=by
 obtain⟨its,r,⟨o,h1,h2,n,h3⟩,_⟩:=I.tuple sq;exact⟨o,its.toArray,n,h1,h2,h3,by simpa using kK r⟩
def Em(K:Q5)(td ty:TE):TE:=fun σ H Q=>td σ H fun x H1=>ty σ H1 fun y H2=>∃(a b:Addr) (kvs:List (List Key×V)) (k:List Key) (v:V),x=.ref a/\y=.ref b/\Rd H2 a (.dT kvs)/\SqT K H2 b (k.map kV)/\lI kvs k=some v/\Q v H2
theorem uv{o i:Qq}{td ty:TE}{pos:Pos}(hu:X.A.units+1<cLine)(ho:WE X o td)(hi:WE X i ty)(hs:Dj i):WE X (.Subscript o i pos) (Em X.K td ty):=by
 constructor;intro pins s σ H Q I h;refine uK PySem.F.slot_dict_getitem.lookup hs (thn (ho.h pins s σ H _ I h) fun u s1 hz=>?_);obtain⟨x,H1,I1,rx,q1⟩:=hz;refine thn (hi.h pins s1 σ H1 _ I1 q1) fun iv s2 hz=>?_;obtain⟨y,H2,I2,ry,a,b,kvs,k,v,ex,ey,e,sq,l,q2⟩:=hz;subst ex;subst ey;cases (show u=Value.ref a from rx);cases (show iv=Value.ref b from ry);obtain⟨z,hd,xs,rel,dd⟩:=tJ I2.hok e;refine⟨dd.typeIs,?_⟩;obtain⟨w',hw,rw'⟩:=tR.some_of (v:=v) (o:=(atKey xs k).map (·.2)) (by rw[<-l];exact rel.val k);obtain⟨p,hp,hp2⟩:=ZQ.mp hw;refine wpAny_getItem_heap (tupleKind_room_in1 hu) (CF I2 sq) dd hp ?_;rw[hp2];exact⟨v,H2,I2.tok _,rw',q2⟩
def CZ:U->U->Sto->Option (U×Sto):=fun x y S=>match x with
 |.ref l=>match y with
  |.tup us=>(BE us).bind fun ks=>match S[l]? with
   |some (.dit kus)=>(iN kus ks).bind fun u=>some (u,S)
   |some (.fdt _ kus)=>(iN kus ks).bind fun u=>some (u,S)
   |_=>none
  |_=>none
 |_=>none
theorem Ig{a b:Qq}{ca cb:CE}{pos:Pos}(hu:X.A.units+1<cLine)(ha:QE X a ca)(hb:QE X b cb)(hs:Dj b):QE X (.Subscript a b pos) (cOp CZ ca cb):=
 (uv hu ha hb hs).imp fun σ H Q hz=>gN hz fun m ρ S u S' sr lr hc post=>by
 obtain⟨⟨x,S1⟩,h1,h⟩:=Q0.mp hc;obtain⟨⟨y,S2⟩,h3,h4⟩:=Q0.mp h;refine⟨m,ρ,S,_,S1,sr,lr,h1,fun m1 v1 H1 e1 sr1 i1=>⟨m1,ρ,S1,_,S2,sr1,lr.mono e1,h3,fun m2 v2 H2 e2 sr2 i2=>?_⟩⟩;cases x with
 |ref l=>
  cases y with
  |tup us=>
   simp only[CZ]at h4;obtain⟨ks,hk,h5⟩:=Q0.mp h4;obtain⟨a,ha,rfl⟩:=(i1.mono e2).of_ref;obtain⟨b,xs,rfl,sb,lb⟩:=i2.of_tup;have hx:=pF lb hk;subst hx;split at h5<;>try cases h5
   ·rename_i kus hS;obtain⟨w,hw,h6⟩:=Q0.mp h5;cases h6;obtain⟨a',ha',kvs,hx,ip⟩:=sr2.get hS;rw[ha]at ha';cases ha';have rf:=IsP.val (k:=ks) ip;rw[hw]at rf;cases hv:lI kvs ks with
    |none=>rw[hv]at rf;exact rf.elim
    |some z=>
     rw[hv]at rf;exact⟨a,b,kvs,ks,z,rfl,rfl,.inl hx,sb,hv,post m2 _ H2 (e1.trans e2) sr2 rf⟩
   ·rename_i ep kus hS;obtain⟨w,hw,h6⟩:=Q0.mp h5;cases h6;obtain⟨a',ha',ob,es,kvs,hx,hd,ip⟩:=sr2.get hS;rw[ha]at ha';cases ha';have rf:=IsP.val (k:=ks) ip;rw[hw]at rf;cases hv:lI kvs ks with
    |none=>rw[hv]at rf;exact rf.elim
    |some z=>
     rw[hv]at rf;exact⟨a,b,kvs,ks,z,rfl,rfl,.inr ⟨ob,hx⟩,sb,hv,post m2 _ H2 (e1.trans e2) sr2 rf⟩
  |_=>cases h4
 |_=>cases h4
theorem yi{e:Qq}{t:TE}(h:WE X e t):WE X e (fun σ H Q=>t σ H fun v H'=>∃a ob kvs,Gj X a/\H' a=some (.frz ob (.dT kvs))/\Q v (upd H' a (.dT kvs))):=by
 constructor;intro pins s σ H Q I k;refine thn (h.h pins s σ H _ I k) fun u s1 hz=>?_;obtain⟨v,H1,I1,r1,a,ob,kvs,nf,e,q⟩:=hz;exact⟨v,_,wu I1 nf e,r1,q⟩
def xm(ce:CE)(f:(Sto->Prop)->Nat->List U->Rho->Sto->Option Sto)(n:Nat)(caps:List Nat):CE:=fun ρ S=>(ce ρ S).bind fun p=>match p.1 with
 |.ref l=>match p.2[l]? with
  |some (.dit kus)=>uni fun ep=>(f (fun S'=>S'[l]?=some (.fdt ep kus)) p.2.length (kus.map fun q=>.tup (q.1.map kU)) (mh n caps ρ) (p.2.set l (.fdt ep kus)++[.lst []])).bind fun S'=>match S'[l]? with
   |some (.fdt _ kus')=>some (.ref p.2.length,S'.set l (.dit kus'))
   |_=>none
  |_=>none
 |_=>none
def rW(ce:CE)(g:CG)(el:CE)(n:Nat)(caps:List Nat):CE:=xm ce (fun ok l=>gP ok g el l) n caps
theorem uC{ce:CE}{f:(Sto->Prop)->Nat->List U->Rho->Sto->Option Sto}{n:Nat}{caps:List Nat}{G:It->Hp->L2.St->VK->Prop}
  (core:∀{J:It} {us:List U} {ok:Sto->Prop} {Q:VK} {m1:List Addr} {H1:Hp} {S1 S':Sto} {ρ:Rho} {σ:L2.St},Sr X.K m1 S1 H1->Lr X.K m1 H1 ρ σ->z9 X.K J m1 H1 us ok->f ok S1.length us (mh n caps ρ) (S1++[.lst []])=some S'->
   (∀l,H1 l=none->∀m2 H2,Ext X.K (m1++[l]) (upd H1 l (.lst [])) m2 H2->Sr X.K m2 S' H2->Q (.ref l) H2)->G J H1 σ Q) :
  ∀σ H Q,tE X.K (xm ce f n caps) σ H Q->AI X (tE X.K ce) σ H fun J H1=>G J H1 σ fun v H'=>∃a ob kvs,Gj X a/\H' a=some (.frz ob (.dT kvs))/\Q v (upd H' a (.dT kvs)):=by
 intro σ H Q hz;refine gN hz fun m ρ S u S' sr lr hc post=>?_;obtain⟨⟨x,S1⟩,h1,h⟩:=Q0.mp hc;refine⟨m,ρ,S,x,S1,sr,lr,h1,fun m1 v1 H1 e1 sr1 i1=>?_⟩;cases x with
 |ref l=>
  simp only at h;split at h<;>try cases h
  rename_i kus hS;obtain⟨a,ha,rfl⟩:=i1.of_ref;obtain⟨a',ha',kvs,hx,ip⟩:=sr1.get hS;rw[ha]at ha';cases ha';refine⟨a,kvs,rfl,hx,fun ob es ep nf hd=>?_⟩;obtain⟨S2,h2,h3⟩:=Q0.mp (ym h ep);try simp only at h3
  split at h3<;>try cases h3
  rename_i ep' kus' hS2;have ee:Ext X.K m1 H1 m1 (upd H1 a (.frz ob (.dT kvs))):=.of (sr1.keep ha _);have sr2:Sr X.K m1 (S1.set l (.fdt ep kus)) (upd H1 a (.frz ob (.dT kvs))):=sr1.put ha ⟨ob,es,kvs,aP,hd,ip.mono ee⟩;rw[ip.1];have hln:(S1.set l (.fdt ep kus)).length=S1.length:=by simp
  refine core sr2 (lr.mono (e1.trans ee)) (zt ha) (by rw[hln];exact h2) fun p hp m3 H3 e3 sr3=>?_;have en:Ext X.K m1 (upd H1 a (.frz ob (.dT kvs))) (m1++[p]) (upd (upd H1 a (.frz ob (.dT kvs))) p (.lst [])):=.new (bC hp _);have e03:=en.trans e3;obtain⟨a3,ha3,ob3,es3,kvs3,hx3,hd3,ip3⟩:=sr3.get hS2;rw[e03.get ha]at ha3;cases ha3;have e4:Ext X.K m3 H3 m3 (upd H3 a (.dT kvs3)):=.of (sr3.keep (e03.get ha) _);refine⟨a,ob3,kvs3,nf,hx3,post m3 _ _ (((e1.trans ee).trans e03).trans e4) (sr3.put (e03.get ha) ⟨kvs3,aP,ip3.mono e4⟩) ?_⟩;have lg:(m1++[p])[S1.length]?=some p:=dF sr1.len;exact .ref_ (e3.get lg)
 |_=>cases h
variable{Nc capN tn:List Str}{scope:X2}{cl:List (Str×Addr)}{n:Nat}{caps:List Nat}{tg iter elt:Qq}{pos:Pos}{ci:CE}{g:CG}{ce:CE}
theorem B0(hc:X.calm=true)(hi:QE X iter ci)(hg:∀s3 H3 fp,WG (cxC X Nc scope cl s3 H3 fp) tg (tG X.K g))(he:∀s3 H3 fp,WE (cxC X Nc scope cl s3 H3 fp) elt (tE X.K ce))
  (hclos:closureFor scope X.env=pure cl) (hkind:scope.kind=.function) (hnl:∀x∈scope.names,x.2=.local->scope.names.lookup x.1=some .local) (hcell:∀x∈scope.names,x.2≠.cell)
  (hcl:ph X.env cl) (hhas:((relabel scope X.env).names.all fun p=>!(p.2 == .cell||p.2 == .free)||(cl.lookup p.1).isSome)=true)
  (hcap:Paired (Cap X scope cl) caps capN) (hN:Nc=tn++capN) (hn:tn.length=n)
  (hs:∀x,foldedSetIterable iter X.env x=pure x:=by intro _;rfl) :
  QE X (.ListComp elt [⟨tg,iter,[],0⟩] scope pos) (rW ci g ce n caps):=
 (yi (qx hc (yg hi) hg he hclos hkind hnl hcell hcl hhas hcap hN hn hs)).imp (uC (G:=fun J H1 σ Q=>∀l,H1 l=none->∃W:Nat->Nat->L2.St->Hp->Prop,(∃m,W 0 m (OG.stC n caps σ) (upd H1 l (.lst [])))/\
  ∀i m σ' H2,W i m σ' H2->(J.stop i H2/\Q (.ref l) H2)\/(J.go i H2/\∃N:L2.St->Hp->Prop,(∀σ'' H',N σ'' H'->∃m',m'<m/\W (i+1) m' σ'' H')/\
  ∀x H3,J.yld i H2 x H3->tG X.K g x σ' H3 fun σ2 H4=>tE X.K ce σ2 H4 fun v H5=>∃ys,H5 l=some (.lst ys)/\ys.length<QN/\N σ2 (upd H5 l (.lst (ys++[v]))))) fun sr lr ito h2 post l hl=>oN sr lr ito hl h2 (post l hl))
end
theorem mi(n:Nat):(Qe n).map (fun k=>n-1-k)=(Qe n).reverse:=by
 refine List.ext_getElem (by simp) fun i h1 h2=>?_;simp at h1;simp[List.getElem_reverse]
theorem vy(its:List Q6):slicePick its.toArray none none (some (-1))=its.reverse.toArray:=by
 have hr:sliceRange ((its.length:Int)-1) (-1) (-1)=(Qe its.length).reverse:=by
  rw[<-mi];unfold sliceRange;have h0:¬((-1:Int)>0):=by decide
  simp only[h0,if_false];have hc:(if (its.length:Int)-1 > -1 then((its.length:Int)-1 - -1 - -1-1) / - -1 else 0).toNat=its.length:=by
   by_cases h:(its.length:Int)-1 > -1
   ·rw[if_pos h];have:((its.length:Int)-1 - -1 - -1-1) / - -1=its.length:=by
     rw[Int.neg_neg,Int.ediv_one];omega
    rw[this];exact Zv _
   ·rw[if_neg h];simp;omega
  rw[hc];refine Zw fun k hk=>?_;have:=Ql.mp hk;omega
 unfold slicePick sliceBounds;have h0:¬((-1:Int)>0):=by decide
 simp only[ZV,h0,if_false,QM,hr];rw[List.filterMap_reverse];have:=pick_run its.toArray 0 its.length;simp only[Nat.zero_add,List.map_id',List.drop_zero]at this;rw[this,Zt (by simp)]
theorem yQ(its:List Q6):slicePick its.toArray none none (some 1)=its.toArray:=by
 unfold slicePick sliceBounds;have h0:(1:Int)>0:=by decide
 simp only[ZV,h0,if_true,QM];have:=sliceRange_one 0 its.length;simp only[Nat.sub_zero]at this;rw[show((0:Int))=((0:Nat):Int)from rfl,this];have:=pick_run its.toArray 0 its.length;rw[this,List.drop_zero,Zt (by simp)]
theorem mJ:∀{xs:List V} {us:List Q6},bh xs us->bh xs.reverse us.reverse
 |[],us,r=>by cases r;exact .nil
 |x::xs,us,r=>by
  cases r with
  |cons r1 r2=>
   rw[List.reverse_cons,List.reverse_cons];exact bh.append (mJ r2) (.cons r1 .nil)
section
variable{X:Cx}{K:Q5}
def Ko(K:Q5)(te ts:TE):TE:=fun σ H Q=>te σ H fun x H1=>ts σ H1 fun y H2=>∃(a:Addr) (xs:List V) (b:Bool),x=.ref a/\SqL K H2 a xs/\y=.int (if b then 1 else -1)/\∀p,H2 p=none->Q (.ref p) (upd H2 p (.lst (if b then xs else xs.reverse)))
theorem Bs{e st:Qq}{te ts:TE}{pos p2:Pos}(he:WE X e te)(hst:WE X st ts):WE X (.Subscript e (.Slice none none (some st) p2) pos) (Ko X.K te ts):=by
 constructor;intro pins s σ H Q I h;refine Subscript_ (thn (he.h pins s σ H _ I h) fun v s1 hz=>?_);obtain⟨x,H1,I1,r1,q1⟩:=hz;refine wpAny_Slice ?_;rw[evalPart_none];refine Q8 (Q8 ?_);show wpAny _ _ (eval st X.env) _ _ s1;refine thn (hst.h pins s1 σ H1 _ I1 q1) fun vs s3 hz=>?_;obtain⟨y,H3,I3,ry,a,xs,b,rfl,hx,rfl,q⟩:=hz;cases r1;obtain⟨t,rfl⟩:=(show ∃t,vs=Value.int (if b then 1 else -1) t from ry);have I4:Inv X pins σ H3 { s3 with heap:=s3.heap.push { cls:=.type "slice",data:=.fields #[.none,.none,.int (if b then 1 else -1) t] } }:=I3.kept (t':=s3.toks) fun b ob q=>Q4 _ q;obtain⟨its,r,ht,hz⟩:=I4.list hx;have hlen:=r.length;show wpAny (Qx X.prog X.w) X.A (subscriptTail e (.Slice none none (some st) p2) (.ref a) (.ref s3.heap.objs.size)) (EP X pins σ Q) X.xe { s3 with heap:=s3.heap.push { cls:=.type "slice",data:=.fields #[.none,.none,.int (if b then 1 else -1) t] } };refine tail_any (ops:=[.ref a,.ref s3.heap.objs.size]) ht.isList.typeIs slot_list_getitem.lookup ?_ (by with_unfolding_all rfl);refine wpAny_getItem_list_slice ht.isList (Heap.IsSliceOf.new ..) .none .none (.int _ t) (by cases b<;>simp) ?_ (by rw[QM]<;>omega);have hp:slicePick its.toArray none none (some (if b then 1 else -1))=(if b then its else its.reverse).toArray:=by
  cases b
  ·exact vy its
  ·exact yQ its
 rw[hp];refine⟨.ref _,_,I4.laid (t':=s3.toks) (o:=.lst (if b then xs else xs.reverse)) (fun b ob q=>Q4 _ q) (QJ _) ?_,rfl,q _ (I4.hok.fresh (QJ _))⟩;cases b
 ·exact⟨by simpa using hz,_,0,mJ r,QV _ rfl⟩
 ·exact⟨hz,_,0,r,QV _ rfl⟩
def Df(x y:U)(S:Sto):Option (U×Sto):=match x with
 |.ref l=>match y with
  |.int i=>match S[l]? with
   |some (.lst us)=>if i=1 then some (.ref S.length,S++[.lst us])else if i=-1 then some (.ref S.length,S++[.lst us.reverse])else none
   |_=>none
  |_=>none
 |_=>none
theorem Ie{e st:Qq}{ca cs:CE}{pos p2:Pos}(ha:QE X e ca)(hs:QE X st cs):QE X (.Subscript e (.Slice none none (some st) p2) pos) (cOp Df ca cs):=
 (Bs ha hs).imp fun σ H Q hz=>gN hz fun m ρ S u S' sr lr hc post=>by
 obtain⟨⟨x,S1⟩,h1,h⟩:=Q0.mp hc;obtain⟨⟨y,S2⟩,h3,h4⟩:=Q0.mp h;refine⟨m,ρ,S,_,S1,sr,lr,h1,fun m1 v1 H1 e1 sr1 i1=>⟨m1,ρ,S1,_,S2,sr1,lr.mono e1,h3,fun m2 v2 H2 e2 sr2 i2=>?_⟩⟩;cases x with
 |ref l=>
  cases y with
  |int i=>
   simp only[Df]at h4;split at h4<;>try cases h4
   rename_i us hS;obtain⟨a,ha,rfl⟩:=(i1.mono e2).of_ref;obtain⟨a',ha',xs,hx,la⟩:=sr2.get hS;rw[ha]at ha';cases ha';split at h4
   ·rename_i hi;subst hi;cases h4;refine⟨a,xs,true,rfl,SqL.of hx,i2.of_int,fun p hp=>?_⟩;have en:Ext X.K m2 H2 (m2++[p]) (upd H2 p (.lst xs)):=.new (bC hp _);exact post (m2++[p]) _ _ ((e1.trans e2).trans en) (sr2.new hp ⟨xs,aP,la.mono en⟩) (.ref_ (dF sr2.len))
   ·split at h4<;>try cases h4
    rename_i hi;subst hi;refine⟨a,xs,false,rfl,SqL.of hx,i2.of_int,fun p hp=>?_⟩;have en:Ext X.K m2 H2 (m2++[p]) (upd H2 p (.lst xs.reverse)):=.new (bC hp _);exact post (m2++[p]) _ _ ((e1.trans e2).trans en) (sr2.new hp ⟨xs.reverse,aP,la.rev.mono en⟩) (.ref_ (dF sr2.len))
  |_=>cases h4
 |_=>cases h4
end
def ltR:List Int->List Int->Bool
 |[],[]=>false
 |[],_::_=>true
 |_::_,[]=>false
 |a::r,b::t=>if a=b then ltR r t else decide (a<b)
theorem kG:∀r:List Int,ltR r r=false
 |[]=>rfl
 |a::r=>by rw[ltR,if_pos rfl];exact kG r
theorem nk:∀{r t:List Int},ltR r t=true->ltR t r=false
 |[],[],h=>by cases h
 |[],_::_,_=>rfl
 |_::_,[],h=>by cases h
 |a::r,b::t,h=>by
  rw[ltR]at h ⊢;by_cases e:a=b
  ·rw[if_pos e]at h;rw[if_pos e.symm];exact nk h
  ·rw[if_neg e,decide_eq_true_eq]at h;rw[if_neg (Ne.symm e),decide_eq_false_iff_not];omega
theorem vP:∀{r t:List Int},r≠t->ltR r t=false->ltR t r=true
 |[],[],n,_=>absurd rfl n
 |[],_::_,_,h=>by cases h
 |_::_,[],_,_=>rfl
 |a::r,b::t,n,h=>by
  rw[ltR]at h ⊢;by_cases e:a=b
  ·subst e;rw[if_pos rfl]at h ⊢;exact vP (fun z=>n (by rw[z])) h
  ·rw[if_neg e,decide_eq_false_iff_not]at h;rw[if_neg (Ne.symm e),decide_eq_true_eq];omega
theorem oy:∀{r t u:List Int},ltR r t=true->ltR t u=true->ltR r u=true
 |[],[],_,h,_=>by cases h
 |_::_,[],_,h,_=>by cases h
 |_,_::_,[],_,k=>by cases k
 |[],_::_,_::_,_,_=>rfl
 |a::r,b::t,c::u,h,k=>by
  rw[ltR]at h k ⊢;by_cases e:a=b
  ·subst e;rw[if_pos rfl]at h;by_cases e2:a=c
   ·rw[if_pos e2]at k ⊢;exact oy h k
   ·rw[if_neg e2]at k ⊢;exact k
  ·rw[if_neg e,decide_eq_true_eq]at h;by_cases e2:b=c
   ·subst e2;rw[if_neg e,decide_eq_true_eq];exact h
   ·rw[if_neg e2,decide_eq_true_eq]at k;have:a≠c:=by omega
    rw[if_neg this,decide_eq_true_eq];omega
def qp(h:Heap)(v:Q6)(ns:List Int):Prop:=∃b o its e,v=Value.ref b/\h.get? b=some o/\o.cls=Value.type "tuple"/\o.data=Data.seq its e/\bh (ns.map V.int) its.toList
section
variable{prog:Qu}{w:Qm}{A:Z9}{E:Q6->QQ->Prop}{s:QQ}
theorem AD{C:Bool->QQ->Prop}{fin:Bool}:∀{ns ms:List Int} {vs us:List Q6} {i:Nat},bh (ns.map V.int) vs->bh (ms.map V.int) us->fin=decide (ns.length<ms.length)->C (ltR ns ms) s->KatLex prog w A true fin C (vs.zip us) i s
 |[],ms,vs,us,i,r1,r2,e,c=>by
  cases r1;rw[List.zip_nil_left];refine kat_nil ?_;cases ms with
  |nil=>subst e;exact c
  |cons m ms=>subst e;exact c
 |n::ns,[],vs,us,i,r1,r2,e,c=>by
  cases r2;rw[List.zip_nil_right];refine kat_nil ?_;subst e;exact c
 |n::ns,m::ms,vs,us,i,r1,r2,e,c=>by
  cases r1 with
  |cons u1 t1=>
   cases r2 with
   |cons u2 t2=>
    obtain⟨k1,rfl⟩:=u1;obtain⟨k2,rfl⟩:=u2;rw[List.zip_cons_cons];refine kat_cons (wpAny_eqBool_int ?_);by_cases en:n=m
    ·subst en;rw[beq_self_eq_true];rw[ltR,if_pos rfl]at c;exact kat_yes (AD t1 t2 (by rw[e];simp) c)
    ·rw[beq_eq_false_iff_ne.mpr en];rw[ltR,if_neg en]at c;exact kat_no (i8 c)
theorem Ez{v v':Q6}{ns ms:List Int}{C:Bool->QQ->Prop}(h:qp s.heap v ns)(h':qp s.heap v' ms)(c:C (ltR ns ms) s):wpAny (Qx prog w) A (keyLt' (tuples' true) v v') C E s:=by
 obtain⟨b,o,its,e,rfl,g,_,d,r⟩:=h;obtain⟨b',o',its',e',rfl,g',_,d',r'⟩:=h';refine kat_lt g d g' d' (AD r r' ?_ c);have l1:its.size=ns.length:=by have:=r.length;rw[QZ]at this;rw[this];exact QF.symm
 have l2:its'.size=ms.length:=by have:=r'.length;rw[QZ]at this;rw[this];exact QF.symm
 rw[l1,l2]
def eF(h:Heap):List Q6->List (List Int)->Prop
 |[],[]=>True
 |v::vs,p::ps=>qp h v p/\eF h vs ps
 |_,_=>False
theorem mP{h:Heap}:∀{vs:List Q6} {ps:List (List Int)},eF h vs ps->vs.length=ps.length
 |[],[],_=>rfl
 |_::_,_::_,k=>by rw[QD,QD,mP k.2]
 |[],_::_,k=>k.elim
 |_::_,[],k=>k.elim
theorem mQ{h:Heap}:∀{vs:List Q6} {ps:List (List Int)} {i:Nat},eF h vs ps->i<ps.length->qp h (vs.getD i Value.none) (ps.getD i [])
 |[],[],_,_,k=>absurd k (Nat.not_lt_zero _)
 |_::_,_::_,0,k,_=>k.1
 |_::vs,_::ps,i+1,k,l=>by
  show qp h (vs.getD i Value.none) (ps.getD i []);exact mQ k.2 (by rw[QD]at l;omega)
 |[],_::_,_,k,_=>k.elim
 |_::_,[],_,k,_=>k.elim
theorem ig{h h':Heap}{a:Addr}(m:∀b o,b≠a->h.get? b=some o->h'.get? b=some o):∀{vs:List Q6} {ps:List (List Int)},eF h vs ps->(∀v∈vs,v≠.ref a)->eF h' vs ps
 |[],[],_,_=>trivial
 |v::vs,_::_,k,hv=>by
  refine⟨?_,ig m k.2 fun x hx=>hv x (QU _ hx)⟩;obtain⟨b,o,its,e,rfl,g,c,d⟩:=k.1;exact⟨b,o,its,e,rfl,m b o (fun e=>hv _ QY (by rw[e])) g,c,d⟩
 |[],_::_,k,_=>k.elim
 |_::_,[],k,_=>k.elim
theorem nY{h:Heap}:∀{vs:List Q6} {ps:List (List Int)},eF h vs ps->(∀p∈ps,p≠[])->∃fs,KatTups h vs fs/\fs.length=vs.length/\∀f∈fs,∃i t,f=Value.int i t
 |[],[],_,_=>⟨[],trivial,rfl,fun f hf=>by cases hf⟩
 |v::vs,p::ps,k,ne=>by
  obtain⟨fs,h1,h2,h3⟩:=nY k.2 fun q hq=>ne q (QU _ hq);obtain⟨b,o,its,e,hv,g,c,d,r⟩:=k.1;cases p with
  |nil=>exact absurd rfl (ne [] QY)
  |cons n ns=>
   obtain⟨x,t,hx⟩:∃x t,its.toList=x::t:=by
    cases hl:its.toList with
    |nil=>rw[hl]at r;have:=r.length;simp at this
    |cons x t=>exact⟨x,t,rfl⟩
   have hi:∃i t',x=Value.int i t':=by
    rw[hx]at r;cases r with
    |cons u1 t1=>obtain⟨k1,rfl⟩:=u1;exact⟨_,_,rfl⟩
   refine⟨x::fs,⟨⟨b,o,its,e,hv,g,c,d,?_⟩,h1⟩,by rw[QD,QD,h2],fun f hf=>?_⟩
   ·rw[<-Qb,hx];rfl
   ·rcases QL.mp hf with z|z
    ·rw[z];exact hi
    ·exact h3 f z
 |[],_::_,k,_=>k.elim
 |_::_,[],k,_=>k.elim
theorem uZ{vs:List Q6}{ps:List (List Int)}{Q:SortKind->QQ->Prop}(h:eF s.heap vs ps)(ne:∀p∈ps,p≠[])(hn:0<vs.length)(q:Q (tuples' true) s):wpAny (Qx prog w) A (keyKind' vs.toArray) Q E s:=by
 obtain⟨fs,h1,h2,h3⟩:=nY h ne;refine kat_kind (T:=Value.type "int") h1 (by omega) (fun v hv A Q E s' _ q=>?_) (by decide +kernel) (by exact q);obtain⟨i,t,rfl⟩:=h3 v hv;exact wpAny_typeOf (typeIs_int s' i t) q
theorem ik{h:Heap}:∀{vs:List Q6} {ps:List (List Int)},eF h vs ps->∀v∈vs,∀a,h.objs.size<=a->v≠.ref a
 |[],[],_,v,hv,_,_=>by cases hv
 |_::_,_::_,k,v,hv,a,ha=>by
  rcases QL.mp hv with z|z
  ·obtain⟨b,o,its,e,e1,g,_⟩:=k.1;rw[z,e1];intro e2;cases e2;exact absurd (QK g) (Nat.not_lt.mpr ha)
  ·exact ik k.2 v z a ha
 |[],_::_,k,_,_,_,_=>k.elim
 |_::_,[],k,_,_,_,_=>k.elim
end
theorem Ft{ps:List (List Int)}(nd:ps.Nodup):xO ps.length fun i j=>ltR (ps.getD i []) (ps.getD j []) where
 tr:=fun{i j k} hi hj hk h1 h2=>oy h1 h2
 asym:=fun{i j} hi hj h=>nk h
 tot:=fun{i j} hi hj hne h=>by
  refine vP (fun e=>hne ?_) h;rw[QX,QX,Q7 hi,Q7 hj]at e;simp only[ZV]at e;exact(List.getElem_inj nd).mp e
def Gp(ps:List (List Int))(q:Array Nat):Prop:=Pm ps.length q/\Asc (fun i j=>ltR (ps.getD i []) (ps.getD j [])) q ps.length
theorem gu{prog:Qu}{w:Qm}{A:Z9}{E:Q6->QQ->Prop}{s:QQ}{a:Addr}{vs:List Q6}{ps:List (List Int)}{n:Nat}{P:PySem.Fin->QQ->Prop}
  (g:s.heap.get? a=some (seqObj "list" vs.toArray n)) (hp:eF s.heap vs ps) (hv:∀v∈vs,v≠.ref a) (ne:∀p∈ps,p≠[]) (nd:ps.Nodup) (h64:ps.length<64)
  (k:∀q:Array Nat,Gp ps q->P (Fin.done (Flow.ret Value.none)) { s with heap:=sortedHeap s.heap a vs (q.toList.map fun i=>vs.getD i Value.none).toArray }) :
  wpAny (Qx prog w) A (Builtin.«list.sort» { pos:=[Value.ref a] }) P E s:=by
 have hl:=mP hp;by_cases h2:vs.length<2
 ·have hr:((Qe ps.length).toArray.toList.map fun i=>vs.getD i Value.none)=vs:=by
   rw[<-hl];refine X1 fun i=>?_;by_cases hi:i<vs.length
   ·simp[List.getElem?_range hi,Q7 hi]
   ·simp[Zs (Nat.le_of_not_lt hi),hi]
  have:=k (Qe ps.length).toArray ⟨mY,fun i j hij hj=>by omega⟩;rw[hr]at this;exact fO g h2 this
 ·refine iG g (by omega) (by omega) fun h' m=>?_;have hp':eF ({ s with heap:=h' }:QQ).heap vs ps:=ig m hp hv;refine uZ hp' ne (by omega) ⟨rfl,?_⟩;have hl':vs.length=ps.length:=hl;rw[hl'];refine uM (Ft nd) (fun i j C hi hj c=>?_) (by omega) fun q P1 P2=>⟨rfl,k q ⟨P1,P2⟩⟩;exact Ez (mQ hp' hi) (mQ hp' hj) c
theorem pH{prog:Qu}{w:Qm}{A:Z9}{E:Q6->QQ->Prop}{s:QQ}{l:Addr}{vs:List Q6}{ps:List (List Int)}{Q:Q6->QQ->Prop}
  (hL:s.heap.IsList l vs.toArray) (hp:eF s.heap vs ps) (ne:∀p∈ps,p≠[]) (nd:ps.Nodup) (h64:ps.length<64)
  (k:∀q:Array Nat,Gp ps q->Q (Value.ref (s.heap.objs.size+1)) { s with heap:=sortedAll s.heap vs (q.toList.map fun i=>vs.getD i Value.none).toArray }) :
  wpAny (Qx prog w) A (call (Value.builtin "sorted") [Value.ref l]) Q E s:=by
 have hl:=mP hp;have hz:vs.length<=QN:=by unfold QN;omega
 refine Calls.call_function_entry kind_sorted plain_sorted entry_sorted (args_sorted1 _) ?_;unfold Builtin.«sorted»;refine Q2 (m:=checkCount "sorted" 1 1 _) (Q8 (Q2 (collect_list hL (Q2 (wpAny_newList ?_ hz)) hz)));have hsz:((s.heap.push (seqObj "list" #[] 0)).update s.heap.objs.size (Obj.mapSeq fun x=>x++vs.toArray)).objs.size=s.heap.objs.size+1:=by
  rw[Heap.size_update,size_push']
 have gL:(((s.heap.push (seqObj "list" #[] 0)).update s.heap.objs.size (Obj.mapSeq fun x=>x++vs.toArray)).push (seqObj "list" vs.toArray 0)).get? (s.heap.objs.size+1)=some (seqObj "list" vs.toArray 0):=by
  rw[<-hsz];exact QV _ rfl
 have old:∀b o,s.heap.get? b=some o->(((s.heap.push (seqObj "list" #[] 0)).update s.heap.objs.size (Obj.mapSeq fun x=>x++vs.toArray)).push (seqObj "list" vs.toArray 0)).get? b=some o:=fun b o g=>by
  refine Q4 _ ?_;rw[Heap.get?_update_ne _ _ _ _ (Qj (QK g))];exact Q4 _ g
 show wpAny _ _ _ _ _ { s with heap:=((s.heap.push (seqObj "list" #[] 0)).update s.heap.objs.size (Obj.mapSeq fun x=>x++vs.toArray)).push (seqObj "list" vs.toArray 0) };rw[show Value.ref ((s.heap.push (seqObj "list" #[] 0)).update s.heap.objs.size (Obj.mapSeq fun x=>x++vs.toArray)).objs.size=Value.ref (s.heap.objs.size+1)from by rw[hsz]];refine Q2 (wpAny_holding (wpAny_call_entry slot_list_sort ⟨_,gL,rfl⟩ entry_list_sort (gu (n:=0) gL (ig (a:=s.heap.objs.size+1) (fun b o _ g=>old b o g) hp fun v hv=>ik hp v hv _ (by omega)) (fun v hv=>ik hp v hv _ (by omega)) ne nd h64 fun q hq=>⟨_,rfl,?_⟩) (args_list_sort _)));exact Q8 ⟨_,rfl,k q hq⟩
def RwL(K:Q5)(H:Hp):List V->List (List Int)->Prop
 |[],[]=>True
 |x::xs,p::ps=>(∃a,x=.ref a/\SqT K H a (p.map V.int))/\RwL K H xs ps
 |_,_=>False
theorem uU{K:Q5}{H:Hp}:∀{ys:List V} {ps:List (List Int)},RwL K H ys ps->ys.length=ps.length
 |[],[],_=>rfl
 |_::_,_::_,k=>by rw[QD,QD,uU k.2]
 |[],_::_,k=>k.elim
 |_::_,[],k=>k.elim
theorem Ao{X:Cx}{pins:List (Addr×Obj)}{σ:L2.St}{H:Hp}{s:QQ}(I:Inv X pins σ H s):∀{ys:List V} {ps:List (List Int)} {vs:List Q6},RwL X.K H ys ps->bh ys vs->eF s.heap vs ps
 |[],[],_,_,r=>by cases r;trivial
 |_::_,p::ps,_,k,r=>by
  cases r with
  |cons r1 r2=>
   refine⟨?_,Ao I k.2 r2⟩;obtain⟨a,rfl,hs⟩:=k.1;obtain⟨its,rv,⟨o,g,c,n,d⟩,_⟩:=I.tuple hs;cases r1;exact⟨a,o,_,n,rfl,g,c,d,by simpa using rv⟩
 |[],_::_,_,k,_=>k.elim
 |_::_,[],_,k,_=>k.elim
def mU(K:Q5):List V->Hp->VK->Prop:=fun xs H Q=>∃(p:Addr) (ys:List V) (ps:List (List Int)),xs=[.ref p]/\SqL K H p ys/\RwL K H ys ps/\(∀p∈ps,p≠[])/\ps.Nodup/\ps.length<64/\
 ∀(l:Addr) (q:Array Nat),H l=none->Gp ps q->Q (.ref l) (upd H l (.lst (q.toList.map fun i=>ys.getD i .non)))
theorem vJ{X:Cx}:cS X (.builtin "sorted") (mU X.K):=by
 rintro pins s σ H xs us Q I r ⟨p,ys,ps,rfl,hL,hp,ne,nd,h64,q⟩;obtain⟨u,rfl,ru⟩:=f6 r;cases ru;obtain⟨its,rv,pl,hz⟩:=I.list hL;have hlen:=uU hp;refine pH pl.isList (Ao I hp rv) ne nd h64 fun qa a1=>?_;obtain⟨e,ge⟩:=sortedAll_at s.heap its (qa.toList.map fun i=>its.getD i Value.none).toArray;have hf:=I.hok.fresh (Nat.le_succ s.heap.objs.size);have hq:qa.toList.length=ps.length:=by rw[QF,a1.1.sz]
 refine⟨.ref (s.heap.objs.size+1),_,I.laid (o:=.lst (qa.toList.map fun i=>ys.getD i .non)) (t':=s.toks) (fun b o e=>sortedAll_old e) (Nat.le_succ _) ⟨by rw[QZ,hq];unfold QN;omega,_,e,jE rv qa.toList (by rw[hlen];exact eS a1.1),ge⟩,rfl,q _ qa hf a1⟩
theorem BW{prog:Qu}{w:Qm}{d:Addr}{o:Obj}{es:Array DictEntry}{ep:Nat}(hd:(d == sysModules)=false)(hc:o.ExactDict)(he:o.data=.dict es ep) :
  KdlSrc prog w "dict" d d es.size (fun i v=>∃h:i<es.size,v=es[i].key) (fun h=>h.get? d=some o) where
 type:=fun s g=>⟨o,g,hc.1⟩
 there:=fun h g=>⟨QK g,QK g⟩
 keep:=fun h h' g m=>m d (.inl rfl) o g
 notList:=by decide
 notTuple:=by decide
 hint:=fun A E s Q g q=>kdl_hint_dict ⟨o,g,hc.1⟩ q
 iter:=fun A s hh g=>by
  refine⟨_,fun i h=>h.IsKeyIter s.heap.objs.size d i es.size ep/\h.get? d=some o,fun E Q q=>qQ hd g hc he q,?_,⟨⟨_,QV _ rfl,rfl,rfl⟩,Q4 _ g⟩⟩;refine⟨fun b hb=>by simp at hb;simp[hb],fun i h h' st m=>?_,fun i s' Q E hi st k=>?_,fun s' Q E st k=>?_,fun i s' Q E st q=>?_⟩
  ·obtain⟨⟨o1,g1,c1,d1⟩,g2⟩:=st;exact⟨⟨o1,m _ (by simp) o1 g1,c1,d1⟩,m _ (by simp) o g2⟩
  ·refine qR st.1 st.2 he hi fun h' it' sb=>k _ h' _ ⟨hi,rfl⟩ ⟨it',?_⟩ fun b o' hb g'=>?_
   ·have:d≠s.heap.objs.size:=Qj (QK g);rw[sb.2 d this];exact st.2
   ·rw[sb.2 b (by simpa using hb)];exact g'
  ·exact u7 hh st.1 st.2 he (QJ _) fun h' eb=>k h' _ fun b o' hb g'=>eb b o' (by simpa using hb) g'
  ·exact wpAny_pyIter_keyiter st.1 q
def mS:List V->Hp->VK->Prop:=fun xs H Q=>∃(d:Addr) (kvs:List (List Key×V)) (ps:List (List Int)),xs=[.ref d]/\H d=some (.dT kvs)/\kvs.map (·.1)=ps.map (fun p=>p.map Sum.inl)/\(∀p∈ps,p≠[])/\ps.Nodup/\ps.length<64/\
 ∀(as:List Addr) (l:Addr) (q:Array Nat),H l=none->as.length=ps.length->(∀(i:Nat) (a:Addr) (p:List Int),as[i]?=some a->ps[i]?=some p->H a=some (.tup (p.map V.int)))->Gp ps q->
  Q (.ref l) (upd H l (.lst (q.toList.map fun i=>.ref (as.getD i 0))))
theorem FC{H:Hp}:∀{kvs:List (List Key×V)} {xs:List (List Key×Addr×Q6)} {ps:List (List Int)},KT H kvs xs->kvs.map (·.1)=ps.map (fun p=>p.map Sum.inl)->∀(i:Nat) (a:Addr) (p:List Int),(xs.map fun x=>x.2.1)[i]?=some a->ps[i]?=some p->H a=some (.tup (p.map V.int))
 |_,_,ps,.nil,_,i,a,p,h,_=>by simp at h
 |(k,v)::kvs,(k',b,u)::xs,[],.cons r t,e,i,a,p,_,hp=>by simp at hp
 |(k,v)::kvs,(k',b,u)::xs,p0::ps,.cons r t,e,i,a,p,h,hp=>by
  simp only[Qk,List.cons.injEq]at e;obtain⟨e1,e2⟩:=e;cases i with
  |zero=>
   simp at h hp;subst h;subst hp;obtain⟨r1,r2,r3⟩:=r;dsimp only at r1 r2;rw[r2,e1,Qs];rfl
  |succ i=>
   simp only[Qk,Qa]at h hp;exact FC t e2 i a p h hp
theorem uY{h:Heap}:∀{as:List Addr} {ps:List (List Int)},as.length=ps.length->(∀(i:Nat) (a:Addr) (p:List Int),as[i]?=some a->ps[i]?=some p->qp h (.ref a) p)->eF h (as.map Value.ref) ps
 |[],[],_,_=>trivial
 |a::as,p::ps,l,k=>⟨k 0 a p rfl rfl,uY (by simpa using l) fun i a p h1 h2=>k (i+1) a p (by simpa using h1) (by simpa using h2)⟩
 |[],_::_,l,_=>by simp at l
 |_::_,[],l,_=>by simp at l
theorem vH{X:Cx}(hc:X.calm=true):cS X (.builtin "sorted") mS:=by
 rintro pins s σ H xs us Q I r ⟨d,kvs,ps,rfl,hD,hk,ne,nd,h64,q⟩;obtain⟨u,rfl,ru⟩:=f6 r;cases ru;obtain⟨z,hd,ks,rel,o,es,ep,h1,h2,h3,h4,h5⟩:=tJ I.hok (.inl hD);have lkv:kvs.length=ps.length:=by have:=congrArg List.length hk;simpa using this
 have lks:ks.length=ps.length:=by rw[<-Paired.length rel];exact lkv
 have les:es.size=ps.length:=by rw[<-lks,<-QF,h4,QZ]
 obtain⟨as,has⟩:∃as,as=ks.map fun x=>x.2.1:=⟨_,rfl⟩;have las:as.length=ps.length:=by rw[has,QZ,lks]
 have hH:∀(i:Nat) (a:Addr) (p:List Int),as[i]?=some a->ps[i]?=some p->H a=some (.tup (p.map V.int)):=by rw[has];exact FC rel hk
 refine Calls.call_function_entry kind_sorted plain_sorted entry_sorted (args_sorted1 _) ?_;unfold Builtin.«sorted»;refine Q2 (m:=checkCount "sorted" 1 1 _) (Q8 (Q2 (kdu_collect (BW hd h2 h3) (show X.A.in1.handled=none from I.ok.hd hc) h1 (by rw[les];unfold QN;omega) fun h' tk acc up hac=>?_)));have hacc:acc.toList=as.map Value.ref:=by
  refine X1 fun i=>?_;by_cases hi:i<es.size
  ·have hi':i<acc.size:=by rw[hac.1];exact hi
   obtain⟨_,e2⟩:=hac.2 i acc[i] (QH hi');have e3:acc.toList[i]?=some acc[i]:=by rw[Qb,QH hi']
   have hk2:i<ks.length:=by rw[lks,<-les];exact hi
   have e4:es.toList[i]?=some (entryOfKey (tupleKind (bA X.prog X.w)) ks[i]):=by rw[h4,Qn,Q7 hk2];rfl
   rw[Qb,QH hi]at e4;rw[e3,e2,Option.some.inj e4,has,Qs,Qn,Q7 hk2];rfl
  ·rw[Zs (by rw[QF,hac.1];omega),Zs (by rw[QZ,las,<-les];omega)]
 have hrow:∀(i:Nat) (a:Addr) (p:List Int),as[i]?=some a->ps[i]?=some p->qp h' (.ref a) p:=fun i a p ha hp=>by
  obtain⟨_,its,r,o1,g1,c1,n1,d1⟩:=(show bR X.prog X.w H s.heap a (.tup (p.map V.int))from I.hok a _ (hH i a p ha hp));exact⟨a,o1,_,n1,rfl,up a o1 g1,c1.1,d1,by simpa using r⟩
 have hrows:eF h' (as.map Value.ref) ps:=uY las hrow;rw[hacc];refine Q2 (wpAny_newList ?_ (by rw[QZ,las];unfold QN;omega));have gL:(h'.push { cls:=.type "list",data:=.seq (as.map Value.ref).toArray }).get? h'.objs.size=some (seqObj "list" (as.map Value.ref).toArray 0):=QV _ rfl;have hv':∀v∈as.map Value.ref,v≠.ref h'.objs.size:=fun v hv=>ik hrows v hv _ (QJ _);refine Q2 (wpAny_holding (wpAny_call_entry slot_list_sort ⟨_,gL,rfl⟩ entry_list_sort (gu (s:={ s with heap:=h'.push { cls:=.type "list",data:=.seq (as.map Value.ref).toArray },toks:=tk }) gL (ig (a:=h'.objs.size) (fun b o _ g=>Q4 _ g) hrows hv') hv' ne nd h64 fun qa a1=>⟨_,rfl,?_⟩) (args_list_sort _)));obtain⟨e,ge⟩:=sortedHeap_at (out:=(qa.toList.map fun i=>(as.map Value.ref).getD i Value.none).toArray) gL;have I2:Inv X pins σ H { s with heap:=h',toks:=tk }:=I.kept (t':=tk) up;have old:∀b o,h'.get? b=some o->(sortedHeap (h'.push { cls:=.type "list",data:=.seq (as.map Value.ref).toArray }) h'.objs.size (as.map Value.ref) (qa.toList.map fun i=>(as.map Value.ref).getD i Value.none).toArray).get? b=some o:=fun b o g1=>by
  have lt1:=QK g1;rw[sortedHeap_old (Qj lt1) (by rw[ZI];exact Zj lt1)];exact Q4 _ g1
 have hq:qa.toList.length=ps.length:=by rw[QF,a1.1.sz]
 have rv:=qz as;have gd:∀i,i<as.length->(as.map V.ref).getD i .non=.ref (as.getD i 0):=fun i hi=>by
  simp[QX,Q7 hi]
 have el:(qa.toList.map fun i=>(as.map V.ref).getD i .non)=qa.toList.map fun i=>V.ref (as.getD i 0):=Zw fun i hi=>gd i (by rw[las];exact eS a1.1 i hi);refine Q8 ⟨_,rfl,.ref h'.objs.size,_,Inv.laid (s:={ s with heap:=h',toks:=tk }) (o:=.lst (qa.toList.map fun i=>.ref (as.getD i 0))) (t':=tk) I2 old (QJ _) ⟨by rw[QZ,hq];unfold QN;omega,_,e,?_,ge⟩,rfl,q as _ qa (I2.hok.fresh (QJ _)) las hH a1⟩;rw[<-el];exact jE rv qa.toList (by rw[QZ,las];exact eS a1.1)
open Classical in
def ft(ps:List (List Int)):List (List Int):=if h:∃L:List (List Int),L.Pairwise (fun a b=>ltR a b=true)/\∀x,x∈L↔x∈ps then h.choose else[]
theorem oY:∀{L M:List (List Int)},L.Pairwise (fun a b=>ltR a b=true)->M.Pairwise (fun a b=>ltR a b=true)->(∀x,x∈L↔x∈M)->L=M
 |[],[],_,_,_=>rfl
 |[],m::M,_,_,h=>by have:=(h m).mpr QY;cases this
 |l::L,[],_,_,h=>by have:=(h l).mp QY;cases this
 |l::L,m::M,h1,h2,h=>by
  obtain⟨a1,b1⟩:=Zb.mp h1;obtain⟨a2,b2⟩:=Zb.mp h2;have e:l=m:=by
   rcases QL.mp ((h l).mp QY)with z|z
   ·exact z
   ·rcases QL.mp ((h m).mpr QY)with y|y
    ·exact y.symm
    ·have p1:=a2 l z;rw[nk (a1 m y)]at p1;cases p1
  subst e;congr 1;refine oY b1 b2 fun x=>⟨fun hx=>?_,fun hx=>?_⟩
  ·rcases QL.mp ((h x).mp (QU _ hx))with z|z
   ·subst z;have:=a1 x hx;rw[kG]at this;cases this
   ·exact z
  ·rcases QL.mp ((h x).mpr (QU _ hx))with z|z
   ·subst z;have:=a2 x hx;rw[kG]at this;cases this
   ·exact z
theorem yw{L ps:List (List Int)}(h1:L.Pairwise (fun a b=>ltR a b=true))(h2:∀x,x∈L↔x∈ps):ft ps=L:=by
 have h:∃L:List (List Int),L.Pairwise (fun a b=>ltR a b=true)/\∀x,x∈L↔x∈ps:=⟨L,h1,h2⟩;unfold ft;rw[dif_pos h];obtain⟨k1,k2⟩:=h.choose_spec;exact oY k1 h1 fun x=>(k2 x).trans (h2 x).symm
theorem oZ{ps:List (List Int)}{q:Array Nat}(h:Gp ps q):ft ps=q.toList.map fun i=>ps.getD i []:=by
 obtain⟨P,A⟩:=h;have hl:q.toList.length=ps.length:=by rw[QF,P.sz]
 have gd:∀i (hi:i<q.toList.length),q.getD i 0=q.toList[i]:=fun i hi=>by
  have hi':i<q.size:=by simpa using hi
  rw[ZT,QH hi',Array.getElem_toList];rfl
 have h1:(q.toList.map fun i=>ps.getD i []).Pairwise (fun a b=>ltR a b=true):=by
  rw[Zz];intro i j hi hj hij;rw[QZ]at hi hj;rw[List.getElem_map,List.getElem_map,<-gd i hi,<-gd j hj];exact A i j hij (by omega)
 have nd:(q.toList.map fun i=>ps.getD i []).Nodup:=h1.imp fun{a b} h e=>by subst e;rw[kG]at h;cases h
 have sub:∀x∈q.toList.map fun i=>ps.getD i [],x∈ps:=fun x hx=>by
  obtain⟨i,hi,rfl⟩:=Qh.mp hx;have:=eS P i hi;rw[QX,Q7 this];exact ZK this
 refine yw h1 fun x=>⟨sub x,fun hx=>?_⟩;refine Classical.byContradiction fun hn=>?_;have:=List.Nodup.length_le_of_subset (ZS.mpr ⟨hn,nd⟩) (l₂:=ps) fun y hy=>by
  rcases QL.mp hy with z|z
  ·rw[z];exact hx
  ·exact sub y z
 rw[QD,QZ,hl]at this;omega
def rwU(p:List Int):U:=.tup (p.map U.int)
def sF:List U->Option (List (List Int))
 |[]=>some []
 |.tup us::r=>(ja us).bind fun p=>(sF r).map (p::·)
 |_=>none
theorem nZ:∀ps:List (List Int),sF (ps.map rwU)=some ps
 |[]=>rfl
 |p::ps=>by rw[Qk,rwU,sF,fP,Q3,nZ ps];rfl
theorem qM:∀{us:List U} {ps:List (List Int)},sF us=some ps->us=ps.map rwU
 |[],ps,h=>by cases h;rfl
 |u::us,ps,h=>by
  cases u with
  |tup ws=>
   rw[sF]at h;obtain⟨p,e1,h⟩:=Q0.mp h;obtain⟨qs,e2,h⟩:=ZQ.mp h;subst h;rw[Qk,<-qM e2,iH e1];rfl
  |_=>cases h
def zu:List Key->Option (List Int)
 |[]=>some []
 |.inl i::r=>(zu r).map (i::·)
 |_=>none
theorem rJ:∀{ks:List Key} {ns:List Int},zu ks=some ns->ks=ns.map Sum.inl
 |[],ns,h=>by cases h;rfl
 |.inl i::r,ns,h=>by
  rw[zu]at h;obtain⟨qs,e2,h⟩:=ZQ.mp h;subst h;rw[Qk,<-rJ e2]
 |.inr x::r,ns,h=>by cases h
def sG:List (List Key×U)->Option (List (List Int))
 |[]=>some []
 |(ks,_)::r=>(zu ks).bind fun p=>(sG r).map (p::·)
theorem qN:∀{kus:List (List Key×U)} {ps:List (List Int)},sG kus=some ps->kus.map (·.1)=ps.map fun p=>p.map Sum.inl
 |[],ps,h=>by cases h;rfl
 |(ks,u)::us,ps,h=>by
  rw[sG]at h;obtain⟨p,e1,h⟩:=Q0.mp h;obtain⟨qs,e2,h⟩:=ZQ.mp h;subst h;rw[Qk,Qk,<-qN e2,rJ e1]
open Classical in
def eE:Fn
 |[.ref l],S=>match S[l]? with
  |some (.lst us)=>(sF us).bind fun ps=>if (∀p∈ps,p≠[])/\ps.Nodup/\ps.length<64 then some (.ref S.length,S++[.lst ((ft ps).map rwU)])else none
  |some (.dit kus)=>(sG kus).bind fun ps=>if (∀p∈ps,p≠[])/\ps.Nodup/\ps.length<64 then some (.ref S.length,S++[.lst ((ft ps).map rwU)])else none
  |_=>none
 |_,_=>none
section
variable{K:Q5}{m:List Addr}{H:Hp}
theorem An:∀{ys:List V} {ps:List (List Int)},IsL K m H ys (ps.map rwU)->RwL K H ys ps
 |ys,[],h=>by rw[h.of_nil];trivial
 |ys,p::ps,h=>by
  obtain⟨y,r,rfl,i,t⟩:=h.of_cons;obtain⟨a,xs,rfl,hs,il⟩:=i.of_tup;have e:xs=p.map V.int:=IsL.ints il;subst e;exact⟨⟨a,rfl,hs⟩,An t⟩
theorem uV:∀{ys:List V} {ps:List (List Int)} {i:Nat},RwL K H ys ps->i<ps.length->Is K m H (ys.getD i .non) (rwU (ps.getD i []))
 |[],[],i,_,h=>by simp at h
 |y::ys,p::ps,0,k,_=>by
  obtain⟨a,e,hs⟩:=k.1;show Is K m H y (rwU p);rw[e];exact .tup_ hs (jK p)
 |y::ys,p::ps,i+1,k,h=>by
  show Is K m H (ys.getD i .non) (rwU (ps.getD i []));exact uV k.2 (by simpa using h)
 |[],_::_,_,k,_=>k.elim
 |_::_,[],_,k,_=>k.elim
theorem uT{ys:List V}{ps:List (List Int)}(k:RwL K H ys ps):∀is:List Nat,(∀i∈is,i<ps.length)->IsL K m H (is.map fun i=>ys.getD i .non) (is.map fun i=>rwU (ps.getD i []))
 |[],_=>.nil_
 |i::is,h=>.cons_ (uV k (h i QY)) (uT k is fun j hj=>h j (QU _ hj))
theorem xC{as:List Addr}{ps:List (List Int)}(la:as.length=ps.length)(hH:∀(i:Nat) (a:Addr) (p:List Int),as[i]?=some a->ps[i]?=some p->H a=some (.tup (p.map V.int))):∀is:List Nat,(∀i∈is,i<ps.length)->IsL K m H (is.map fun i=>V.ref (as.getD i 0)) (is.map fun i=>rwU (ps.getD i []))
 |[],_=>.nil_
 |i::is,h=>by
  have hi:=h i QY;have hi':i<as.length:=by rw[la];exact hi
  refine .cons_ ?_ (xC la hH is fun j hj=>h j (QU _ hj));have e1:as.getD i 0=as[i]:=by rw[QX,Q7 hi'];rfl
  have e2:ps.getD i []=ps[i]:=by rw[QX,Q7 hi];rfl
  show Is K m H (V.ref (as.getD i 0)) (rwU (ps.getD i []));rw[e1,e2];exact .tup_ (SqT.of (hH i _ _ (Q7 hi') (Q7 hi))) (jK _)
end
theorem mr{X:Cx}(hc:X.calm=true):cS X (.builtin "sorted") (fun xs H Q=>mU X.K xs H Q\/mS xs H Q):=vJ.or (vH hc)
theorem om{K:Q5}:lF K (fun xs H Q=>mU K xs H Q\/mS xs H Q) eE:=by
 intro m S H us vs u S' Q sr i hf post;match us,hf with
 |[.ref l],hf=>
  obtain⟨v,rfl,iv⟩:=i.one;obtain⟨a,ha,rfl⟩:=iv.of_ref;simp only[eE]at hf;split at hf<;>try cases hf
  ·rename_i ws hS;obtain⟨ps,hn,h⟩:=Q0.mp hf;split at h<;>try cases h
   have hc:(∀p∈ps,p≠[])/\ps.Nodup/\ps.length<64:=by assumption
   obtain⟨a',ha',xs,hx,la⟩:=sr.get hS;rw[ha]at ha';cases ha';rw[qM hn]at la;have pr:=An la;refine .inl ⟨a,xs,ps,rfl,SqL.of hx,pr,hc.1,hc.2.1,hc.2.2,fun p q hp aq=>?_⟩;have il:=uT (m:=m) pr q.toList (eS aq.1);have e:(q.toList.map fun i=>rwU (ps.getD i []))=(ft ps).map rwU:=by rw[oZ aq,Qs];rfl
   rw[e]at il;exact b8 sr il post hp
  ·rename_i ws hS;obtain⟨ps,hn,h⟩:=Q0.mp hf;split at h<;>try cases h
   have hc:(∀p∈ps,p≠[])/\ps.Nodup/\ps.length<64:=by assumption
   obtain⟨a',ha',kvs,hx,ip⟩:=sr.get hS;rw[ha]at ha';cases ha';refine .inr ⟨a,kvs,ps,rfl,hx,ip.1.trans (qN hn),hc.1,hc.2.1,hc.2.2,fun as p q hp las hH aq=>?_⟩;have il:=xC (m:=m) (K:=K) las hH q.toList (eS aq.1);have e:(q.toList.map fun i=>rwU (ps.getD i []))=(ft ps).map rwU:=by rw[oZ aq,Qs];rfl
   rw[e]at il;exact b8 sr il post hp
def qH(K:Q5):Sp:=fun vs H Q _=>∃(a:Addr) (ns:List Int),vs=[.ref a]/\KL K H a ns/\ns.length<=63/\∀H',Q (.bl true) H'
theorem IP{K:Q5}{H:Hp}{a:Addr}{ns:List Int}(hO:GK H)(h:SqL K H a (ns.map V.int)):KL K H a ns:=by
 rcases h with(h|h)|h
 ·rcases hO a with e|⟨o,xs,e⟩
  ·rw[e]at h;cases h
  ·rw[e]at h;cases h
 ·exact .inl h
 ·exact .inr h
theorem zm{K:Q5}{H:Hp}{a:Addr}{ns:List Int}{c:CS}{r:Rho}{σ:L2.St}{Q:VK}{nx bk ct:L2.St->Hp->Prop}(h:KL K H a ns)
  (ok:∃ρ' S',c (some (.kl ns)::r) []=some (.rt (.bl true),ρ',S')) (q:∀H',Q (.bl true) H')
  (hr:r=Qr r.length none:=by rfl) (hl:σ.length=r.length:=by rfl):tS K c { nx:=nx,rt:=Q,bk:=bk,ct:=ct } (some (.ref a)::σ) H:=by
 obtain⟨ρ',S',e⟩:=ok;refine⟨[],_,_,_,ρ',S',⟨rfl,Zm,fun l ad o e1 e2=>by simp at e1⟩,⟨by simp[hl],fun i u e1=>?_⟩,e,fun m' v H' _ _ iv=>by rw[iv.of_bl];exact q H'⟩;cases i with
 |zero=>
  simp at e1;subst e1;exact⟨.ref a,rfl,.kl_ h⟩
 |succ i=>
  simp only[Qa]at e1;rw[hr,Zn]at e1;split at e1<;>cases e1
theorem Hl{ns:List Int}{i:Int}{S:Sto}:fIx (.kl ns) (.int i) S=(atI (ns.map U.int) i).bind fun u=>some (u,S):=rfl
theorem t7{ns:List Int}{S:Sto}:gY [.kl ns] S=some (.int ns.length,S):=rfl
section
variable{a b:Qq}
def KS:U->U->Sto->Option (U×Sto)
 |.str a,.str b,S=>some (.bl (decide (a=b)),S)
 |.non,.str _,S=>some (.bl false,S)
 |.bl _,.str _,S=>some (.bl false,S)
 |.int _,.str _,S=>some (.bl false,S)
 |.tup _,.str _,S=>some (.bl false,S)
 |.ref l,.str _,S=>match S[l]? with
  |some (.lst _)=>some (.bl false,S)
  |_=>none
 |_,_,_=>none
def KU:U->U->Sto->Option (U×Sto)
 |.tup us,.tup [],S=>some (.bl (decide (us.length=0)),S)
 |_,_,_=>none
end
def Rs(xs:List Nat):Prop:=xs.Pairwise (· < ·)
theorem Rs.lt{xs:Array Nat}(h:Rs xs.toList){i k d:Nat}(hik:i<k)(hk:k<xs.size):xs.getD i d<xs.getD k d:=by
 have:=Zz.mp h i k (by simp;omega) (by simpa using hk) hik;simpa [X4,hk,show i<xs.size by omega] using this
theorem nD{xs:Array Nat}{j:Nat}(h:Rs xs.toList):∀(f lo hi:Nat),hi-lo<=f->lo<=hi->hi<=xs.size->(∀i,i<lo->xs.getD i j<j)->(∀i,hi<=i->i<xs.size->j<=xs.getD i j)->
  ∃p,SetTable.below.go xs j f lo hi=p/\p<=xs.size/\(∀i,i<p->xs.getD i j<j)/\∀i,p<=i->i<xs.size->j<=xs.getD i j
 |0,lo,hi,h1,h2,h3,h4,h5=>⟨lo,rfl,by omega,h4,fun i hi'=>h5 i (by omega)⟩
 |f+1,lo,hi,h1,h2,h3,h4,h5=>by
  unfold SetTable.below.go;by_cases c:lo<hi
  ·rw[if_pos c];dsimp only;by_cases d:xs.getD ((lo+hi) / 2) j<j
   ·rw[if_pos d];refine nD h f _ hi (by omega) (by omega) h3 (fun i hi'=>?_) h5;by_cases e:i=(lo+hi) / 2
    ·rw[e];exact d
    ·exact Nat.lt_trans (h.lt (by omega) (by omega)) d
   ·rw[if_neg d];refine nD h f lo _ (by omega) (by omega) (by omega) h4 fun i hi' hs=>?_;by_cases e:i=(lo+hi) / 2
    ·rw[e];omega
    ·have:=h.lt (xs:=xs) (d:=j) (show(lo+hi) / 2<i by omega) hs;omega
  ·rw[if_neg c];exact⟨lo,rfl,by omega,h4,fun i hi'=>h5 i (by omega)⟩
theorem jR{xs:Array Nat}(h:Rs xs.toList)(j:Nat):∃p,SetTable.below xs j=p/\p<=xs.size/\(∀i,i<p->xs.getD i j<j)/\∀i,p<=i->i<xs.size->j<=xs.getD i j:=by
 unfold SetTable.below;exact nD h _ 0 _ (by omega) (by omega) (by omega) (fun i hi=>by omega) fun i hi hs=>by omega
theorem xv{xs:Array Nat}(h:Rs xs.toList){j:Nat}:(xs[SetTable.below xs j]?=some j)↔j∈xs.toList:=by
 obtain⟨p,e,h1,h2,h3⟩:=jR h j;rw[e];constructor
 ·intro g;exact Zf (by rw[Qb];exact g)
 ·intro hm;obtain⟨i,hi⟩:=Zc hm;have hs:i<xs.size:=by have:=(Q9.mp hi).1;simpa using this
  have gi:xs.getD i j=j:=by
   rw[Qb]at hi;simp[X4,hs];rw[QH hs]at hi;injection hi
  have ip:p<=i:=Nat.le_of_not_lt fun z=>by have:=h2 i z;omega
  have:p=i:=by
   rcases Zu p i with c|c
   ·have:=h.lt (d:=j) c hs;have:=h3 p (QJ _) (by omega);omega
   ·omega
  rw[this,<-Qb];exact hi
theorem uO{t:SetTable}(h:Rs t.place.toList)(hd:t.dummies=#[])(j:Nat):(j∉t.place.toList/\t.slot j=.empty)\/∃p,t.place[p]?=some j/\t.slot j=.live p:=by
 unfold SetTable.slot;dsimp only;by_cases c:t.place[SetTable.below t.place j]?=some j
 ·rw[if_pos (by rw[c];exact beq_self_eq_true _)];exact .inr ⟨_,c,rfl⟩
 ·refine .inl ⟨fun z=>c ((xv h).mpr z),?_⟩;rw[if_neg (by simpa using c)];have:SetTable.has t.dummies j=false:=by rw[hd];rfl
  rw[this];rfl
theorem EI{t:SetTable}(h:Rs t.place.toList)(hd:t.dummies=#[]){j:Nat}(hj:j∉t.place.toList):∃p,t.put j=({ t with place:=SetTable.insertAt t.place p j },p)/\p<=t.place.size/\Rs (SetTable.insertAt t.place p j).toList:=by
 obtain⟨p,e,h1,h2,h3⟩:=jR h j;refine⟨p,?_,h1,?_⟩
 ·unfold SetTable.put;have:SetTable.has t.dummies j=false:=by rw[hd];rfl
  dsimp only;rw[e,this];rfl
 ·rw[SetTable.toList_insertAt];have lt:∀a∈t.place.toList.take p,a<j:=fun a ha=>by
   obtain⟨i,hi⟩:=Zc ha;obtain⟨hl,hg⟩:=Q9.mp hi;rw[ZP]at hl;have:=h2 i (by omega);rw[List.getElem_take]at hg;have hs:i<t.place.size:=by omega
   simp[X4,hs]at this;rw[<-hg];simpa using this
  have gt:∀a∈t.place.toList.drop p,j<a:=fun a ha=>by
   have hm:=List.mem_of_mem_drop ha;obtain⟨i,hi⟩:=Zc ha;obtain⟨hl,hg⟩:=Q9.mp hi;rw[List.length_drop]at hl;have hs:p+i<t.place.size:=by simp at hl;omega
   have:=h3 (p+i) (by omega) hs;rw[List.getElem_drop]at hg;simp[X4,hs]at this;have e2:t.place[p+i]=a:=by rw[<-hg];simp
   rw[e2]at this;rcases Zu j a with c|c
   ·exact c
   ·exact absurd hm (by rw[show a=j by omega];exact hj)
  refine List.pairwise_append.mpr ⟨List.Pairwise.sublist (List.take_sublist _ _) h,Zb.mpr ⟨gt,List.Pairwise.sublist (List.drop_sublist _ _) h⟩,fun a ha b hb=>?_⟩;rcases QL.mp hb with rfl|hb
  ·exact lt a ha
  ·exact Nat.lt_trans (lt a ha) (gt b hb)
abbrev tb(m:Nat):SetTable:={ SetTable.fresh 0 0 true with mask:=m }
def adv(m:Nat):SetTable.Probe->SetTable.Probe:=SetTable.advance (tb m)
def pth(m:Nat)(h:Int):Nat->SetTable.Probe
 |0=>SetTable.probeStart (tb m) h
 |k+1=>adv m (pth m h k)
theorem oh(m:Nat)(h:Int):∀k,(pth m h k).dummy=none
 |0=>rfl
 |k+1=>by
  have:=oh m h k;show(adv m (pth m h k)).dummy=none;unfold adv SetTable.advance;split
  ·exact this
  ·exact this
def Run(m:Nat)(p:SetTable.Probe)(i u:Nat):Prop:=p.j=i/\p.more=SetTable.runEnd m i-i/\p.i=i/\p.perturb=u
theorem vm(m:Nat)(h:Int):Run m (pth m h 0) (SetTable.bits h % (m+1)) (SetTable.bits h):=⟨rfl,rfl,rfl,rfl⟩
theorem qL{m:Nat}{h:Int}{k i u:Nat}(r:Run m (pth m h k) i u):∀d,d<=SetTable.runEnd m i-i->(pth m h (k+d)).j=i+d/\(pth m h (k+d)).more=SetTable.runEnd m i-i-d/\(pth m h (k+d)).i=i/\(pth m h (k+d)).perturb=u
 |0,_=>⟨r.1,r.2.1,r.2.2.1,r.2.2.2⟩
 |d+1,hd=>by
  obtain⟨h1,h2,h3,h4⟩:=qL r d (by omega);show(adv m (pth m h (k+d))).j=_/\(adv m (pth m h (k+d))).more=_/\(adv m (pth m h (k+d))).i=_/\(adv m (pth m h (k+d))).perturb=_;unfold adv SetTable.advance;rw[if_pos (by omega)];dsimp only;exact⟨by omega,by omega,h3,h4⟩
theorem qK{m:Nat}{h:Int}{k i u:Nat}(r:Run m (pth m h k) i u):Run m (pth m h (k+(SetTable.runEnd m i-i)+1)) (SetTable.leap m i u).1 (SetTable.leap m i u).2:=by
 obtain⟨h1,h2,h3,h4⟩:=qL r _ (QJ _);show Run m (adv m (pth m h (k+(SetTable.runEnd m i-i)))) _ _;unfold adv SetTable.advance;rw[if_neg (by omega),h3,h4];exact⟨rfl,rfl,rfl,rfl⟩
def lps(m:Nat):Nat->Nat×Nat->Nat×Nat
 |0,x=>x
 |k+1,x=>lps m k (SetTable.leap m x.1 x.2)
theorem uX(m i:Nat):SetTable.runEnd m i-i<=9:=by unfold SetTable.runEnd;split<;>omega
theorem uW{m:Nat}{h:Int}:∀(t k:Nat) (x:Nat×Nat),Run m (pth m h k) x.1 x.2->∃k',k<=k'/\k'<=k+10*t/\Run m (pth m h k') (lps m t x).1 (lps m t x).2
 |0,k,x,r=>⟨k,by omega,by omega,r⟩
 |t+1,k,x,r=>by
  have:=uX m x.1;obtain⟨k',h1,h2,h3⟩:=uW t _ (SetTable.leap m x.1 x.2) (qK r);exact⟨k',by omega,by omega,h3⟩
theorem vX(m:Nat):∀(a b:Nat) (x:Nat×Nat),lps m (a+b) x=lps m b (lps m a x)
 |0,b,x=>by rw[Nat.zero_add];rfl
 |a+1,b,x=>by rw[Nat.succ_add];exact vX m a b _
theorem xt(h:Int):SetTable.bits h<2^64:=by unfold SetTable.bits;omega
theorem wb{m i u:Nat}:(SetTable.leap m i u).1<m+1:=Nat.mod_lt _ (by omega)
theorem AB{m:Nat}:∀(t:Nat) (x:Nat×Nat),x.1<m+1->(lps m t x).1<m+1
 |0,x,h=>h
 |t+1,x,h=>AB t _ wb
theorem Fv{m:Nat}:∀(t:Nat) (x:Nat×Nat) (b:Nat),x.2<2^(5*t+b)->(lps m t x).2<2^b
 |0,x,b,h=>by rw[Nat.mul_zero,Nat.zero_add]at h;exact h
 |t+1,x,b,h=>Fv t _ b (by
  show x.2 / 32<_;rw[show 5*(t+1)+b=5*t+b+5 by omega,Nat.pow_add]at h;exact Nat.div_lt_of_lt_mul (by rw[Nat.mul_comm];exact h))
def orb(m:Nat):Nat->Nat->Nat
 |0,i=>i
 |k+1,i=>orb m k ((5*i+1) % (m+1))
def HS(m:Nat):Nat->Nat->Nat->Nat
 |0,_,a=>a
 |k+1,i,a=>HS m k ((5*i+1) % (m+1)) (a ||| (1 <<< i))
theorem uR{m:Nat}:∀(k i a e:Nat),(HS m k i a).testBit e=true->a.testBit e=true\/∃t,t<k/\orb m t i=e
 |0,i,a,e,h=>.inl h
 |k+1,i,a,e,h=>by
  rcases uR k _ _ e h with h1|⟨t,h1,h2⟩
  ·rw[Nat.testBit_or,Bool.or_eq_true]at h1;rcases h1 with h1|h1
   ·exact .inl h1
   ·refine .inr ⟨0,by omega,?_⟩;rw[Nat.one_shiftLeft,Nat.testBit_two_pow]at h1;exact of_decide_eq_true h1
  ·exact .inr ⟨t+1,by omega,h2⟩
structure o7(m:Nat):Prop where
 all:HS m (m+1) 0 0=2^(m+1)-1
 back:orb m (m+1) 0=0
theorem nh{m:Nat}:∀(a b i:Nat),orb m (a+b) i=orb m b (orb m a i)
 |0,b,i=>by rw[Nat.zero_add];rfl
 |a+1,b,i=>by rw[Nat.succ_add];exact nh a b _
theorem o7.at_{m:Nat}(F:o7 m){e:Nat}(h:e<m+1):∃t,t<m+1/\orb m t 0=e:=by
 rcases uR (m:=m) (m+1) 0 0 e (by rw[F.all,Nat.testBit_two_pow_sub_one];exact decide_eq_true h)with h1|h1
 ·simp at h1
 ·exact h1
theorem o7.go{m:Nat}(F:o7 m){i e:Nat}(hi:i<m+1)(he:e<m+1):∃t,t<m+1/\orb m t i=e:=by
 obtain⟨a,ha,ea⟩:=F.at_ hi;obtain⟨b,hb,eb⟩:=F.at_ he;rcases Zu b a with c|c
 ·refine⟨m+1-a+b,by omega,?_⟩;rw[<-ea,<-nh,show a+(m+1-a+b)=m+1+b by omega,nh,F.back];exact eb
 ·refine⟨b-a,by omega,?_⟩;rw[<-ea,<-nh,show a+(b-a)=b by omega];exact eb
theorem vV{m:Nat}:∀(t:Nat) (i:Nat),lps m t (i,0)=(orb m t i,0)
 |0,i=>rfl
 |t+1,i=>by
  show lps m t (SetTable.leap m i 0)=_;have:SetTable.leap m i 0=((5*i+1) % (m+1),0):=by unfold SetTable.leap;simp[Nat.mul_comm]
  rw[this];exact vV t _
theorem F8{m:Nat}(F:o7 m){i u e:Nat}(hi:i<m+1)(hu:u<2^64)(he:e<m+1):∃t,t<m+14/\(lps m t (i,u)).1=e:=by
 have h0:(lps m 13 (i,u)).2=0:=by
  have:=Fv (m:=m) 13 (i,u) 0 (Qy hu (by decide));omega
 obtain⟨t,ht,e2⟩:=F.go (AB 13 (i,u) hi) he;refine⟨13+t,by omega,?_⟩;rw[vX,show lps m 13 (i,u)=((lps m 13 (i,u)).1,0)from Prod.ext rfl h0,vV];exact e2
theorem FZ:o7 7:=⟨by decide +kernel,by decide +kernel⟩
theorem F0:o7 31:=⟨by decide +kernel,by decide +kernel⟩
theorem CQ:o7 127:=⟨by decide +kernel,by decide +kernel⟩
theorem CP:o7 511:=⟨by decide +kernel,by decide +kernel⟩
theorem zC:o7 2047:=⟨by decide +kernel,by decide +kernel⟩
def Rch(m:Nat)(P:Nat->Prop)(h:Int)(j:Nat):Prop:=∃k,(pth m h k).j=j/\∀k',k'<k->P (pth m h k').j
theorem Rch.mono{m:Nat}{P P':Nat->Prop}{h:Int}{j:Nat}(r:Rch m P h j)(s:∀x,P x->P' x):Rch m P' h j:=let ⟨k,a,b⟩:=r;⟨k,a,fun k' h=>s _ (b k' h)⟩
theorem least{P:Nat->Prop}:∀{k:Nat},P k->∃N,N<=k/\P N/\∀i,i<N->¬P i:=fun{k}=>by
 induction k using Nat.strongRecOn with
 |ind k ih=>
  intro h;by_cases c:∃i,i<k/\P i
  ·obtain⟨i,hi,pi⟩:=c;obtain⟨N,h1,h2,h3⟩:=ih i hi pi;exact⟨N,by omega,h2,h3⟩
  ·exact⟨k,QJ _,h,fun i hi pi=>c ⟨i,hi,pi⟩⟩
theorem sZ{m:Nat}(F:o7 m)(h:Int){P:Nat->Prop}{e:Nat}(he:e<m+1)(hp:¬P e):∃N,N<10*(m+15)/\¬P (pth m h N).j/\∀k,k<N->P (pth m h k).j:=by
 obtain⟨t,ht,e1⟩:=F8 F (i:=SetTable.bits h % (m+1)) (u:=SetTable.bits h) (Nat.mod_lt _ (by omega)) (xt h) he;obtain⟨k,_,hk,r⟩:=uW t 0 (SetTable.bits h % (m+1),SetTable.bits h) (vm m h);rw[e1]at r;obtain⟨N,h1,h2,h3⟩:=least (P:=fun k=>¬P (pth m h k).j) (k:=k) (by rw[r.1];exact hp);exact⟨N,by omega,h2,fun k hk=>Classical.not_not.mp (h3 k hk)⟩
theorem gap{m:Nat}{pl:List Nat}(nd:pl.Nodup)(hl:pl.length<=m):∃e,e<m+1/\e∉pl:=by
 by_cases c:∃e,e<m+1/\e∉pl
 ·exact c
 ·have:=List.Nodup.length_le_of_subset (List.nodup_range (n:=m+1)) (l₂:=pl) fun b hb=>Classical.not_not.mp fun z=>c ⟨b,Ql.mp hb,z⟩;rw[Za]at this;omega
theorem Rs.nd{xs:List Nat}(h:Rs xs):xs.Nodup:=h.imp fun h=>Qj h
theorem Rs.at1{xs:Array Nat}(h:Rs xs.toList){i i' j:Nat}(h1:xs[i]?=some j)(h2:xs[i']?=some j):i=i':=by
 rw[<-Qb]at h1 h2;obtain⟨l1,e1⟩:=Q9.mp h1;obtain⟨l2,e2⟩:=Q9.mp h2;exact(List.getElem_inj h.nd).mp (e1.trans e2.symm)
theorem qW{t:SetTable}{h:Int}(hs:Rs t.place.toList)(hd:t.dummies=#[]){ha:Nat->Int}{N:Nat}(hN:(pth t.mask h N).j∉t.place.toList):∀(f k:Nat),k<=N->N-k<f->(∀k',k<=k'->k'<N->(pth t.mask h k').j∈t.place.toList)->
  (∃k1 i,k<=k1/\k1<N/\(∀k',k<=k'->k'<k1->∀i,t.place[i]?=some (pth t.mask h k').j->ha i≠h)/\t.place[i]?=some (pth t.mask h k1).j/\ha i=h/\SetTable.probe.go t ha h f (pth t.mask h k)=some (.candidate (pth t.mask h k1).j i (pth t.mask h (k1+1))))\/
  ((∀k',k<=k'->k'<N->∀i,t.place[i]?=some (pth t.mask h k').j->ha i≠h)/\SetTable.probe.go t ha h f (pth t.mask h k)=some (.empty (pth t.mask h N).j none))
 |0,k,_,hf,_=>by omega
 |f+1,k,hk,hf,hl=>by
  unfold SetTable.probe.go;rcases uO hs hd (pth t.mask h k).j with⟨h1,h2⟩|⟨p,h1,h2⟩
  ·have:k=N:=by
    rcases Zu k N with c|c
    ·exact absurd (hl k (QJ _) c) h1
    ·omega
   subst this;rw[h2];refine .inr ⟨fun k' a b=>by omega,?_⟩;dsimp only;rw[oh]
  ·have ne:k≠N:=fun e=>hN (by rw[<-e];exact Zf (by rw[Qb];exact h1));rw[h2];dsimp only;by_cases c:ha p=h
   ·rw[if_pos (by rw[c];exact beq_self_eq_true _)];exact .inl ⟨k,p,QJ _,by omega,fun k' a b=>by omega,h1,c,rfl⟩
   ·rw[if_neg (by simpa using c)];have no:∀i,t.place[i]?=some (pth t.mask h k).j->ha i≠h:=fun i hi=>by rw[hs.at1 hi h1];exact c
    have nx:t.advance (pth t.mask h k)=pth t.mask h (k+1):=rfl;rw[nx];rcases qW hs hd hN (ha:=ha) f (k+1) (by omega) (by omega) fun k' a b=>hl k' (by omega) b with⟨k1,i,a1,a2,a3,a4⟩|⟨a1,a2⟩
    ·refine .inl ⟨k1,i,by omega,a2,fun k' b1 b2=>?_,a4⟩;rcases Zu k k' with c1|c1
     ·exact a3 k' (by omega) b2
     ·rw[show k'=k by omega];exact no
    ·refine .inr ⟨fun k' b1 b2=>?_,a2⟩;rcases Zu k k' with c1|c1
     ·exact a1 k' (by omega) b2
     ·rw[show k'=k by omega];exact no
structure Tab(t:SetTable)(es:List (Int×Q6)):Prop where
 dm:t.dummies=#[]
 rs:Rs t.place.toList
 fl:o7 t.mask
 sz:t.place.size=es.length
 rc:∀(i j:Nat) (e:Int×Q6),t.place[i]?=some j->es[i]?=some e->Rch t.mask (·∈t.place.toList) e.1 j
theorem Tab.put{t:SetTable}{es:Array (Int×Q6)}(T:Tab t es.toList){h:Int}{x:Q6}{N:Nat}(h1:(pth t.mask h N).j∉t.place.toList)(h2:∀k,k<N->(pth t.mask h k).j∈t.place.toList) :
  ∃p,t.put (pth t.mask h N).j=({ t with place:=SetTable.insertAt t.place p (pth t.mask h N).j },p)/\(SetTable.insertAt es p (h,x)).toList.Perm (es.toList++[(h,x)])/\Tab { t with place:=SetTable.insertAt t.place p (pth t.mask h N).j } (SetTable.insertAt es p (h,x)).toList:=by
 obtain⟨p,e,hp,rs⟩:=EI T.rs T.dm h1;have sz:=T.sz;have hl:(SetTable.insertAt t.place p (pth t.mask h N).j).toList=t.place.toList.take p++(pth t.mask h N).j::t.place.toList.drop p:=SetTable.toList_insertAt ..;have hl2:(SetTable.insertAt es p (h,x)).toList=es.toList.take p++(h,x)::es.toList.drop p:=SetTable.toList_insertAt ..;have sub:∀y,y∈t.place.toList->y∈(SetTable.insertAt t.place p (pth t.mask h N).j).toList:=fun y hy=>by
  rw[hl,<-List.take_append_drop p t.place.toList]at *;rcases Zq.mp hy with z|z
  ·exact List.mem_append_left _ (by simpa using z)
  ·exact Qt _ (QU _ (by simpa using z))
 refine⟨p,e,(SetTable.insertAt_perm es p (h,x)).trans (by rw[Array.toList_push]),T.dm,rs,T.fl,?_,fun i j e' gi ge=>?_⟩
 ·rw[hl2];show(SetTable.insertAt t.place p (pth t.mask h N).j).size=_;have sz':t.place.size=es.size:=by simpa using sz
  rw[<-QF,hl];simp only[Qz,QD,ZP,List.length_drop,QF,sz']
 ·change (SetTable.insertAt t.place p (pth t.mask h N).j)[i]?=some j at gi;show Rch t.mask (·∈(SetTable.insertAt t.place p (pth t.mask h N).j).toList) e'.1 j;rw[<-Qb,hl]at gi;rw[hl2]at ge;have lt1:(t.place.toList.take p).length=p:=by rw[ZP,QF];omega
  have lt2:(es.toList.take p).length=p:=by rw[ZP,<-sz];omega
  rcases Nat.lt_trichotomy i p with c|c|c
  ·rw[Qv (by omega),List.getElem?_take_of_lt c]at gi ge;exact(T.rc i j e' (by rw[<-Qb];exact gi) ge).mono sub
  ·subst c;rw[Qw (by omega),lt1,Nat.sub_self,ZU]at gi;rw[Qw (by omega),lt2,Nat.sub_self,ZU]at ge;cases gi;cases ge;exact⟨N,rfl,fun k hk=>sub _ (h2 k hk)⟩
  ·obtain⟨d,rfl⟩:∃d,i=p+(d+1):=⟨i-p-1,by omega⟩;rw[Qw (by omega),lt1,show p+(d+1)-p=d+1 by omega,Qa,List.getElem?_drop]at gi;rw[Qw (by omega),lt2,show p+(d+1)-p=d+1 by omega,Qa,List.getElem?_drop]at ge;exact(T.rc (p+d) j e' (by rw[<-Qb];exact gi) ge).mono sub
abbrev Own(ow:Array (Option Nat))(j:Nat):Prop:=∃i,ow[j]?=some (some i)
structure tV(m:Nat)(hs:List Int)(ow:Array (Option Nat)):Prop where
 sz:ow.size=m+1
 ix:∀j i:Nat,ow[j]?=some (some i)->i<hs.length/\Rch m (Own ow) (hs.getD i 0) j
 al:∀i:Nat,i<hs.length->∃j:Nat,ow[j]?=some (some i)
 inj:∀j j' i:Nat,ow[j]?=some (some i)->ow[j']?=some (some i)->j=j'
theorem wG{m:Nat}{h:Int}{ow:Array (Option Nat)}(hz:ow.size=m+1):∀(f t k i u:Nat),Run m (pth m h k) i u->i<m+1->t<f->¬Own ow (lps m t (i,u)).1->(lps m t (i,u)).1<m+1->
  ∃N,k<=N/\SetTable.layClean.free m ow f i u=some (pth m h N).j/\ow[(pth m h N).j]?=some none/\∀k',k<=k'->k'<N->Own ow (pth m h k').j
 |0,t,k,i,u,_,_,ht,_,_=>by omega
 |f+1,t,k,i,u,r,hi,ht,hf,hl=>by
  unfold SetTable.layClean.free;have re:SetTable.runEnd m i<=m/\i<=SetTable.runEnd m i:=by unfold SetTable.runEnd;split<;>omega
  have val:∀d,d<SetTable.runEnd m i+1-i->((ow.getD (i+d) (some 0)).isNone=true↔ow[i+d]?=some none)/\((ow.getD (i+d) (some 0)).isNone=false↔Own ow (i+d)):=fun d hd=>by
   have hlt:i+d<ow.size:=by omega
   have e:ow.getD (i+d) (some 0)=ow[i+d]:=by simp[X4,hlt]
   rw[e,QH hlt];unfold Own;rw[QH hlt];cases ow[i+d]<;>simp
  cases hq:(Qe (SetTable.runEnd m i+1-i)).find? fun k=>(ow.getD (i+k) (some 0)).isNone with
  |some d=>
   rw[List.find?_range_eq_some]at hq;obtain⟨q1,q2,q3⟩:=hq;have q2:=Ql.mp q2;have rin:=fun d' (h':d'<=d)=>(qL r d' (by omega)).1;refine⟨k+d,by omega,by dsimp only;rw[rin d (QJ _)],by rw[rin d (QJ _)];exact(val d q2).1.mp q1,fun k' a b=>?_⟩;obtain⟨d',rfl⟩:∃d',k'=k+d':=⟨k'-k,by omega⟩;rw[rin d' (by omega)];exact(val d' (by omega)).2.mp (by simpa using q3 d' (by omega))
  |none=>
   have all:∀d,d<SetTable.runEnd m i+1-i->Own ow (i+d):=fun d hd=>(val d hd).2.mp (Bool.eq_false_iff.mpr (List.find?_eq_none.mp hq d (Ql.mpr hd)));cases t with
   |zero=>exact absurd (all 0 (by omega)) hf
   |succ t=>
    obtain⟨N,n1,n2,n3,n4⟩:=wG hz f t _ _ _ (qK r) wb (by omega) hf hl;refine⟨N,by omega,n2,n3,fun k' a b=>?_⟩;rcases Zu k' (k+(SetTable.runEnd m i-i)+1)with c|c
    ·obtain⟨d',rfl⟩:∃d',k'=k+d':=⟨k'-k,by omega⟩;rw[(qL r d' (by omega)).1];exact all d' (by omega)
    ·exact n4 k' c b
theorem tV.gap{m:Nat}{hs:List Int}{ow:Array (Option Nat)}(L:tV m hs ow)(hl:hs.length<=m):∃e,e<m+1/\¬Own ow e:=by
 by_cases c:∃e,e<m+1/\¬Own ow e
 ·exact c
 ·have own:∀e,e<m+1->Own ow e:=fun e he=>Classical.not_not.mp fun z=>c ⟨e,he,z⟩;have hf:∀e,∃i,e<m+1->ow[e]?=some (some i):=fun e=>by
   by_cases he:e<m+1
   ·obtain⟨i,hi⟩:=own e he;exact⟨i,fun _=>hi⟩
   ·exact⟨0,fun z=>absurd z he⟩
  have hg:=fun e=>(hf e).choose_spec;have nd:((Qe (m+1)).map fun e=>(hf e).choose).Nodup:=by
   refine ZC.mpr (List.Pairwise.imp_of_mem (fun{a b} ha hb hne e=>hne ?_) List.nodup_range);have ga:=hg a (Ql.mp ha);have gb:=hg b (Ql.mp hb);rw[e]at ga;exact L.inj _ _ _ ga gb
  have:=List.Nodup.length_le_of_subset nd (l₂:=Qe hs.length) fun i hi=>by
   obtain⟨e,he,rfl⟩:=Qh.mp hi;exact Ql.mpr (L.ix e _ (hg e (Ql.mp he))).1
  rw[QZ,Za,Za]at this;omega
theorem i7{ow:Array (Option Nat)}{j k x:Nat}(h:ow[j]?=some none)(i:Nat):(ow.setIfInBounds j (some k))[x]?=some (some i)↔(x=j/\i=k)\/ow[x]?=some (some i):=by
 have hj:j<ow.size:=(Zg.mp h).1;rw[Array.getElem?_setIfInBounds];by_cases c:j=x
 ·subst c;rw[if_pos rfl,if_pos hj,h];constructor
  ·intro e;injection e with e;injection e with e;exact .inl ⟨rfl,e.symm⟩
  ·rintro(⟨_,rfl⟩|e)
   ·rfl
   ·injection e with e;cases e
 ·rw[if_neg c];constructor
  ·exact .inr
  ·rintro(⟨e,_⟩|e)
   ·exact absurd e.symm c
   ·exact e
theorem tV.add{m:Nat}{hs:List Int}{ow:Array (Option Nat)}(F:o7 m)(L:tV m hs ow)(hl:hs.length<=m)(h:Int) :
  ∃j,SetTable.layClean.free m ow (SetTable.turns m) (SetTable.bits h % (m+1)) (SetTable.bits h)=some j/\tV m (hs++[h]) (ow.setIfInBounds j (some hs.length)):=by
 obtain⟨e,he,ho⟩:=L.gap hl;obtain⟨t,ht,e1⟩:=F8 F (i:=SetTable.bits h % (m+1)) (u:=SetTable.bits h) (Nat.mod_lt _ (by omega)) (xt h) he;obtain⟨N,_,n1,n2,n3⟩:=wG (h:=h) L.sz (SetTable.turns m) t 0 _ _ (vm m h) (Nat.mod_lt _ (by omega)) (by unfold SetTable.turns;omega) (by rw[e1];exact ho) (by rw[e1];exact he);refine⟨_,n1,?_⟩;have up:∀x,Own ow x->Own (ow.setIfInBounds (pth m h N).j (some hs.length)) x:=fun x ⟨i,hi⟩=>⟨i,(i7 n2 i).mpr (.inr hi)⟩;refine⟨by rw[Array.size_setIfInBounds];exact L.sz,fun j i g=>?_,fun i hi=>?_,fun j j' i g g'=>?_⟩
 ·rw[Qz,ZY];rcases(i7 n2 i).mp g with⟨rfl,rfl⟩|g
  ·refine⟨by omega,N,?_,?_⟩
   ·rw[QX,Qw (QJ _),Nat.sub_self];rfl
   ·rw[QX,Qw (QJ _),Nat.sub_self];exact fun k hk=>up _ (n3 k (ZN _) hk)
  ·obtain⟨a,b⟩:=L.ix j i g;refine⟨by omega,?_⟩;rw[QX,Qv a,<-QX];exact b.mono up
 ·rw[Qz,ZY]at hi;by_cases c:i=hs.length
  ·exact⟨_,(i7 n2 i).mpr (.inl ⟨rfl,c⟩)⟩
  ·obtain⟨j,hj⟩:=L.al i (by omega);exact⟨j,(i7 n2 i).mpr (.inr hj)⟩
 ·rcases(i7 n2 i).mp g with⟨e1,e2⟩|g<;>rcases(i7 n2 i).mp g' with⟨e3,e4⟩|g'
  ·rw[e1,e3]
  ·exact absurd (L.ix _ _ g').1 (by omega)
  ·exact absurd (L.ix _ _ g).1 (by omega)
  ·exact L.inj _ _ _ g g'
theorem tV.nil(m:Nat):tV m [] (Array.replicate (m+1) none):=by
 have no:∀j i:Nat,(Array.replicate (m+1) (none:Option Nat))[j]?≠some (some i):=fun j i=>by
  rw[Array.getElem?_replicate];split
  ·exact fun e=>by injection e with e;cases e
  ·exact fun e=>by cases e
 exact⟨by simp,fun j i g=>absurd g (no j i),fun i hi=>by simp at hi,fun j j' i g=>absurd g (no j i)⟩
theorem rp{m:Nat}(F:o7 m):∀(hs done:List Int) (ow:Array (Option Nat)),tV m done ow->done.length+hs.length<=m->
  ∃ow',hs.foldl (fun acc h=>do
   let (owner,k) <-acc
   let j <-SetTable.layClean.free m owner (SetTable.turns m) (SetTable.bits h % (m+1)) (SetTable.bits h)
   pure (owner.setIfInBounds j (some k),k+1)) (some (ow,done.length))=some (ow',done.length+hs.length)/\tV m (done++hs) ow'
 |[],done,ow,L,_=>⟨ow,rfl,by rw[Qd];exact L⟩
 |h::hs,done,ow,L,hl=>by
  rw[QD]at hl;obtain⟨j,e,L'⟩:=L.add F (by omega) h;obtain⟨ow',e',L''⟩:=rp F hs (done++[h]) _ L' (by rw[Qz,ZY];omega);refine⟨ow',?_,by rw[QB]at L'';exact L''⟩;rw[List.foldl_cons];have:(do
   let (owner,k) <-some (ow,done.length)
   let j <-SetTable.layClean.free m owner (SetTable.turns m) (SetTable.bits h % (m+1)) (SetTable.bits h)
   pure (owner.setIfInBounds j (some k),k+1):Option (Array (Option Nat)×Nat))=some (ow.setIfInBounds j (some done.length),(done++[h]).length):=by
   rw[Qz,ZY];show(SetTable.layClean.free m ow (SetTable.turns m) (SetTable.bits h % (m+1)) (SetTable.bits h)).bind _=_;rw[e];rfl
  rw[this,e',Qz,ZY,QD];congr 2;omega
theorem zN{m:Nat}(F:o7 m){hs:Array Int}(hl:hs.size<=m):∃ow,SetTable.layClean m hs=some ow/\tV m hs.toList ow:=by
 obtain⟨ow,e,L⟩:=rp F hs.toList [] _ (tV.nil m) (by simpa using hl);refine⟨ow,?_,L⟩;unfold SetTable.layClean;rw[<-Array.foldl_toList];rw[List.length_nil]at e;rw[e];rfl
def gJ(m:Nat)(ow:Array (Option Nat)):List (Nat×Nat):=(Qe (m+1)).filterMap fun j=>(ow.getD j none).map (j,·)
theorem fX{m:Nat}{ow:Array (Option Nat)}{j:Nat}{q:Nat×Nat}:(ow.getD j none).map (j,·)=some q↔q.1=j/\ow[j]?=some (some q.2):=by
 have e:ow.getD j none=(ow[j]?).getD none:=by rw[ZT]
 rw[e];obtain⟨a,b⟩:=q;cases h:ow[j]? with
 |none=>simp
 |some x=>
  cases x with
  |none=>simp
  |some y=>
   simp only[ZV,Option.map_some,Option.some.injEq,Prod.mk.injEq];exact⟨fun⟨h1,h2⟩=>⟨h1.symm,h2⟩,fun⟨h1,h2⟩=>⟨h1.symm,h2⟩⟩
theorem iF{m:Nat}{ow:Array (Option Nat)}{q:Nat×Nat}(hz:ow.size=m+1):q∈gJ m ow↔ow[q.1]?=some (some q.2):=by
 unfold gJ;rw[List.mem_filterMap];constructor
 ·rintro⟨j,hj,e⟩;obtain⟨rfl,e2⟩:=(fX (m:=m)).mp e;exact e2
 ·intro h;refine⟨q.1,Ql.mpr ?_,(fX (m:=m)).mpr ⟨rfl,h⟩⟩;have:=(Zg.mp h).1;omega
theorem zl{m:Nat}{ow:Array (Option Nat)}:Rs ((gJ m ow).map (·.1)):=by
 unfold gJ Rs;refine ZC.mpr (List.pairwise_filterMap.mpr (List.Pairwise.imp (fun{a b} hab q hq q' hq'=>?_) List.pairwise_lt_range));rw[((fX (m:=m)).mp hq).1,((fX (m:=m)).mp hq').1];exact hab
theorem sS{m:Nat}{hs:List Int}{ow:Array (Option Nat)}(L:tV m hs ow):((gJ m ow).map (·.2)).Perm (Qe hs.length):=by
 have nd:((gJ m ow).map (·.2)).Nodup:=by
  unfold gJ;refine ZC.mpr (List.pairwise_filterMap.mpr (List.Pairwise.imp (fun{a b} hab q hq q' hq' e=>?_) List.pairwise_lt_range));obtain⟨e1,g1⟩:=(fX (m:=m)).mp hq;obtain⟨e2,g2⟩:=(fX (m:=m)).mp hq';rw[e]at g1;have:=L.inj _ _ _ g1 g2;omega
 refine(List.perm_ext_iff_of_nodup nd List.nodup_range).mpr fun i=>?_;rw[Qh,Ql];constructor
 ·rintro⟨q,hq,rfl⟩;exact(L.ix _ _ ((iF L.sz).mp hq)).1
 ·intro h;obtain⟨j,hj⟩:=L.al i h;exact⟨(j,i),(iF L.sz).mpr hj,rfl⟩
theorem zD{α:Type}(es:List α):(Qe es.length).filterMap (fun i=>es[i]?)=es:=by
 refine X1 fun i=>?_;have:∀(n:Nat),n<=es.length->(Qe n).filterMap (fun i=>es[i]?)=es.take n:=fun n=>by
  induction n with
  |zero=>intro _;simp
  |succ n ih=>
   intro h;rw[List.range_succ,List.filterMap_append,ih (by omega),List.take_succ,Zr,Q7 (by omega)];simp
 rw[this _ (QJ _),List.take_length]
theorem AJ{α:Type}{es:List α}:∀{is:List Nat},(∀i∈is,i<es.length)->∀k:Nat,(is.filterMap fun i=>es[i]?)[k]?=(is[k]?).bind fun i=>es[i]?
 |[],_,k=>by simp
 |i::is,h,k=>by
  rw[Zr,Q7 (h i QY)];dsimp only;cases k with
  |zero=>simp[Q7 (h i QY)]
  |succ k=>
   rw[Qa,Qa];exact AJ (fun j hj=>h j (QU _ hj)) k
theorem Tab.relay{t:SetTable}{es:Array (Int×Q6)}{m wanted:Nat}(hm:SetTable.sizeAbove wanted-1=m)(F:o7 m)(hl:es.size<=m) :
  ∃t' order,t.relaid (es.map (·.1)) wanted=some (t',order)/\t'.mask=m/\t'.led=t.led/\t'.plain=t.plain/\(order.filterMap (es[·]?)).toList.Perm es.toList/\Tab t' (order.filterMap (es[·]?)).toList:=by
 obtain⟨ow,e,L⟩:=zN F (hs:=es.map (·.1)) (by rw[Array.size_map];exact hl);have lh:((es.map (·.1)).toList).length=es.toList.length:=by simp
 have P:=sS L;rw[lh]at P;have ol:((((gJ m ow).map (·.2)).toArray).filterMap (es[·]?)).toList=((gJ m ow).map (·.2)).filterMap fun i=>es.toList[i]?:=by
  rw[Array.toList_filterMap];congr 1;funext i;rw[Qb]
 have hP:((((gJ m ow).map (·.2)).toArray).filterMap (es[·]?)).toList.Perm es.toList:=by
  rw[ol];have:=P.filterMap fun i=>es.toList[i]?;rw[zD]at this;exact this
 refine⟨{ mask:=m,place:=((gJ m ow).map (·.1)).toArray,dummies:=#[],finger:=t.finger,led:=t.led,moves:=t.movedTo m,plain:=t.plain },((gJ m ow).map (·.2)).toArray,?_,rfl,rfl,rfl,hP,rfl,zl,F,?_,fun i j e' gi ge=>?_⟩
 ·unfold SetTable.relaid SetTable.laid;rw[hm,e];rfl
 ·rw[hP.length_eq];show(((gJ m ow).map (·.1)).toArray).size=_;rw[QM,QZ];have:=P.length_eq;rw[QZ,Za]at this;exact this
 ·change (((gJ m ow).map (·.1)).toArray)[i]?=some j at gi;show Rch m (·∈((gJ m ow).map (·.1))) e'.1 j;rw[Zh,Qn]at gi;obtain⟨q,hq,rfl⟩:=ZQ.mp gi;rw[ol,AJ (fun k hk=>Ql.mp (P.mem_iff.mp hk)),Qn,hq]at ge;have ge:es.toList[q.2]?=some e':=ge;have own:=(iF L.sz).mp (Zf hq);obtain⟨_,r⟩:=L.ix _ _ own;have eh:((es.map (·.1)).toList).getD q.2 0=e'.1:=by
   rw[QX,Array.toList_map,Qn,ge];rfl
  rw[eh]at r;exact r.mono fun x ⟨y,hy⟩=>Qh.mpr ⟨(x,y),(iF L.sz).mpr hy,rfl⟩
def Lv(m n:Nat):Prop:=(m=7/\n<5)\/(m=31/\n<19)\/(m=127/\n<77)\/(m=511/\n<307)\/(m=2047/\n<1229)
theorem Lv.full{m n:Nat}(h:Lv m n):o7 m:=by
 rcases h with⟨rfl,_⟩|⟨rfl,_⟩|⟨rfl,_⟩|⟨rfl,_⟩|⟨rfl,_⟩
 ·exact FZ
 ·exact F0
 ·exact CQ
 ·exact CP
 ·exact zC
theorem Lv.odd{m n:Nat}(h:Lv m n):(m % 2 == 0)=false:=by
 rcases h with⟨rfl,_⟩|⟨rfl,_⟩|⟨rfl,_⟩|⟨rfl,_⟩|⟨rfl,_⟩<;>rfl
theorem Lv.le{m n:Nat}(h:Lv m n):n+1<=m/\m<=2047:=by unfold Lv at h;omega
theorem Lv.next{m n:Nat}(h:Lv m n)(hn:n<1228):(¬(n+1)*5≥m*3/\Lv m (n+1))\/((n+1)*5≥m*3/\∃m',SetTable.sizeAbove (SetTable.grown (n+1))-1=m'/\Lv m' (n+1)/\SetTable.sizeAbove (SetTable.grown (n+1))<=2048):=by
 have s20:SetTable.sizeAbove (SetTable.grown 5)=32:=by decide +kernel
 have s76:SetTable.sizeAbove (SetTable.grown 19)=128:=by decide +kernel
 have s308:SetTable.sizeAbove (SetTable.grown 77)=512:=by decide +kernel
 have s1228:SetTable.sizeAbove (SetTable.grown 307)=2048:=by decide +kernel
 unfold Lv at h ⊢;by_cases c:(n+1)*5≥m*3
 ·refine .inr ⟨c,?_⟩;rcases h with⟨rfl,h⟩|⟨rfl,h⟩|⟨rfl,h⟩|⟨rfl,h⟩|⟨rfl,h⟩
  ·obtain rfl:n=4:=by omega
   exact⟨31,by rw[s20],by omega,by rw[s20];omega⟩
  ·obtain rfl:n=18:=by omega
   exact⟨127,by rw[s76],by omega,by rw[s76];omega⟩
  ·obtain rfl:n=76:=by omega
   exact⟨511,by rw[s308],by omega,by rw[s308];omega⟩
  ·obtain rfl:n=306:=by omega
   exact⟨2047,by rw[s1228],by omega,by rw[s1228];omega⟩
  ·omega
 ·refine .inl ⟨c,?_⟩;rcases h with⟨rfl,h⟩|⟨rfl,h⟩|⟨rfl,h⟩|⟨rfl,h⟩|⟨rfl,h⟩
  ·exact .inl ⟨rfl,by omega⟩
  ·exact .inr (.inl ⟨rfl,by omega⟩)
  ·exact .inr (.inr (.inl ⟨rfl,by omega⟩))
  ·exact .inr (.inr (.inr (.inl ⟨rfl,by omega⟩)))
  ·exact .inr (.inr (.inr (.inr ⟨rfl,by omega⟩)))
def kP(p:Int×Int):List Key:=[.inl p.1,.inl p.2]
theorem FK{p q:Int×Int}(h:kP p=kP q):p=q:=by
 injection h with h1 h2;injection h2 with h3 _;injection h1 with h1;injection h3 with h3;exact Prod.ext h1 h3
def hP(prog:Qu)(w:Qm)(p:Int×Int):Int:=tupleKeyHash (bA prog w) (kP p)
theorem iC{prog:Qu}{w:Qm}{h:Heap}{v:Q6}{p:Int×Int}(k:bE h v p):∃b,v=.ref b/\IsTupleKey (bA prog w) h (kP p) b:=by
 obtain⟨b,o,t1,t2,e,rfl,g,c,d⟩:=k;exact⟨b,rfl,o,_,e,g,c,d,.cons (by simp[bA,oA,Value.isInt]) (.cons (by simp[bA,oA,Value.isInt]) .nil)⟩
def Els(prog:Qu)(w:Qm)(h:Heap):List (Int×Q6)->List (Int×Int)->Prop
 |[],[]=>True
 |e::es,p::ps=>(e.1=hP prog w p/\bE h e.2 p)/\Els prog w h es ps
 |_,_=>False
section
variable{prog:Qu}{w:Qm}{h h':Heap}
theorem Els.len:∀{es:List (Int×Q6)} {ps:List (Int×Int)},Els prog w h es ps->es.length=ps.length
 |[],[],_=>rfl
 |_::_,_::_,k=>by rw[QD,QD,k.2.len]
 |[],_::_,k=>k.elim
 |_::_,[],k=>k.elim
theorem Els.at_:∀{es:List (Int×Q6)} {ps:List (Int×Int)} {i:Nat} {e:Int×Q6},Els prog w h es ps->es[i]?=some e->∃p,ps[i]?=some p/\e.1=hP prog w p/\bE h e.2 p
 |_::_,p::_,0,_,k,g=>by simp at g;subst g;exact⟨p,rfl,k.1⟩
 |_::_,_::_,i+1,e,k,g=>by simpa using k.2.at_ (i:=i) (by simpa using g)
 |[],[],_,_,_,g=>by simp at g
 |[],_::_,_,_,k,_=>k.elim
 |_::_,[],_,_,k,_=>k.elim
theorem Els.app:∀{es fs:List (Int×Q6)} {ps qs:List (Int×Int)},Els prog w h es ps->Els prog w h fs qs->Els prog w h (es++fs) (ps++qs)
 |[],_,[],_,_,k2=>k2
 |_::_,_,_::_,_,k,k2=>⟨k.1,k.2.app k2⟩
 |[],_,_::_,_,k,_=>k.elim
 |_::_,_,[],_,k,_=>k.elim
theorem Els.perm{es es':List (Int×Q6)}(P:es'.Perm es):∀{ps:List (Int×Int)},Els prog w h es ps->∃ps',ps'.Perm ps/\Els prog w h es' ps':=by
 induction P with
 |nil=>exact fun{ps} k=>⟨ps,.refl _,k⟩
 |cons x _ ih=>
  intro ps k;cases ps with
  |nil=>exact k.elim
  |cons p ps=>
   obtain⟨qs,h1,h2⟩:=ih k.2;exact⟨p::qs,h1.cons p,k.1,h2⟩
 |swap x y l=>
  intro ps k;match ps,k with
  |[],k=>exact k.elim
  |[p],k=>exact k.2.elim
  |p::q::ps,k=>exact⟨q::p::ps,.swap _ _ _,k.2.1,k.1,k.2.2⟩
 |trans _ _ ih1 ih2=>
  intro ps k;obtain⟨qs,h1,h2⟩:=ih2 k;obtain⟨rs,h3,h4⟩:=ih1 h2;exact⟨rs,h3.trans h1,h4⟩
theorem Els.mono{a:Addr}(m:∀b o,b≠a->h.get? b=some o->h'.get? b=some o):∀{es:List (Int×Q6)} {ps:List (Int×Int)},Els prog w h es ps->(∀e∈es,e.2≠.ref a)->Els prog w h' es ps
 |[],[],_,_=>trivial
 |e::es,p::ps,k,na=>by
  obtain⟨k1,b,o,t1,t2,n,e1,g,c,d⟩:=k.1;refine⟨⟨k1,b,o,t1,t2,n,e1,m b o (fun z=>na e QY (by rw[e1,z])) g,c,d⟩,k.2.mono m fun x hx=>na x (QU _ hx)⟩
 |[],_::_,k,_=>k.elim
 |_::_,[],k,_=>k.elim
theorem Els.keep:∀{es:List (Int×Q6)} {ps:List (Int×Int)},Els prog w h es ps->(∀b o,(∃e∈es,e.2=.ref b)->h.get? b=some o->h'.get? b=some o)->Els prog w h' es ps
 |[],[],_,_=>trivial
 |e::es,p::ps,k,m=>by
  obtain⟨k1,b,o,t1,t2,n,e1,g,c,d⟩:=k.1;exact⟨⟨k1,b,o,t1,t2,n,e1,m b o ⟨e,QY,e1⟩ g,c,d⟩,k.2.keep fun b o ⟨x,hx,ex⟩=>m b o ⟨x,QU _ hx,ex⟩⟩
 |[],_::_,k,_=>k.elim
 |_::_,[],k,_=>k.elim
end
structure gf(prog:Qu)(w:Qm)(h:Heap)(a:Addr)(es:Array (Int×Q6))(ep:Nat)(t:SetTable)(ps:List (Int×Int)):Prop where
 ob:∃o,h.get? a=some o/\o.ExactSet/\o.data=.set es ep t
 tab:Tab t es.toList
 el:Els prog w h es.toList ps
 nd:ps.Nodup
 pl:t.plain=true
 ld:t.led=!w.params.followText "set-order"
 lv:Lv t.mask es.size
theorem qX{t:SetTable}{h:Int}(hs:Rs t.place.toList)(hd:t.dummies=#[]){ha:Nat->Int}{N k:Nat}(hN:(pth t.mask h N).j∉t.place.toList)(hl:∀k,k<N->(pth t.mask h k).j∈t.place.toList)(hk:k<=N)(hn:N<10*(t.mask+15)){p:SetTable.Probe}(hp:p=pth t.mask h k){r:Option SetTable.Met}(e:t.probe ha h p=r) :
  (∃k1 i,k<=k1/\k1<N/\(∀k',k<=k'->k'<k1->∀i,t.place[i]?=some (pth t.mask h k').j->ha i≠h)/\t.place[i]?=some (pth t.mask h k1).j/\ha i=h/\r=some (.candidate (pth t.mask h k1).j i (pth t.mask h (k1+1))))\/
  ((∀k',k<=k'->k'<N->∀i,t.place[i]?=some (pth t.mask h k').j->ha i≠h)/\r=some (.empty (pth t.mask h N).j none)):=by
 subst hp;rw[<-e];exact qW hs hd hN _ k hk (by unfold SetTable.turns;omega) fun k' _ b=>hl k' b
section
variable{prog:Qu}{w:Qm}{A:Z9}{E:Q6->QQ->Prop}{s:QQ}
theorem gf.fits{a:Addr}{es:Array (Int×Q6)}{ep:Nat}{t:SetTable}{ps:List (Int×Int)}(S:gf prog w s.heap a es ep t ps):t.fits es.size=true:=by
 have h1:=S.lv.le;have h2:=S.tab.sz;have h3:=S.tab.dm;unfold SetTable.fits SetTable.fill;rw[h3];simp only[QF]at h2;simp[h2];omega
theorem xh{x:Addr}{p:Int×Int}(hx:bE s.heap (.ref x) p){Q:Bool->QQ->Prop}(q:Q false s):wpAny (Qx prog w) A (ofAClassStatement 8 (.ref x)) Q E s:=by
 obtain⟨b,o,t1,t2,e,e0,g,c,d⟩:=hx;cases e0;unfold ofAClassStatement;refine Q2 (wpAny_typeOf (T:="tuple") ⟨o,g,c⟩ ?_);dsimp only;rw[if_pos (beq_self_eq_true _)];refine Q2 (Q8 ?_);simp only[Bool.not_true,Qc,if_false];refine Q2 (wpAny_seqItems g d ?_);dsimp only;refine Q2 ?_;rw[<-Array.forIn_toList];refine wpAny_forIn_list _ (fun rest r s'=>r.1=none/\s'=s/\∀v∈rest,∃i t,v=Value.int i t) _ (fun v rest r s' hz=>?_) (fun r s' hz=>?_) _ _ ⟨rfl,rfl,fun v hv=>?_⟩
 ·obtain⟨_,rfl,hv⟩:=hz;obtain⟨i,t,rfl⟩:=hv v QY;have e:ofAClassStatement 7 (Value.int i t)=pure false:=by unfold ofAClassStatement;rfl
  rw[e];exact Q2 (Q8 (Q8 ⟨rfl,rfl,fun y hy=>hv y (QU _ hy)⟩))
 ·obtain⟨e,rfl,_⟩:=hz;try dsimp only
  rw[e];exact Q8 q
 ·simp at hv;rcases hv with rfl|rfl
  ·exact⟨_,_,rfl⟩
  ·exact⟨_,_,rfl⟩
theorem xg{x:Addr}{p:Int×Int}(hx:bE s.heap (.ref x) p){ys:List Q6}(hy:∀y∈ys,∃q,bE s.heap y q){Q:Bool->QQ->Prop}(q:Q false s):wpAny (Qx prog w) A (searchCouldBeSeen (.ref x) ys) Q E s:=by
 unfold searchCouldBeSeen;refine Q2 ?_;refine wpAny_forIn_list _ (fun rest r s'=>r.1=none/\s'=s/\∀v∈rest,∃q,bE s.heap v q) _ (fun v rest r s' hz=>?_) (fun r s' hz=>?_) _ _ ⟨rfl,rfl,hy⟩
 ·obtain⟨_,rfl,hv⟩:=hz;obtain⟨p',k⟩:=hv v QY;obtain⟨b,rfl,kk⟩:=iC (prog:=prog) (w:=w) k;obtain⟨x',ex,kx⟩:=iC (prog:=prog) (w:=w) hx;cases ex;have nx:∀y∈rest,∃q,bE s'.heap y q:=fun y hy=>hv y (QU _ hy);dsimp only;refine wpAny_ite_split (fun _=>Q8 ⟨rfl,rfl,nx⟩) fun _=>?_;refine Q2 (wpAny_eqIsQuiet_tuple kx ?_);simp only[Bool.not_true,Qc,if_false];refine Q2 (wpAny_eqIsQuiet_tuple kk ?_);simp only[Bool.not_true,Qc,if_false];refine Q2 (xh hx ?_);simp only[Qc,if_false];refine Q2 (xh k ?_);simp only[Qc,if_false];exact Q8 ⟨rfl,rfl,nx⟩
 ·obtain⟨e,rfl,_⟩:=hz;dsimp only;rw[e];exact Q8 q
theorem j6{a x:Addr}{es:Array (Int×Q6)}{ep:Nat}{t:SetTable}{ps:List (Int×Int)}{p:Int×Int}(S:gf prog w s.heap a es ep t ps)(hu:A.units<cLine)(hx:bE s.heap (.ref x) p){N:Nat}(h1:(pth t.mask (hP prog w p) N).j∉t.place.toList)(h2:∀k,k<N->(pth t.mask (hP prog w p) k).j∈t.place.toList)(hN:N<10*(t.mask+15)){Q:SetFound->QQ->Prop}
  (q1:p∈ps->Q (.there none) s) (q2:p∉ps->Q (.free (pth t.mask (hP prog w p) N).j false) s) :
  ∀(f k:Nat) (stand:Option SetTable.Probe),k<=N->N-k<f->stand.getD (t.probeStart (hP prog w p))=pth t.mask (hP prog w p) k->(∀k',k'<k->∀i:Nat,t.place[i]?=some (pth t.mask (hP prog w p) k').j->ps[i]?≠some p)->wpAny (Qx prog w) A (setSearchFrom a (.ref x) (hP prog w p) true f stand) Q E s
 |0,k,stand,hk,hf,_,_=>by omega
 |f+1,k,stand,hk,hf,hst,no=>by
  obtain⟨o,ho,hex,hd⟩:=S.ob;unfold setSearchFrom;refine Q2 (wpAny_setState_of ho hd S.fits ?_);dsimp only;have hg:t.gaveWay=false:=S.lv.odd;rw[hg];simp only[Qc,if_false];have ls:=S.el.len;have sz:=S.tab.sz;split
  ·rename_i met heq;rcases qX S.tab.rs S.tab.dm h1 h2 hk hN hst heq with⟨k1,i,b1,b2,b3,b4,b5,er⟩|⟨b3,er⟩
   ·injection er with er;subst er;have hi:i<es.size:=by
     have:=(Zg.mp b4).1;simp only[QF]at sz;omega
    obtain⟨⟨hy,y⟩,ei⟩:∃z,es[i]?=some z:=⟨es[i],QH hi⟩;have eh:hy=hP prog w p:=by
     have b5:(es[i]?.map (·.1)).getD 0=hP prog w p:=b5;rw[ei]at b5;exact b5
    obtain⟨p',g1,g2,g3⟩:=S.el.at_ (by rw[Qb];exact ei);obtain⟨b,rfl,ky⟩:=iC (prog:=prog) (w:=w) g3;obtain⟨x',ex,kx⟩:=iC (prog:=prog) (w:=w) hx;cases ex;dsimp only;have no2:p'≠p->∀k',k'<k1+1->∀i:Nat,t.place[i]?=some (pth t.mask (hP prog w p) k').j->ps[i]?≠some p:=fun ne k' hk' i' hi' hp'=>by
     rcases Zu k' k with c|c
     ·exact no k' c i' hi' hp'
     ·rcases Zu k' k1 with c1|c1
      ·refine b3 k' c c1 i' hi' ?_;have hi2:i'<es.size:=by
        have:=(Q9.mp hp').1;simp only[QF]at ls;omega
       obtain⟨q,hq1,hq2,_⟩:=S.el.at_ (i:=i') (by rw[Qb];exact QH hi2);rw[hp']at hq1;cases hq1;show(es[i']?.map (·.1)).getD 0=_;rw[QH hi2];exact hq2
      ·rw[show k'=k1 by omega]at hi';rw[S.tab.rs.at1 hi' b4,g1]at hp';injection hp' with hp';exact ne hp'
    have hsm:t.sameMemory t.moves t.mask=some true:=by unfold SetTable.sameMemory;rw[if_pos (beq_self_eq_true _)]
    have hsl:t.slot (pth t.mask (hP prog w p) k1).j=.live i:=by
     rcases uO S.tab.rs S.tab.dm (pth t.mask (hP prog w p) k1).j with⟨c1,_⟩|⟨i',c1,c2⟩
     ·exact absurd (Zf (by rw[Qb];exact b4)) c1
     ·rw[c2,S.tab.rs.at1 c1 b4]
    refine wpAny_ite_split (fun _=>Q2 (xg hx (fun y hy=>?_) ?_)) fun _=>?_
    ·obtain⟨e,he,rfl⟩:=Qh.mp hy;have he':e∈es.toList:=by simp at he;simpa using he.1
     obtain⟨i',hi'⟩:=Zc he';obtain⟨q,_,_,hq⟩:=S.el.at_ hi';exact⟨q,hq⟩
    all_goals
     (try simp only[Qc,if_false])
     rw[ei];dsimp only;refine Q2 (wpAny_holding (wpAny_eqBool_tuple hu ky kx ?_));refine Q2 (wpAny_setState_of ho hd S.fits ?_);dsimp only;by_cases c:p'=p
     ·subst c;rw[if_pos (by simp)];exact Q8 (q1 (Zf g1))
     ·have dc:decide (kP p'=kP p)=false:=decide_eq_false fun z=>c (FK z);rw[dc,hsm];simp only[ZO,Qc,if_false,if_true];rw[hsl];dsimp only;rw[ei];dsimp only;refine Q2 (wpAny_isSame_ref_self ?_);refine Q2 (Q8 ?_);simp only[if_true];exact j6 S hu hx h1 h2 hN q1 q2 f (k1+1) _ (by omega) (by omega) rfl (no2 c)
   ·injection er with er;subst er;dsimp only;refine Q8 (q2 fun hm=>?_);obtain⟨i0,hi0⟩:=Zc hm;have li:=(Q9.mp hi0).1;simp only[QF]at ls sz;have hie:i0<es.size:=by omega
    have hip:i0<t.place.size:=by omega
    obtain⟨q,hq1,hq2,_⟩:=S.el.at_ (i:=i0) (by rw[Qb];exact QH hie);rw[hi0]at hq1;cases hq1;obtain⟨k0,r1,r2⟩:=S.tab.rc i0 _ _ (QH hip) (by rw[Qb];exact QH hie);rw[hq2]at r1 r2;have k0N:k0<N:=by
     rcases Nat.lt_trichotomy k0 N with c|c|c
     ·exact c
     ·exact absurd (by rw[<-c,r1];simp) h1
     ·exact absurd (r2 N c) h1
    have gp:t.place[i0]?=some (pth t.mask (hP prog w p) k0).j:=by rw[r1];exact QH hip
    rcases Zu k0 k with c|c
    ·exact no k0 c i0 gp hi0
    ·refine b3 k0 c k0N i0 gp ?_;show(es[i0]?.map (·.1)).getD 0=_;rw[QH hie];exact hq2
  ·rename_i heq;rcases qX S.tab.rs S.tab.dm h1 h2 hk hN hst rfl with⟨k1,i,b1,b2,b3,b4,b5,er⟩|⟨b3,er⟩
   ·exact absurd er (heq _)
   ·exact absurd er (heq _)
theorem zA{x:Addr}{p:Int×Int}(hx:bE s.heap (.ref x) p){Q:Bool->QQ->Prop}(q:Q true s):wpAny (Qx prog w) A (hashByValue 8 (.ref x)) Q E s:=by
 obtain⟨b,o,t1,t2,e,e0,g,c,d⟩:=hx;cases e0;unfold hashByValue;refine Q2 (wpAny_specialOf (T:="tuple") ⟨o,g,c⟩ PySem.F.slot_tuple_hash.lookup ?_);dsimp only;refine Q2 (wpAny_seqItems g d ?_);simp only[ZV];refine Q2 ?_;rw[<-Array.forIn_toList];refine wpAny_forIn_list _ (fun rest r s'=>r.1=none/\s'=s/\∀v∈rest,∃i t,v=Value.int i t) _ (fun v rest r s' hz=>?_) (fun r s' hz=>?_) _ _ ⟨rfl,rfl,fun v hv=>?_⟩
 ·obtain⟨_,rfl,hv⟩:=hz;obtain⟨i,t,rfl⟩:=hv v QY;have e:hashByValue 7 (Value.int i t)=pure true:=by unfold hashByValue;rfl
  rw[e];exact Q2 (Q8 (Q8 ⟨rfl,rfl,fun y hy=>hv y (QU _ hy)⟩))
 ·obtain⟨e,rfl,_⟩:=hz;try dsimp only
  rw[e];exact Q8 q
 ·simp at hv;rcases hv with rfl|rfl
  ·exact⟨_,_,rfl⟩
  ·exact⟨_,_,rfl⟩
theorem wM{h:Heap}{a:Addr}{o:Obj}(g:h.get? a=some o)(c:o.cls=.type "set"):∀{es:List (Int×Q6)} {ps:List (Int×Int)},Els prog w h es ps->∀e∈es,e.2≠.ref a
 |[],[],_,e,he=>by cases he
 |e0::es,p::ps,k,e,he=>by
  rcases QL.mp he with rfl|he
  ·obtain⟨_,b,o',t1,t2,n,e1,g',c',d'⟩:=k.1;rw[e1];intro z;injection z with z;subst z;rw[g]at g';cases g';rw[c]at c';exact absurd c' (by decide)
  ·exact wM g c k.2 e he
 |[],_::_,k,_,_=>k.elim
 |_::_,[],k,_,_=>k.elim
theorem qG{h:Heap}{a:Addr}{o:Obj}{es es':Array (Int×Q6)}{ep:Nat}{t t':SetTable}{ps:List (Int×Int)}(ho:h.get? a=some o)(hex:o.ExactSet)(hd:o.data=.set es ep t)(T:Tab t' es'.toList)(el:Els prog w h es'.toList ps)(nd:ps.Nodup)(pl:t'.plain=true)(ld:t'.led=!w.params.followText "set-order")(lv:Lv t'.mask es'.size) :
  gf prog w (h.update a (Obj.putSet es' t')) a es' (ep+1) t' ps/\∀b o,b≠a->h.get? b=some o->(h.update a (Obj.putSet es' t')).get? b=some o:=by
 have keep:∀b o,b≠a->h.get? b=some o->(h.update a (Obj.putSet es' t')).get? b=some o:=fun b o hb g=>by
  rw[(Heap.SameBut.update h a (Obj.putSet es' t')).2 b hb];exact g
 have g:=Zx (Obj.putSet es' t') ho (by rw[putSet_of es' t' hd];rfl);rw[putSet_of es' t' hd]at g;exact⟨⟨⟨_,g,⟨hex.1,hex.2.1,hex.2.2⟩,rfl⟩,T,el.mono keep (wM ho hex.1 el),nd,pl,ld,lv⟩,keep⟩
theorem yD{a:Addr}{es:Array (Int×Q6)}{ep:Nat}{t:SetTable}{ps:List (Int×Int)}{m wanted:Nat}{o:Obj}(ho:s.heap.get? a=some o)(hex:o.ExactSet)(hd:o.data=.set es ep t)(hf:t.fits es.size=true)(el:Els prog w s.heap es.toList ps)(nd:ps.Nodup)(pl:t.plain=true)(ld:t.led=!w.params.followText "set-order")
  (hm:SetTable.sizeAbove wanted-1=m) (lv:Lv m es.size) (hs:SetTable.sizeAbove wanted<=2048) {Q:Unit->QQ->Prop}
  (q:∀h' es' ep' t' ps',(∀b o,b≠a->s.heap.get? b=some o->h'.get? b=some o)->gf prog w h' a es' ep' t' ps'->ps'.Perm ps->es'.toList.Perm es.toList->Q () { s with heap:=h' }):wpAny (Qx prog w) A (setRelay a wanted) Q E s:=by
 have hl:=lv.le;obtain⟨t',order,e,m1,m2,m3,P,T⟩:=Tab.relay (t:=t) (es:=es) hm lv.full (by omega);have sz:(order.filterMap (es[·]?)).size=es.size:=by rw[<-QF,P.length_eq,QF]
 obtain⟨ps',pp,el'⟩:=el.perm P;unfold setRelay;refine Q2 (wpAny_setState_of ho hd hf ?_);dsimp only;rw[if_neg (by unfold QN;omega),e];refine Q2 ?_;refine wpAny_ite_split (fun c=>absurd sz (by simpa using c)) fun _=>Q8 ?_;dsimp only;obtain⟨S,keep⟩:=qG (prog:=prog) (w:=w) (t':=t') ho hex hd T el' (pp.nodup_iff.mpr nd) (by rw[m3];exact pl) (by rw[m2];exact ld) (by rw[m1,sz];exact lv);exact wpAny_storeSet_of ho hd (q _ _ _ _ _ keep S pp P) (by rw[sz];unfold QN;omega)
theorem BP{a x:Addr}{es:Array (Int×Q6)}{ep:Nat}{t:SetTable}{ps:List (Int×Int)}{p:Int×Int}(S:gf prog w s.heap a es ep t ps)(hu:A.units<cLine)(hx:bE s.heap (.ref x) p)(hn:es.size<1228){Q:Bool->QQ->Prop}
  (q:∀h' tk es' ep' t' ps' b,(∀b o,b≠a->s.heap.get? b=some o->h'.get? b=some o)->gf prog w h' a es' ep' t' ps'->(∀y,y∈ps'↔y∈ps\/y=p)->es'.size<=es.size+1->(∀e∈es'.toList,e∈es.toList\/e.2=.ref x)->s.toks<=tk->Q b { s with heap:=h',toks:=tk }) :
  wpAny (Qx prog w) A (setAdd a (.ref x)) Q E s:=by
 obtain⟨x',ex,kx⟩:=iC (prog:=prog) (w:=w) hx;cases ex;obtain⟨o,ho,hex,hd⟩:=S.ob;have hl:=S.lv.le;have sz:=S.tab.sz;have ls:=S.el.len;simp only[QF]at sz ls;unfold setAdd;refine wpAny_holding (Q2 (wpAny_pyHash_tuple hu kx ?_));obtain⟨e0,he0,hne⟩:=gap (m:=t.mask) S.tab.rs.nd (by rw[QF,sz];omega);obtain⟨N,n1,n2,n3⟩:=sZ S.tab.fl (hP prog w p) (P:=(·∈t.place.toList)) he0 hne;show wpAny _ _ (setAddHashed a (.ref x) (hP prog w p)) _ _ _;unfold setAddHashed setAddHashedIn;refine wpAny_holding (Q2 (wpAny_setState_of ho hd S.fits ?_));dsimp only;have bs:byScan (.ref x) es=false:=rfl;rw[bs];simp only[Qc,if_false];unfold setSearch;refine Q2 (j6 (s:={ s with toks:=s.toks+((kP p).length+1) }) S hu hx n2 n3 n1 (fun hm=>?_) (fun hm=>?_) 100000 0 none (ZN _) (by omega) rfl fun k' hk'=>by omega)
 ·dsimp only;refine Q8 (q s.heap _ es ep t ps _ (fun _ _ _ g=>g) S (fun y=>⟨.inl,fun h=>h.elim id fun e=>e▸hm⟩) (Nat.le_succ _) (fun e he=>.inl he) (Nat.le_add_right _ _))
 ·dsimp only;refine Q2 (wpAny_setState_of ho hd S.fits ?_);obtain⟨pp,e1,P,T⟩:=S.tab.put (h:=hP prog w p) (x:=.ref x) n2 n3;have e1':t.put (pth t.mask (hP prog w p) N).j=_:=e1;dsimp only;rw[e1'];dsimp only;rw[if_pos S.pl];refine Q2 (zA (s:={ s with toks:=s.toks+((kP p).length+1) }) hx ?_);simp only[if_true];have sz1:(SetTable.insertAt es pp (hP prog w p,Value.ref x)).size=es.size+1:=by have:=P.length_eq;simpa using this
  obtain⟨ps1,pp1,el1⟩:=(S.el.app (fs:=[(hP prog w p,.ref x)]) (qs:=[p]) ⟨⟨rfl,hx⟩,trivial⟩).perm P;have nd1:ps1.Nodup:=pp1.nodup_iff.mpr (by
   rw[List.nodup_append];exact⟨S.nd,by simp,fun y hy z hz e=>hm (by rw[ZH.mp hz]at e;rw[<-e];exact hy)⟩)
  have mem1:∀y,y∈ps1↔y∈ps\/y=p:=fun y=>by rw[pp1.mem_iff,Zq,ZH]
  have from1:∀e∈(SetTable.insertAt es pp (hP prog w p,Value.ref x)).toList,e∈es.toList\/e.2=.ref x:=fun e he=>by
   rcases Zq.mp (P.mem_iff.mp he)with h|h
   ·exact .inl h
   ·rw[ZH.mp h];exact .inr rfl
  have keep1:∀b o,b≠a->s.heap.get? b=some o->(s.heap.update a (Obj.putSet (SetTable.insertAt es pp (hP prog w p,Value.ref x)) { t with place:=SetTable.insertAt t.place pp (pth t.mask (hP prog w p) N).j })).get? b=some o:=fun b o hb g=>by
   rw[(Heap.SameBut.update s.heap a _).2 b hb];exact g
  refine Q2 (wpAny_storeSet_of (s:={ s with toks:=s.toks+((kP p).length+1) }) ho hd ?_ (by rw[sz1];unfold QN;omega));have tsz:(SetTable.insertAt t.place pp (pth t.mask (hP prog w p) N).j).size=es.size+1:=by
   have:=T.sz;change (SetTable.insertAt t.place pp (pth t.mask (hP prog w p) N).j).size=_ at this;rw[this,QF,sz1]
  have tf:({ t with place:=SetTable.insertAt t.place pp (pth t.mask (hP prog w p) N).j }:SetTable).tooFull=decide ((es.size+1)*5≥t.mask*3):=by
   unfold SetTable.tooFull SetTable.fill;dsimp only;rw[tsz,S.tab.dm];rfl
  rw[tf];rcases S.lv.next hn with⟨c1,lv⟩|⟨c1,m',hm',lv,hs⟩
  ·rw[decide_eq_false c1];simp only[Bool.not_false,ZO,Qc,if_false];obtain⟨S',keep⟩:=qG (prog:=prog) (w:=w) ho hex hd T el1 nd1 S.pl S.ld (by rw[sz1];exact lv);exact Q8 (q _ _ _ _ _ _ _ keep S' mem1 (by rw[sz1];exact QJ _) from1 (Nat.le_add_right _ _))
  ·rw[decide_eq_true c1];simp only[Bool.not_false,Bool.and_true,if_true];have g:=Zx (Obj.putSet (SetTable.insertAt es pp (hP prog w p,Value.ref x)) { t with place:=SetTable.insertAt t.place pp (pth t.mask (hP prog w p) N).j }) ho (by rw[putSet_of _ _ hd];rfl);rw[putSet_of _ _ hd]at g;have el2:=el1.mono keep1 (wM ho hex.1 el1);refine Q2 (yD (prog:=prog) (w:=w) (s:={ s with heap:=s.heap.update a (Obj.putSet (SetTable.insertAt es pp (hP prog w p,Value.ref x)) { t with place:=SetTable.insertAt t.place pp (pth t.mask (hP prog w p) N).j }),toks:=s.toks+((kP p).length+1) }) g ⟨hex.1,hex.2.1,hex.2.2⟩ rfl ?_ el2 nd1 S.pl S.ld hm' (by rw[sz1];exact lv) hs fun h' es' ep' t' ps' keep2 S' pe es''=>?_)
   ·unfold SetTable.fits SetTable.fill;dsimp only;rw[tsz,S.tab.dm,sz1];simp;omega
   ·exact Q8 (q _ _ _ _ _ _ _ (fun b o hb g'=>keep2 b o hb (keep1 b o hb g')) S' (fun y=>by rw[pe.mem_iff];exact mem1 y) (by rw[<-QF,es''.length_eq,QF,sz1];exact QJ _) (fun e he=>from1 e (es''.mem_iff.mp he)) (Nat.le_add_right _ _))
end
abbrev bF(w:Qm):Obj:={ cls:=.type "set",dict:=none,data:=.set #[] 0 (.fresh 0 0 (!w.params.followText "set-order")) }
section
variable{prog:Qu}{w:Qm}{A:Z9}{E:Q6->QQ->Prop}{s:QQ}
theorem BO(a:Q6){Q1:Q6->QQ->Prop}(q:Q1 (.ref s.heap.objs.size) { s with heap:=s.heap.push (bF w) }) :
  codeAny (Qx prog w) A (.call (.builtin "set.__new__") ⟨[.type "set",a],[]⟩) (wants Q1 E) s:=by
 refine codeAny_of_tree ?_;change wpAny _ A.in1 ((checkBuiltinCall "set.__new__" ⟨[.type "set",a],[]⟩) >>= fun _=>again (.builtin "set.__new__" ⟨[.type "set",a],[]⟩)) _ _ s;rw[PySem.F.newCall_set_1 a];refine Q2 (Q8 (Q8 ⟨plainId_quiet PySem.F.plain_set_new _,codeAny_builtin PySem.F.entry_set_new ?_⟩));rw[Around.under_plainId PySem.F.plain_set_new _];unfold Builtin.«set.__new__» Builtin.Frozenset.newClass;have hs:=sub_set_self;obtain⟨hp,g,d,tk,os⟩:=s;dsimp only
 wp_walk
 refine wpAny_askSetting (Q8 ?_);dsimp only;unfold newObj;exact Q2 (wpAny_alloc (Q8 (Q8 q)))
theorem gQ{l:Q6}{Q:Q6->QQ->Prop}
  (hi:wpAny (Qx prog w) A.in1.in1 (Builtin.«set.__init__» ⟨[.ref s.heap.objs.size,l],[]⟩)
   (fun fin s'=>match fin with
    |.done f=>wants (fun r s2=>r=.none/\Q (.ref s.heap.objs.size) s2) E (.ok f) s'
    |.again c'=>c'.quiet=true/\codeAny (Qx prog w) A.in1 c' (wants (fun r s2=>r=.none/\Q (.ref s.heap.objs.size) s2) E) s')
   (fun e s'=>wants (fun r s2=>r=.none/\Q (.ref s.heap.objs.size) s2) E (.error e) s') { s with heap:=s.heap.push (bF w) }) :
  wpAny (Qx prog w) A (call (.type "set") [l]) Q E s:=by
 have f:=PySem.F.called_set;obtain⟨c,tl,m0⟩:=f.mro;have m1:=f.made;have m2:=f.sub;have m3:=f.notType;have m4:=f.canCreate;have m5:=PySem.F.typeCall_set_1 l;refine wpAny_call (codeAny_of_tree (Q8 ⟨Code.quiet_builtin _ (by decide +kernel),codeAny_builtin PySem.F.entry_type_call ?_⟩));rw[Around.under_plain (weight_type_call_type "set" [l] []) rfl];repeat (any_goals (first|assumption|wp_step))
 refine codeAny_mono (BO l (E:=E) (Q1:=fun v s1=>v=.ref s.heap.objs.size/\s1={ s with heap:=s.heap.push (bF w) }) ⟨rfl,rfl⟩) fun r s1 hr=>?_;rcases r with e|fl
 ·exact hr
 ·cases fl with
  |ret v=>
   obtain⟨rfl,rfl⟩:=hr;have hT:Shared.TypeIs { s with heap:=s.heap.push (bF w) } (.ref s.heap.objs.size) "set":=⟨_,QV _ rfl,rfl⟩;have m6:=f.init.lookup;have m7:=f.init.bind (.ref s.heap.objs.size);repeat (any_goals (first|assumption|wp_step))
   refine codeAny_mono (codeAny_call_builtin f.init.plain PySem.F.entry_set_init (check_set_init_1 hT hi)) fun r2 s2 hr2=>?_;rcases r2 with e|fl2
   ·exact hr2
   ·cases fl2 with
    |ret r=>
     obtain⟨rfl,hq⟩:=hr2;repeat (any_goals (first|assumption|wp_step))
    |_=>exact hr2.elim
  |_=>exact hr.elim
theorem qB{R:Result->QQ->Prop}{I Sa:Addr}{fp wr:List Addr}{G:Array GenState->Array GenState->Prop}{n:Nat}{P:Nat->Q6->Prop}{St:Nat->QQ->Prop}(W:WalksS prog w A.in1 I fp wr G n P St)(hSf:Sa∉fp)(hu:A.in1.units<cLine){h0:Heap}(hwr:∀b∈wr,h0.objs.size<=b)(hSa:h0.objs.size<=Sa)
  (val:Nat->Int×Int) (hval:∀i v,P i v->bE h0 v (val i)) (hb:n<=1200) :
  ∀(k i:Nat) (s:QQ),n-i=k->i<=n->St i s->(∀b o,h0.get? b=some o->s.heap.get? b=some o)->
   (∃es ep t ps,gf prog w s.heap Sa es ep t ps/\(∀e∈es.toList,∃j,P j e.2)/\es.size<=i/\∀y,y∈ps↔∃j,j<i/\val j=y)->
   (∀s',Moved (Sa::wr) G s s'->(∃es ep t ps,gf prog w s'.heap Sa es ep t ps/\(∀e∈es.toList,∃j,P j e.2)/\es.size<=n/\∀y,y∈ps↔∃j,j<n/\val j=y)->R (.ok (.ret .none)) s')->
   codeAny (Qx prog w) A (.builtin "set.update.loop" ⟨[.ref Sa,.ref I],[]⟩) R s:=by
 have sub:∀b∈wr,b∈Sa::wr:=fun b hb=>QU _ hb;have hSw:Sa∉wr:=fun h=>hSf (W.sub _ h);have moveS:∀{s s':QQ} {es ep t ps},Moved wr G s s'->(∀e∈es.toList,∃j,P j e.2)->gf prog w s.heap Sa es ep t ps->gf prog w s'.heap Sa es ep t ps:=fun{s s' es ep t ps} hm old S=>by
  obtain⟨⟨o,g,ex,d⟩,r1,r2,r3,r4,r5,r6⟩:=S;refine⟨⟨o,hm.heap _ _ hSw g,ex,d⟩,r1,r2.keep fun b o hb=>hm.heap b o fun z=>?_,r3,r4,r5,r6⟩;obtain⟨e,he,e2⟩:=hb;obtain⟨j,pj⟩:=old e he;obtain⟨b',o',_,_,_,e3,g',_⟩:=hval j _ pj;rw[e2]at e3;injection e3 with e3;exact absurd (QK g') (by rw[<-e3];exact Nat.not_lt.mpr (hwr b z))
 intro k;induction k with
 |zero=>
  intro i s hk hi hst old hS hR;obtain rfl:i=n:=by omega
  refine codeAny_builtin PyProof.Rows.F.entry_set_update_loop ?_;rw[Around.under_plainId PyProof.Rows.F.plain_set_update_loop _];change wpAny _ A.in1 (pyNext (.ref I) >>= _) _ _ s;refine Q2 (W.done s _ _ hst fun s' hm=>Q8 (hR s' (hm.mono sub) ?_));obtain⟨es,ep,t,ps,S,oe,r⟩:=hS;exact⟨es,ep,t,ps,moveS hm oe S,oe,r⟩
 |succ k ih=>
  intro i s hk hi hst old hS hR;refine codeAny_builtin PyProof.Rows.F.entry_set_update_loop ?_;rw[Around.under_plainId PyProof.Rows.F.plain_set_update_loop _];change wpAny _ A.in1 (pyNext (.ref I) >>= _) _ _ s;refine Q2 (W.item i s _ _ (by omega) hst fun v s' hP hst' hm=>?_);obtain⟨es,ep,t,ps,S,oe,sz,mem⟩:=hS;have S1:=moveS hm oe S;have old1:∀b o,h0.get? b=some o->s'.heap.get? b=some o:=fun b o g=>hm.heap b o (fun z=>absurd (QK g) (Nat.not_lt.mpr (hwr b z))) (old b o g);obtain⟨b,o,t1,t2,e,rfl,g,c,d⟩:=hval i v hP;have hx:bE s'.heap (.ref b) (val i):=⟨b,o,t1,t2,e,rfl,old1 b o g,c,d⟩;change wpAny _ A.in1 (holding [Value.ref b] (setAdd Sa (.ref b)) >>= _) _ _ s';refine Q2 (wpAny_holding (BP S1 hu hx (by omega) fun h' tk es' ep' t' ps' bb keep S2 mem2 sz2 oe2 htk=>?_));refine Q8 ⟨plainId_quiet PyProof.Rows.F.plain_set_update_loop _,ih (i+1) _ (by omega) (by omega) (W.frame _ s' _ _ hst' htk fun b hb o g=>keep b o (fun z=>hSf (z▸hb)) g) (fun b o g=>keep b o (fun z=>absurd (QK g) (by rw[z];exact Nat.not_lt.mpr hSa)) (old1 b o g)) ⟨es',ep',t',ps',S2,fun e he=>(oe2 e he).elim (oe e) fun z=>⟨i,by rw[z];exact hP⟩,by omega,fun y=>?_⟩ fun s'' hm'' hS''=>?_⟩
  ·rw[mem2,mem];constructor
   ·rintro(⟨j,hj,e⟩|e)
    ·exact⟨j,by omega,e⟩
    ·exact⟨i,by omega,e.symm⟩
   ·rintro⟨j,hj,e⟩;rcases Zu j i with c|c
    ·exact .inl ⟨j,c,e⟩
    ·exact .inr (by rw[<-e,show j=i by omega])
  ·exact hR s'' (Moved.trans W.gtrans ((hm.mono sub).then_heap htk fun b o hb g=>keep b o (fun z=>hb (by rw[z];exact QY)) g) hm'') hS''
theorem rL{h:Heap}{a:Addr}(g:h.get? a=some (bF w)):gf prog w h a #[] 0 (.fresh 0 0 (!w.params.followText "set-order")) []:=
 ⟨⟨_,g,⟨rfl,rfl,rfl⟩,rfl⟩,⟨rfl,List.Pairwise.nil,FZ,rfl,fun i j e g=>by simp[SetTable.fresh]at g⟩,trivial,Zm,rfl,rfl,.inl ⟨rfl,by decide⟩⟩
theorem mO{l:Addr}{vs:List Q6}{ps0:List (Int×Int)}{Q:Q6->QQ->Prop}(hh:A.handled=none)(hu:A.units+64<cLine)(hl:s.heap.IsList l vs.toArray)(hp:c0 s.heap vs ps0)(hn:vs.length<=1200)
  (q:∀h' tk es ep t ps,gf prog w h' s.heap.objs.size es ep t ps->(∀e∈es.toList,∃j:Nat,vs[j]?=some e.2)->es.size<=1200->(∀y,y∈ps↔y∈ps0)->(∀b o,s.heap.get? b=some o->h'.get? b=some o)->Q (.ref s.heap.objs.size) { s with heap:=h',toks:=tk }) :
  wpAny (Qx prog w) A (call (.type "set") [.ref l]) Q E s:=by
 refine gQ ?_;have gS:(s.heap.push (bF w)).get? s.heap.objs.size=some (bF w):=QV _ rfl;have hl1:(s.heap.push (bF w)).IsList l vs.toArray:=hl.push _;obtain⟨ol,gl,cl,nl,dl⟩:=hl;obtain⟨ocl,odi,oda,osl⟩:=ol;dsimp only at cl dl;subst cl;subst dl;have gl':(s.heap.push (bF w)).get? l=some { cls:=.type "list",dict:=odi,data:=.seq vs.toArray nl,slots:=osl }:=Q4 _ gl;have x1:=PySem.F.sub_list_set;have x2:=PySem.F.sub_list_frozenset;have x3:(Value.type "list" == Value.type "dict")=false:=by decide
 have lS:l<s.heap.objs.size:=QK gl;unfold Builtin.«set.__init__» noKeywords Builtin.Frozenset.updateFrom;generalize hq:pyIter=PI
 wp_walk
 subst hq;refine wpAny_pyIter_list hl1 (Q2 (wpAny_runValue ?_));have sz1:(s.heap.push (bF w)).objs.size=s.heap.objs.size+1:=ZI ..;have W:=(Walks.list (prog:=prog) (w:=w) (A:=A.in1.in1.in1) hh (s.heap.push (bF w)).objs.size l (by rw[sz1];exact Qj (Zj lS)) vs.toArray).toS;have hv:∀(i:Nat) (v:Q6),vs.toArray[i]?=some v->bE s.heap v (ps0.getD i (0,0)):=fun i v g=>by
  rw[Zh]at g;have:=(Q9.mp g).1;have hpg:=dS hp (i:=i) (by rw[<-cG hp];exact this);rw[QX,g]at hpg;exact hpg
 refine qB W (Sa:=s.heap.objs.size) (by rw[sz1];simp;exact Nat.ne_of_gt lS) (by show A.units+1+1+1<cLine;omega) (h0:=s.heap) (fun b hb=>by rw[sz1]at hb;simp at hb;rw[hb];exact Nat.le_succ _) (QJ _) (fun i=>ps0.getD i (0,0)) hv (by simpa using hn) (vs.toArray.size-0) 0 _ (by omega) (ZN _) ⟨⟨_,QV _ rfl,rfl,rfl⟩,hl1.push _⟩ (fun b o g=>Q4 _ (Q4 _ g)) ⟨#[],0,_,[],rL (Q4 _ gS),fun e he=>by simp at he,QJ _,fun y=>Iff.intro (fun z=>by simp at z) (fun z=>by obtain⟨j,hj,_⟩:=z;omega)⟩ fun s' hm hS=>?_;obtain⟨es,ep,t,ps,S,oe,sz,mem⟩:=hS;obtain⟨h',g',d',tk',os'⟩:=s';have eg:g'=s.gens:=hm.gens;have ed:d'=s.drawn:=hm.drawn;have eo:os'=s.os:=hm.os;subst eg;subst ed;subst eo;refine Q8 (Q8 ⟨rfl,?_⟩);refine q h' tk' es ep t ps S (fun e he=>by obtain⟨j,hj⟩:=oe e he;exact⟨j,by rw[Zh]at hj;exact hj⟩) (by simp at sz;omega) (fun y=>?_) fun b o g=>?_
 ·rw[mem];have e:=cG hp;constructor
  ·rintro⟨j,hj,rfl⟩;have hj':j<ps0.length:=by simp at hj;omega
   rw[QX,Q7 hj'];exact ZK hj'
  ·intro hy;obtain⟨j,hj,rfl⟩:=List.getElem_of_mem hy;refine⟨j,by simp;omega,?_⟩;rw[QX,Q7 hj];rfl
 ·have lt:=QK g;refine hm.heap b o ?_ (Q4 _ (Q4 _ g));rw[sz1];simp;exact⟨Qj lt,Qj (Zj lt)⟩
end
theorem iP:Slot "set_iterator" "__next__" "set_iterator.__next__":=.of (owner:="set_iterator") (n:="__next__") (by rw[typeLookup_type,builtinLookup_eq_fast];kernel_rfl) (by decide +kernel) (by decide +kernel) (by decide +kernel) (by first|exact .inl (by decide +kernel)|exact .inr (by decide +kernel)) (by rw[isSubtype_type];kernel_rfl)
theorem wL:entryFor table "set_iterator.__next__"=some Builtin.«set_iterator.__next__»:=entryFor_of_tree (by kernel_rfl)
theorem zE:entryFor table "set.__iter__"=some Builtin.«frozenset.__iter__»:=entryFor_alias (id':="frozenset.__iter__") (by kernel_rfl) rfl (by decide +kernel) (by kernel_rfl)
theorem uQ:Slot "set_iterator" "__iter__" "set_iterator.__iter__":=.of (owner:="set_iterator") (n:="__iter__") (by rw[typeLookup_type,builtinLookup_eq_fast];kernel_rfl) (by decide +kernel) (by decide +kernel) (by decide +kernel) (by first|exact .inl (by decide +kernel)|exact .inr (by decide +kernel)) (by rw[isSubtype_type];kernel_rfl)
theorem C0:entryFor table "set_iterator.__iter__"=some Builtin.«dict_keyiterator.__iter__»:=entryFor_alias (id':="dict_keyiterator.__iter__") (by kernel_rfl) rfl (by decide +kernel) (by kernel_rfl)
theorem xD(a:Q6):argsOk "set_iterator.__next__" ⟨[a],[]⟩:=by
 unfold argsOk;rw[signature?_of (id:="set_iterator.__next__") (n:="__txen__".toList) (o:="rotareti_tes".toList) (rows:=Manifest.sig_set_iterator) (by kernel_rfl) (by kernel_rfl)]
 kernel_rfl
theorem Dc(a:Q6):argsOk "set_iterator.__iter__" ⟨[a],[]⟩:=by
 unfold argsOk;rw[signature?_of (id:="set_iterator.__iter__") (n:="__reti__".toList) (o:="rotareti_tes".toList) (rows:=Manifest.sig_set_iterator) (by kernel_rfl) (by kernel_rfl)]
 kernel_rfl
theorem wK{α:Type}:∀{l:List α} {k:Nat} (h:k<l.length),(l[k]::l.eraseIdx k).Perm l
 |x::r,0,_=>List.Perm.refl _
 |x::r,k+1,h=>(List.Perm.swap x _ _).trans ((wK (l:=r) (k:=k) (by simpa using h)).cons x)
theorem vx{α:Type}{nx:Nat->Nat}:∀(f k:Nat) (l:List α) (out:Array α),f=l.length->(pickOrder.go nx f k l out).toList.Perm (out.toList++l)
 |0,k,l,out,h=>by
  rw[List.eq_nil_of_length_eq_zero h.symm,Qd];exact .refl _
 |f+1,k,l,out,h=>by
  unfold pickOrder.go;have hlt:nx k % l.length<l.length:=Nat.mod_lt _ (by omega);rw[Q7 hlt];dsimp only;refine(vx f (k+1) _ _ (by rw[List.length_eraseIdx,if_pos hlt];omega)).trans ?_;rw[Array.toList_push,QB];exact List.Perm.append_left _ (wK hlt)
theorem vw{α:Type}{nx:Nat->Nat}(xs:Array α):(pickOrder nx xs).toList.Perm xs.toList:=by
 unfold pickOrder;have:=vx (nx:=nx) xs.size 0 xs.toList #[] (by simp);simpa using this
def za(w:Qm)(a:Addr)(ep:Nat)(es:Array (Int×Q6)):Array (Int×Q6):=if w.params.followText "set-order" then pickOrder (w.params.setOrder a ep) es else es
theorem iD{w:Qm}{a:Addr}{ep:Nat}{es:Array (Int×Q6)}:(za w a ep es).toList.Perm es.toList:=by
 unfold za;split
 ·exact vw es
 ·exact .refl _
theorem mD{xs:Array Nat}(h:Rs xs.toList):SetTable.below xs 0=0:=by
 obtain⟨p,e,h1,h2,h3⟩:=jR h 0;rw[e];cases p with
 |zero=>rfl
 |succ p=>have:=h2 0 (by omega);omega
theorem tK{xs:Array Nat}(h:Rs xs.toList){i j:Nat}(g:xs[i]?=some j):SetTable.below xs (j+1)=i+1:=by
 obtain⟨p,e,h1,h2,h3⟩:=jR h (j+1);have hi:i<xs.size:=(Zg.mp g).1;have gi:∀d,xs.getD i d=j:=fun d=>by simp[X4,hi];rw[QH hi]at g;injection g
 rw[e];rcases Nat.lt_trichotomy p (i+1)with c|c|c
 ·have:=h3 i (by omega) hi;rw[gi]at this;omega
 ·exact c
 ·have a1:=h2 (i+1) c;have a2:=h.lt (d:=j+1) (show i<i+1 by omega) (show i+1<xs.size by omega);rw[gi]at a2;omega
structure zY(w:Qm)(o:Obj)(es:Array (Int×Q6))(ep:Nat)(t:SetTable):Prop where
 ex:o.ExactSet
 dt:o.data=.set es ep t
 tab:Tab t es.toList
 pl:t.plain=true
 ld:t.led=!w.params.followText "set-order"
 lv:Lv t.mask es.size
theorem gf.so{prog:Qu}{w:Qm}{h:Heap}{a:Addr}{es:Array (Int×Q6)}{ep:Nat}{t:SetTable}{ps:List (Int×Int)}(S:gf prog w h a es ep t ps):∃o,h.get? a=some o/\zY w o es ep t:=let ⟨o,g,ex,d⟩:=S.ob;⟨o,g,ex,d,S.tab,S.pl,S.ld,S.lv⟩
theorem zY.fits{w:Qm}{o:Obj}{es:Array (Int×Q6)}{ep:Nat}{t:SetTable}(S:zY w o es ep t):t.fits es.size=true:=by
 have h1:=S.lv.le;have h2:=S.tab.sz;have h3:=S.tab.dm;unfold SetTable.fits SetTable.fill;rw[h3];simp only[QF]at h2;simp[h2];omega
section
variable{prog:Qu}{w:Qm}{A:Z9}{E:Q6->QQ->Prop}{s:QQ}{a:Addr}{es:Array (Int×Q6)}{ep:Nat}{t:SetTable}{o:Obj}
theorem qk{Q:Bool->QQ->Prop}(q:Q (w.params.followText "set-order") s):wpAny (Qx prog w) A setsByText Q E s:=by
 unfold setsByText;exact Q2 (wpAny_askSetting (Q8 q))
def SIt(w:Qm)(h:Heap)(it a:Addr)(i n ep:Nat)(t:SetTable):Prop:=∃o sl,h.get? it=some o/\o.cls=.type "set_iterator"/\o.data=.fields #[rawInt (sl:Nat),rawInt (i:Nat),.ref a,rawInt (n:Nat),rawInt (ep:Nat)]/\(w.params.followText "set-order"=false->SetTable.below t.place sl=i)
theorem SIt.ty{it:Addr}{i n:Nat}(h:SIt w s.heap it a i n ep t):s.TypeIs (.ref it) "set_iterator":=let ⟨o,_,g,c,_⟩:=h;⟨o,g,c⟩
theorem BK(ho:s.heap.get? a=some o)(S:zY w o es ep t){Q:Q6->QQ->Prop}(q:∀o,SIt w (s.heap.push o) s.heap.objs.size a 0 es.size ep t->o={ cls:=.type "set_iterator",data:=.fields #[rawInt 0,rawInt 0,.ref a,rawInt (es.size:Nat),rawInt (ep:Nat)] }->Q (.ref s.heap.objs.size) { s with heap:=s.heap.push o }):wpAny (Qx prog w) A (pyIter (.ref a)) Q E s:=by
 have hd:=S.dt;have hex:=S.ex;have T:s.TypeIs (.ref a) "set":=⟨o,ho,hex.1⟩;refine wpAny_pyIter_slot T PySem.F.slot_set_iter (wpAny_call_entry PySem.F.slot_set_iter T zE ?_ (PySem.F.args_set_iter_1 _));unfold Builtin.«frozenset.__iter__» Builtin.Frozenset.slot0 slotArgs;refine Q2 (Q2 (Q8 (Q8 ?_)));unfold Builtin.Frozenset.sizeOf;refine Q2 (Q2 (wpAny_setEntries_of ho hd S.fits (Q8 ?_)));unfold setDrawn;refine Q2 (Q2 (wpAny_setState_of ho hd S.fits (Q2 (qk (Q8 ?_)))));refine wpAny_ite_split (fun c=>?_) fun _=>?_
 ·have c':(!w.params.followText "set-order"&&(!t.plain&&decide (es.size>1)))=true:=c;rw[S.pl]at c';simp at c'
 refine Q2 (Q8 (Q2 (wpAny_setEpoch_of ho hd S.fits ?_)));refine Q2 (wpAny_newObj_type (Q8 ⟨_,rfl,"set_iterator",_,⟨_,QV _ rfl,rfl⟩,iP.lookup,q _ ⟨_,0,QV _ rfl,rfl,rfl,fun _=>mD S.tab.rs⟩ rfl⟩))
theorem SIt.at_{h h':Heap}{it:Addr}{i n:Nat}(x:SIt w h it a i n ep t)(e:∀o,h.get? it=some o->h'.get? it=some o):SIt w h' it a i n ep t:=let ⟨o,sl,g,r⟩:=x;⟨o,sl,e o g,r⟩
theorem qJ{it:Addr}{i sl:Nat}(ho:s.heap.get? a=some o)(S:zY w o es ep t)(hsl:w.params.followText "set-order"=false->SetTable.below t.place sl=i){Q:Option (Q6×Nat)->QQ->Prop}
  (q1:∀e,(za w a ep es)[i]?=some e->∀sl',(w.params.followText "set-order"=false->SetTable.below t.place sl'=i+1)->Q (some (e.2,sl')) s) (q2:(za w a ep es)[i]?=none->Q none s):wpAny (Qx prog w) A (setNext a sl i ep) Q E s:=by
 have hd:=S.dt;have hex:=S.ex;unfold setNext;refine Q2 (wpAny_setState_of ho hd S.fits ?_);dsimp only;refine Q2 (qk ?_);unfold za at q1 q2;cases hb:w.params.followText "set-order" with
 |true=>
  rw[hb]at q1 q2;simp only[if_true]at q1 q2 ⊢;rw[if_neg (by simp)];unfold setWalk;refine Q2 (Q2 (wpAny_setState_of ho hd S.fits ?_));dsimp only;refine Q2 (qk ?_);rw[hb];simp only[if_true];refine Q2 (wpAny_askSetting (Q8 (Q8 ?_)));show Q ((pickOrder (w.params.setOrder a ep) es)[i]?.map fun e=>(e.2,sl)) s;cases hg:(pickOrder (w.params.setOrder a ep) es)[i]? with
  |none=>exact q2 hg
  |some e=>exact q1 e hg sl (fun z=>by cases z)
 |false=>
  rw[hb]at q1 q2;simp only[Qc,if_false]at q1 q2 ⊢;refine wpAny_ite_split (fun c=>?_) fun _=>?_
  ·have c':(!t.plain&&decide (es.size>1))=true:=c;rw[S.pl]at c';simp at c'
  refine Q2 ?_;have hl:t.led=true:=by rw[S.ld,hb];rfl
  show wpAny _ _ (if (!t.led&&!es.isEmpty)=true then unsupported "set:maker-not-led" else pure ()) _ _ _;rw[hl];simp only[Bool.not_true,Qg,Qc,if_false];refine Q8 (Q8 ?_);rw[hsl hb];have sz:=S.tab.sz;simp only[QF]at sz;by_cases c:i<es.size
  ·have c2:i<t.place.size:=by omega
   rw[QH c,QH c2];exact q1 _ (QH c) _ fun _=>tK S.tab.rs (QH c2)
  ·have h0:es[i]?=none:=Array.getElem?_eq_none (by omega);rw[h0];exact q2 h0
theorem BL{it:Addr}{i:Nat}(ho:s.heap.get? a=some o)(S:zY w o es ep t)(I:SIt w s.heap it a i es.size ep t)(hi:i<es.size){Q:Option Q6->QQ->Prop}
  (q:∀e h',(za w a ep es)[i]?=some e->SIt w h' it a (i+1) es.size ep t->Heap.SameBut it s.heap h'->Q (some e.2) { s with heap:=h' }):wpAny (Qx prog w) A (pyNext (.ref it)) Q E s:=by
 have T:=I.ty;obtain⟨io,sl,hio,ic,id',hsl⟩:=I;have hd:=S.dt;have hex:=S.ex;unfold pyNext;refine Q2 (wpAny_attempt (wpAny_callSpecial?_slot (name:=Str.ofString "__next__") T iP (wpAny_call_entry iP T wL ?_ (xD _))));unfold Builtin.«set_iterator.__next__» slotArgs;refine Q2 (Q8 (Q2 (wpAny_fieldsOf hio id' ?_)));show wpAny _ _ (setEntries a >>= _) _ _ s;refine Q2 (wpAny_setEntries_of ho hd S.fits ?_);rw[if_neg (by simp)];show wpAny _ _ (setNext a (sl:Int).toNat (i:Int).toNat (ep:Int).toNat >>= _) _ _ s;simp only[Zv];refine Q2 (qJ (it:=it) ho S hsl (fun e he sl' hsl'=>?_) fun hn=>?_)
 ·dsimp only;refine Q2 (wpAny_setField hio id' (by simp) ?_);have g1:=Zx (Obj.mapFields (·.setIfInBounds 0 (rawInt (sl':Nat)))) hio (Obj.isFreed_of_fields (Obj.data_mapFields id' _));have d1:=Obj.data_mapFields id' (·.setIfInBounds 0 (rawInt (sl':Nat)));refine Q2 (wpAny_setField (s:={ s with heap:=s.heap.update it (Obj.mapFields (·.setIfInBounds 0 (rawInt (sl':Nat)))) }) g1 d1 (by simp) ?_);have g2:=Zx (Obj.mapFields (·.setIfInBounds 1 (rawInt ((i:Int)+1)))) g1 (Obj.isFreed_of_fields (Obj.data_mapFields d1 _));have d2:=Obj.data_mapFields d1 (·.setIfInBounds 1 (rawInt ((i:Int)+1)));have I2:SIt w ((s.heap.update it (Obj.mapFields (·.setIfInBounds 0 (rawInt (sl':Nat))))).update it (Obj.mapFields (·.setIfInBounds 1 (rawInt ((i:Int)+1))))) it a (i+1) es.size ep t:=by
   refine⟨_,sl',g2,((Obj.cls_mapFields ..).trans (Obj.cls_mapFields ..)).trans ic,?_,hsl'⟩;rw[d2];simp
  exact Q8 ⟨_,rfl,Q8 (q e _ he I2 ((Heap.SameBut.update ..).trans (Heap.SameBut.update ..)))⟩
 ·have:=(iD (w:=w) (a:=a) (ep:=ep) (es:=es)).length_eq;simp only[QF]at this;have:=Array.getElem?_eq_none_iff.mp hn;omega
theorem Eu{it:Addr}(hh:A.handled=none)(ho:s.heap.get? a=some o)(S:zY w o es ep t)(I:SIt w s.heap it a es.size es.size ep t){Q:Option Q6->QQ->Prop}
  (q:∀h',Heap.ExtBut it s.heap h'->Q none { s with heap:=h' }):wpAny (Qx prog w) A (pyNext (.ref it)) Q E s:=by
 have T:=I.ty;obtain⟨io,sl,hio,ic,id',hsl⟩:=I;have hd:=S.dt;have hex:=S.ex;unfold pyNext;refine Q2 (wpAny_attempt (wpAny_callSpecial?_slot (name:=Str.ofString "__next__") T iP (wpAny_call_entry iP T wL ?_ (xD _))));unfold Builtin.«set_iterator.__next__» slotArgs;refine Q2 (Q8 (Q2 (wpAny_fieldsOf hio id' ?_)));show wpAny _ _ (setEntries a >>= _) _ _ s;refine Q2 (wpAny_setEntries_of ho hd S.fits ?_);rw[if_neg (by simp)];show wpAny _ _ (setNext a (sl:Int).toNat (es.size:Int).toNat (ep:Int).toNat >>= _) _ _ s;simp only[Zv];refine Q2 (qJ (it:=it) ho S hsl (fun e he sl' hsl'=>?_) fun hn=>?_)
 ·have:=(iD (w:=w) (a:=a) (ep:=ep) (es:=es)).length_eq;simp only[QF]at this;have:=(Zg.mp he).1;omega
 ·dsimp only;refine Q2 (wpAny_setField hio id' (by simp) (Q2 ?_));unfold newExc newTuple;refine Q2 (wpAny_newObj_type ?_ (by size_fits));refine Q2 (m:=firstArgMember _ _) (wpAny_of_eq (a:=Value.none) (by first|rfl|(simp only[firstArgMember];rfl)) (wpAny_newObj_type ?_ (by size_fits)));unfold raiseNew;refine Q2 (wpAny_handled ?_);rw[show A.in1.handled=none from hh];refine Q2 (Q8 (wpAny_throw ?_));refine Q2 (wpAny_isInstance (T:="StopIteration") (b:=true) ⟨_,QV _ rfl,rfl⟩ isSubtype_stop ?_);exact Q8 (q _ (((Heap.SameBut.update ..).extBut.push _).push _))
theorem BJ{it:Addr}{i n:Nat}{Q:Q6->QQ->Prop}(I:SIt w s.heap it a i n ep t)(q:Q (.ref it) s):wpAny (Qx prog w) A (pyIter (.ref it)) Q E s:=by
 refine wpAny_pyIter_slot I.ty uQ (wpAny_call_entry uQ I.ty C0 ?_ (Dc _));show wpAny _ _ (ret (Value.ref it)) _ _ s;exact Q8 ⟨_,rfl,"set_iterator",_,I.ty,iP.lookup,q⟩
theorem zv(T:s.TypeIs (.ref a) "set"){Q:Bool->QQ->Prop}(q:Q false s):wpAny (Qx prog w) A (Builtin.List.listLengthHint (.ref a)) Q E s:=by
 unfold Builtin.List.listLengthHint;refine Q2 (wpAny_specialOf T PySem.F.slot_set_len.lookup ?_);generalize hid:("set.__len__":String)=id0
 wp_delta
 rw[show splitId id0=some ("set","__len__")by subst hid;decide +kernel];subst hid;refine Q2 (wpAny_isInstance (T:="set") (b:=true) T sub_set_self ?_);refine wpAny_ite_split (fun c=>absurd c (by decide)) fun _=>wpAny_ite_split (fun _=>Q2 (wpAny_typeOf T (Q8 q))) fun c=>absurd (by decide +kernel) c
theorem BN(S:zY w o es ep t):KdlSrc prog w "set" a a es.size (fun i v=>∃e,(za w a ep es)[i]?=some e/\v=e.2) (fun h=>h.get? a=some o) where
 type:=fun s g=>⟨o,g,S.ex.1⟩
 there:=fun h g=>⟨QK g,QK g⟩
 keep:=fun h h' g m=>m a (.inl rfl) o g
 notList:=by decide
 notTuple:=by decide
 hint:=fun A E s Q g q=>zv ⟨o,g,S.ex.1⟩ q
 iter:=fun A s hh g=>by
  refine⟨{ cls:=.type "set_iterator",data:=.fields #[rawInt 0,rawInt 0,.ref a,rawInt (es.size:Nat),rawInt (ep:Nat)] },fun i h=>SIt w h s.heap.objs.size a i es.size ep t/\h.get? a=some o,fun E Q q=>BK g S fun o' _ e=>by rw[e];exact q,?_,⟨⟨_,0,QV _ rfl,rfl,rfl,fun _=>mD S.tab.rs⟩,Q4 _ g⟩⟩;have ne:a≠s.heap.objs.size:=Qj (QK g);refine⟨fun b hb=>by simp at hb;simp[hb],fun i h h' st m=>⟨st.1.at_ fun o1 g1=>m _ (by simp) o1 g1,m _ (by simp) o st.2⟩,fun i s' Q E hi st k=>?_,fun s' Q E st k=>?_,fun i s' Q E st q=>BJ st.1 q⟩
  ·refine BL st.2 S st.1 hi fun e h' he I' sb=>k _ h' _ ⟨e,he,rfl⟩ ⟨I',?_⟩ fun b o' hb g'=>?_
   ·rw[sb.2 a ne];exact st.2
   ·rw[sb.2 b (by simpa using hb)];exact g'
  ·exact Eu hh st.2 S st.1 fun h' eb=>k h' _ fun b o' hb g'=>eb b o' (by simpa using hb) g'
end
theorem nC:Z7 "set"=some (.type "set"):=rfl
theorem yX{h:Heap}{v:Q6}{p q:Int×Int}(hp:bE h v p)(hq:bE h v q):p=q:=by
 obtain⟨b,o,t1,t2,e,hx,g1,_,d1⟩:=hp;obtain⟨b',o',t1',t2',e',hx',g1',_,d1'⟩:=hq;rw[hx]at hx';cases hx';rw[g1]at g1';cases g1';rw[d1]at d1';injection d1' with d2 _;have d3:=congrArg Array.toList d2;simp only[List.cons.injEq,Value.int.injEq]at d3;exact Prod.ext d3.1.1 d3.2.1.1
theorem kC:∀{ys:List V} {vs:List Q6} {j:Nat} {y:V} {v:Q6},bh ys vs->ys[j]?=some y->vs[j]?=some v->bX y v
 |_,_,0,y,v,.cons r _,h1,h2=>by simp at h1 h2;subst h1;subst h2;exact r
 |_,_,j+1,y,v,.cons _ t,h1,h2=>kC t (by simpa using h1) (by simpa using h2)
 |_,_,j,y,v,.nil,h1,_=>by simp at h1
def Aj(w:Qm)(a:Addr)(es:Array (Int×Q6))(ep:Nat)(t:SetTable):HO:=.ext fun h=>∃o,h.get? a=some o/\zY w o es ep t
section
variable{K:Q5}{H:Hp}
theorem vt{ys:List V}{ps:List (Int×Int)}{k:Nat}{v:V}:PrL K H ys ps->ys[k]?=some v->∃p a,ps[k]?=some p/\v=.ref a/\SqT K H a [.int p.1,.int p.2]:=fun h g=>by
 induction ys generalizing ps k with
 |nil=>simp at g
 |cons y ys ih=>
  cases ps with
  |nil=>exact h.elim
  |cons p ps=>
   cases k with
   |zero=>
    simp at g;subst g;obtain⟨a,e,sq⟩:=h.1;exact⟨p,a,rfl,e,sq⟩
   |succ k=>simpa using ih h.2 (by simpa using g)
theorem pM{prog:Qu}{w:Qm}{h:Heap}:∀{es:List (Int×Q6)} {ps:List (Int×Int)},Els prog w h es ps->(∀e∈es,∃p a,e.2=.ref a/\SqT K H a [.int p.1,.int p.2]/\bE h e.2 p)->∃zs,bh zs (es.map (·.2))/\PrL K H zs ps
 |[],[],_,_=>⟨[],.nil,trivial⟩
 |e::es,p::ps,k,m=>by
  obtain⟨zs,h1,h2⟩:=pM k.2 fun x hx=>m x (QU _ hx);obtain⟨q,a,e1,sq,pa⟩:=m e QY;have:=yX k.1.2 pa;subst this;exact⟨.ref a::zs,.cons e1 h1,⟨a,rfl,sq⟩,h2⟩
 |[],_::_,k,_=>k.elim
 |_::_,[],k,_=>k.elim
theorem mX{H':Hp}(sm:tQ H H'):∀{zs:List V} {ps:List (Int×Int)},PrL K H zs ps->PrL K H' zs ps
 |[],[],_=>trivial
 |_::_,_::_,k=>by
  obtain⟨a,e,sq⟩:=k.1;refine⟨⟨a,e,?_⟩,mX sm k.2⟩;rcases sq with sq|sq
  ·rcases sq with sq|⟨o,sq⟩
   ·exact .inl (.inl (sm _ _ sq))
   ·exact .inl (.inr ⟨o,sm _ _ sq⟩)
  ·exact .inr sq
 |[],_::_,k=>k.elim
 |_::_,[],k=>k.elim
theorem yO{vs vs':List Q6}(P:vs'.Perm vs):∀{zs:List V} {ps:List (Int×Int)},bh zs vs->PrL K H zs ps->∃zs' ps',bh zs' vs'/\PrL K H zs' ps'/\ps'.Perm ps:=by
 induction P with
 |nil=>exact fun{zs ps} a b=>⟨zs,ps,a,b,.refl _⟩
 |cons x _ ih=>
  intro zs ps a b;cases a with
  |cons r a=>
   cases ps with
   |nil=>exact b.elim
   |cons p ps=>
    obtain⟨zs',ps',h1,h2,h3⟩:=ih a b.2;exact⟨_::zs',p::ps',.cons r h1,⟨b.1,h2⟩,h3.cons p⟩
 |swap x y l=>
  intro zs ps a b;cases a with
  |cons r1 a=>
   cases a with
   |cons r2 a=>
    match ps,b with
    |[],b=>exact b.elim
    |[p],b=>exact b.2.elim
    |p::q::ps,b=>exact⟨_::_::_,q::p::ps,.cons r2 (.cons r1 a),⟨b.2.1,b.1,b.2.2⟩,.swap _ _ _⟩
 |trans _ _ ih1 ih2=>
  intro zs ps a b;obtain⟨zs',ps',h1,h2,h3⟩:=ih2 a b;obtain⟨zs'',ps'',h4,h5,h6⟩:=ih1 h1 h2;exact⟨zs'',ps'',h4,h5,h6.trans h3⟩
end
def Ku(K:Q5)(w:Qm):List V->Hp->VK->Prop:=fun xs H Q=>∃(p:Addr) (ys:List V) (ps0:List (Int×Int)),xs=[.ref p]/\SqL K H p ys/\PrL K H ys ps0/\ps0.length<=1200/\
 ∀(l:Addr) (es:Array (Int×Q6)) (ep:Nat) (t:SetTable) (zs:List V) (ps:List (Int×Int)),H l=none->bh zs (es.toList.map (·.2))->PrL K H zs ps->ps.Nodup->(∀y,y∈ps↔y∈ps0)->ps.length<=1200->Q (.ref l) (upd H l (Aj w l es ep t))
theorem IH{X:Cx}(hc:X.calm=true)(hu:X.A.units+64<cLine):cS X (.type "set") (Ku X.K X.w):=by
 rintro pins s σ H xs us Q I r ⟨p,ys,ps0,rfl,hL,hp,hn,q⟩;obtain⟨u,rfl,ru⟩:=f6 r;cases ru;obtain⟨its,rv,pl,hz⟩:=I.list hL;have hlen:=kq hp;have hpa:=qY I hp rv;have li:its.length=ps0.length:=cG hpa;refine mO (show X.A.handled=none from I.ok.hd hc) hu pl.isList hpa (by omega) fun h' tk es ep t ps S oe sz mem old=>?_;obtain⟨zs,vz,pz⟩:=pM (K:=X.K) (H:=H) S.el fun e he=>by
  obtain⟨j,hj⟩:=oe e he;have hjl:=(Q9.mp hj).1;obtain⟨v,hv⟩:∃v,ys[j]?=some v:=⟨ys[j]'(by omega),Q7 _⟩;obtain⟨p',a,g1,e1,sq⟩:=vt hp hv;have rel:=kC rv hv hj;subst e1;have e2:e.2=.ref a:=rel;refine⟨p',a,e2,sq,?_⟩;have pg:=dS hpa (i:=j) (by omega);rw[QX,hj,QX,g1]at pg;obtain⟨b,o,t1,t2,n,x1,x2,x3⟩:=pg;exact⟨b,o,t1,t2,n,x1,old b o x2,x3⟩
 obtain⟨o,go,so⟩:=S.so;have hf:=I.hok.fresh (QJ s.heap.objs.size);have lp:ps.length<=1200:=by have:=S.el.len;simp only[QF]at this;omega
 exact⟨.ref s.heap.objs.size,_,I.laid (o:=Aj X.w s.heap.objs.size es ep t) (t':=tk) old (QJ _) ⟨⟨o,go,so⟩,⟨o,go⟩,fun h1 h2 ⟨o,g,so⟩ m=>⟨o,m o g,so⟩⟩,rfl,q _ es ep t zs ps hf vz pz S.nd mem lp⟩
theorem rZ{ps' ps ps0:List (Int×Int)}{q:Array Nat}(h:GO ps' q)(p1:ps'.Perm ps)(m:∀y,y∈ps↔y∈ps0):dR ps0=q.toList.map fun i=>ps'.getD i (0,0):=by
 have e:=xB h;have:∃L:List (Int×Int),L.Pairwise (fun a b=>ltP a b=true)/\∀x,x∈L↔x∈ps':=by
  refine⟨q.toList.map fun i=>ps'.getD i (0,0),?_,fun x=>?_⟩
  ·refine ZC.mpr (Zz.mpr fun i j hi hj hij=>?_);have hq:=h.1.sz;have:=h.2 i j hij (by simp at hj;omega);simpa [X4,show i<q.size by simpa using hi,show j<q.size by simpa using hj] using this
  ·constructor
   ·intro hx;obtain⟨i,hi,rfl⟩:=Qh.mp hx;have hl:=eS h.1 i hi;rw[QX,Q7 hl];exact ZK hl
   ·intro hx;obtain⟨i,hi,rfl⟩:=List.getElem_of_mem hx;have hp:q.toList.Perm (Qe ps'.length):=by
     refine(List.perm_ext_iff_of_nodup ?_ List.nodup_range).mpr fun a=>⟨fun ha=>Ql.mpr (eS h.1 a ha),fun ha=>?_⟩
     ·refine Zz.mpr fun a b ha hb hab=>?_;have hq:=h.1.sz;have:=h.1.ne' (i:=a) (j:=b) (by simp at ha;omega) (by simp at hb;omega) (by omega);simpa [X4,show a<q.size by simpa using ha,show b<q.size by simpa using hb] using this
     ·have nd:q.toList.Nodup:=by
       refine Zz.mpr fun a b ha hb hab=>?_;have hq:=h.1.sz;have:=h.1.ne' (i:=a) (j:=b) (by simp at ha;omega) (by simp at hb;omega) (by omega);simpa [X4,show a<q.size by simpa using ha,show b<q.size by simpa using hb] using this
      refine Classical.byContradiction fun no=>?_;have:=List.Nodup.length_le_of_subset (ZS.mpr ⟨no,nd⟩) (l₂:=Qe ps'.length) fun b hb=>by
       rcases QL.mp hb with rfl|hb
       ·exact ha
       ·exact Ql.mpr (eS h.1 b hb)
      rw[QD,Za,QF,h.1.sz]at this;omega
    refine Qh.mpr ⟨i,hp.mem_iff.mpr (Ql.mpr hi),?_⟩;rw[QX,Q7 hi];rfl
 obtain⟨L,l1,l2⟩:=this;have e1:=jG l1 l2;have e2:dR ps0=L:=jG l1 fun x=>(l2 x).trans ((p1.mem_iff).trans (m x));rw[e2,<-e1,e]
end OP
namespace OP
open PySem PySem.Spec PyProof PyProof.Rows L2 OG PySem.W HT
section
variable{prog:Qu}{w:Qm}{A:Z9}{E:Q6->QQ->Prop}{s:QQ}
theorem nu{t sl:Addr}{items:Array Q6}{vl vu:Q6}{lo hi:Option Int}{Q:Q6->QQ->Prop}(ht:IsTup s.heap t items)(hs:s.heap.IsSliceOf sl vl vu .none)(pl:IsPart vl lo)(pu:IsPart vu hi)
  (hw:sIx items.size 0 lo=0/\sIx items.size items.size hi=items.size) (h:Q (.ref t) s):wpAny (Qx prog w) A (getItem (.ref t) (.ref sl)) Q E s:=by
 obtain⟨os,hos,hcs,hds⟩:=id hs;have hT:s.TypeIs (.ref sl) "slice":=⟨os,hos,hcs⟩;unfold getItem;try with_reducible refine wpAny_holding ?_
 first|refine Q2 (Q8 ?_)|skip
 refine Q2 (wpAny_sequenceKey ht.typeIs (by decide) ?_);refine Q2 (wpAny_callSpecial?_slot (name:=Str.ofString "__getitem__") ht.typeIs PyProof.Rows.slot_tuple_getitem (wpAny_call_entry PyProof.Rows.slot_tuple_getitem ht.typeIs entry_tuple_getitem ?_ (args_tuple_getitem _ _)));show wpAny _ _ (Builtin.Tuple.tupleItemsOf (.ref t) >>= _) _ _ s;refine Q2 (tupleItemsOf_ ht (Q2 (wpAny_typeOf hT ?_)));rw[if_pos (by decide)];refine Q2 (fq hs pl pu ?_);rw[hw.1,hw.2,Nat.sub_zero];dsimp only;rw[if_pos (by simp)];unfold Builtin.Tuple.tupleIsExact;refine Q2 (Q2 (wpAny_typeOf ht.typeIs (Q8 ?_)));rw[if_pos (by decide)];exact Q2 (wpAny_rule (Q8 ⟨_,rfl,Q8 h⟩))
end
section
variable{X:Cx}
def Kr(K:Q5):V->Option Int->Option Int->Hp->VK->Prop:=fun x lo hi H Q=>∃a xs,x=.ref a/\SqT K H a xs/\(sIx xs.length 0 lo=0/\sIx xs.length xs.length hi=xs.length)/\Q (.ref a) H
theorem BI:SlR X (Kr X.K):=by
 intro pins s σ H x v vl vu lo hi sl Q I rx hs pl pu h;obtain⟨a,xs,rfl,hx,hw,q⟩:=h;cases rx;obtain⟨its,r,ht,hz⟩:=I.tuple hx;have hlen:its.toArray.size=xs.length:=by rw[QM];exact r.length.symm
 exact⟨"tuple",_,PyProof.Rows.slot_tuple_getitem.lookup,ht.typeIs,nu ht hs pl pu (by rw[hlen];exact hw) ⟨.ref a,H,I,rfl,q⟩⟩
def De(x:U)(lo hi:Option Int)(S:Sto):Option (U×Sto):=match x with
 |.tup us=>some (.tup (jM us lo hi),S)
 |.ref l=>match S[l]? with
  |some (.lst us)=>some (.ref S.length,S++[.lst (jM us lo hi)])
  |_=>none
 |_=>none
def kZ(ca:CE)(cl ch:Option CE):CE:=fun ρ S=>(ca ρ S).bind fun p=>(lQ cl ρ p.2).bind fun q=>(lQ ch ρ q.2).bind fun r=>De p.1 q.1 r.1 r.2
theorem ko{e:Qq}{lo hi:Option Qq}{ca:CE}{cl ch:Option CE}{pos p2:Pos}(ha:QE X e ca)(hl:QO X lo cl)(hh:QO X hi ch):QE X (.Subscript e (.Slice lo hi none p2) pos) (kZ ca cl ch):=(nJ (uP.or (Ai.or BI)) ha hl hh).imp fun σ H Q hz=>gN hz fun m ρ S u S' sr lr hc post=>by
 obtain⟨⟨x,S1⟩,h1,ha⟩:=Q0.mp hc;obtain⟨⟨l,S2⟩,h2,hb⟩:=Q0.mp ha;obtain⟨⟨k,S3⟩,h3,h⟩:=Q0.mp hb;clear ha hb hc;refine⟨m,ρ,S,x,S1,sr,lr,h1,fun m1 v1 H1 e1 sr1 i1=>⟨m1,ρ,S1,l,S2,sr1,lr.mono e1,h2,fun m2 H2 e2 sr2=>⟨m2,ρ,S2,k,S3,sr2,lr.mono (e1.trans e2),h3,fun m3 H3 e3 sr3=>?_⟩⟩⟩;have i3:=i1.mono (e2.trans e3);have e03:=(e1.trans e2).trans e3;cases x with
 |tup us=>
  simp only[De]at h;cases h;obtain⟨a,xs,rfl,sa,la⟩:=i3.of_tup;by_cases hw:sIx us.length 0 l=0/\sIx us.length us.length k=us.length
  ·have e:jM us l k=us:=by
    unfold jM;rw[hw.1,hw.2,List.drop_zero,Nat.sub_zero,List.take_length]
   rw[e]at post;exact .inr (.inr ⟨a,xs,rfl,sa,by rw[la.length];exact hw,post m3 _ H3 e03 sr3 (.tup_ sa la)⟩)
  ·exact .inr (.inl ⟨a,xs,rfl,sa,by rw[la.length];exact hw,fun p hp=>iB sr3 (rO la) (post.mono e03) hp⟩)
 |ref r=>
  simp only[De]at h;split at h<;>try cases h
  rename_i us hS;obtain⟨a,ha,rfl⟩:=i3.of_ref;obtain⟨a',ha',xs,hx,la⟩:=sr3.get hS;rw[ha]at ha';cases ha';exact .inl ⟨a,xs,rfl,SqL.of hx,fun p hp=>b8 sr3 (rO la) (post.mono e03) hp⟩
 |_=>simp[De]at h
end
end OP
namespace OP
open PySem PySem.Spec PyProof PyProof.Rows L2 OG PySem.W
def sH(K:Q5)(w:Qm):List V->Hp->VK->Prop:=fun xs H Q=>∃(v:Addr) (es:Array (Int×Q6)) (ep:Nat) (t:SetTable) (zs:List V) (ps:List (Int×Int)),xs=[.ref v]/\H v=some (Aj w v es ep t)/\bh zs (es.toList.map (·.2))/\PrL K H zs ps/\ps.Nodup/\ps.length<64/\
 ∀(l:Addr) (zs':List V) (ps':List (Int×Int)) (q:Array Nat),H l=none->PrL K H zs' ps'->ps'.Perm ps->GO ps' q->Q (.ref l) (upd H l (.lst (q.toList.map fun i=>zs'.getD i .non)))
theorem kE{X:Cx}(hc:X.calm=true):cS X (.builtin "sorted") (sH X.K X.w):=by
 rintro pins s σ H xs us Q I r ⟨v,es,ep,t,zs,ps,rfl,hV,vz,pz,nd,hn,q⟩;obtain⟨u,rfl,ru⟩:=f6 r;cases ru;obtain⟨⟨o,go,so⟩,_,_⟩:bR X.prog X.w H s.heap v (Aj X.w v es ep t):=I.hok v _ hV;have lz:=kq pz;have le:es.size=ps.length:=by have:=vz.length;simp at this;omega
 refine Calls.call_function_entry kind_sorted plain_sorted entry_sorted (args_sorted1 _) ?_;unfold Builtin.«sorted»;refine Q2 (m:=checkCount "sorted" 1 1 _) (Q8 (Q2 (kdu_collect (BN (prog:=X.prog) (a:=v) so) (show X.A.in1.handled=none from I.ok.hd hc) go (by rw[le];unfold QN;omega) fun h1 tk acc up hacc=>?_)));have ea:acc.toList=(za X.w v ep es).toList.map (·.2):=by
  refine X1 fun i=>?_;rw[Qb,Qn,Qb];have so1:(za X.w v ep es).size=es.size:=by have:=(iD (w:=X.w) (a:=v) (ep:=ep) (es:=es)).length_eq;simpa using this
  by_cases c:i<es.size
  ·have c1:i<acc.size:=by rw[hacc.1];exact c
   obtain⟨e,he,ev⟩:=hacc.2 i _ (QH c1);rw[he,QH c1,ev];rfl
  ·rw[Array.getElem?_eq_none (by rw[hacc.1];omega),Array.getElem?_eq_none (by omega)];rfl
 obtain⟨zs',ps',vz',pz',pp⟩:=yO (K:=X.K) (H:=H) (vs':=acc.toList) (by rw[ea];exact(iD (w:=X.w) (a:=v) (ep:=ep) (es:=es)).map _) vz pz;have lp:ps'.length=ps.length:=pp.length_eq;have I1:Inv X pins σ H { s with heap:=h1,toks:=tk }:=I.kept (t':=tk) up;have hpairs:=qY I1 pz' vz';have la:acc.toList.length=ps'.length:=cG hpairs;refine Q2 (wpAny_newList ?_ (by rw[la,lp];unfold QN;omega));have gL:(h1.push { cls:=.type "list",data:=.seq acc.toList.toArray }).get? h1.objs.size=some (seqObj "list" acc.toList.toArray 0):=QV _ rfl;have hv':∀v∈acc.toList,v≠.ref h1.objs.size:=fun v hv=>mm hpairs v hv _ (QJ _);refine Q2 (wpAny_holding (wpAny_call_entry slot_list_sort ⟨_,gL,rfl⟩ entry_list_sort (kH (s:={ s with heap:=h1.push { cls:=.type "list",data:=.seq acc.toList.toArray },toks:=tk }) gL (iY (a:=h1.objs.size) (fun b o _ g=>Q4 _ g) hpairs hv') hv' (pp.nodup_iff.mpr nd) (by rw[lp];exact hn) fun qa a1=>⟨_,rfl,?_⟩) (args_list_sort _)));obtain⟨e,ge⟩:=sortedHeap_at (out:=(qa.toList.map fun i=>acc.toList.getD i Value.none).toArray) gL;have old:∀b o,h1.get? b=some o->(sortedHeap (h1.push { cls:=.type "list",data:=.seq acc.toList.toArray }) h1.objs.size acc.toList (qa.toList.map fun i=>acc.toList.getD i Value.none).toArray).get? b=some o:=fun b o g1=>by
  have lt1:=QK g1;rw[sortedHeap_old (Qj lt1) (by rw[ZI];exact Zj lt1)];exact Q4 _ g1
 have hf:=I1.hok.fresh (QJ h1.objs.size);have hq:qa.toList.length=ps'.length:=by rw[QF,a1.1.sz]
 have lz':=kq pz';exact Q8 ⟨_,rfl,.ref h1.objs.size,_,I1.laid (o:=.lst (qa.toList.map fun i=>zs'.getD i .non)) (t':=tk) old (QJ _) ⟨by rw[QZ,hq,lp];unfold QN;omega,_,e,jE vz' qa.toList (by rw[lz'];exact eS a1.1),ge⟩,rfl,q _ zs' ps' qa hf pz' pp a1⟩
open Classical in
def eZ(ce:CE):CE:=fun ρ S=>(ce ρ S).bind fun p=>match p.1 with
 |.ref l=>match p.2[l]? with
  |some (.lst us)=>(kA us).bind fun ps=>if ps.length<=1200/\∃B:List (Int×Int),B.length<64/\∀x∈ps,x∈B then some (.ref p.2.length,p.2++[.lst ((dR ps).map pP)])else none
  |_=>none
 |_=>none
theorem pJ{X:Cx}{o:Qq}{co:CE}{p1 p2 cpos pos:Pos}(hcm:X.calm=true)(hu:X.A.units+64<cLine)(hg:L2.Gl X "sorted")(hm:X.mg "sorted"=none)(hg2:L2.Gl X "set")(hm2:X.mg "set"=none)(ho:QE X o co)
  (he1:QR [o] X.env=(false,eval o X.env)::QR [] X.env:=by rfl) (hpl1:(ZD cpos (QR [] X.env)).any (·.1)=false:=by rfl)
  (he:QR [.Call (.Name "set" p2) [o] [] cpos] X.env=(false,eval (.Call (.Name "set" p2) [o] [] cpos) X.env)::QR [] X.env:=by rfl) (hpl:(ZD pos (QR [] X.env)).any (·.1)=false:=by rfl) :
  QE X (.Call (.Name "sorted" p1) [.Call (.Name "set" p2) [o] [] cpos] [] pos) (eZ co):=
 (fA (kE hcm) hg hm OG.fi (bS (fW (IH hcm hu) hg2 hm2 nC (bS ho dQ he1) (by decide) (by decide) he1 hpl1) dQ he) (by decide) (by decide) he hpl).imp fun σ H Q hz=>gN hz fun m ρ S u S' sr lr hc post=>by
  obtain⟨⟨x,S1⟩,h1,h⟩:=Q0.mp hc;refine⟨m,ρ,S,x,S1,sr,lr,h1,fun m1 v1 H1 e1 sr1 i1=>?_⟩;cases x with
  |ref l=>
   simp only at h;split at h<;>try cases h
   rename_i us hS;obtain⟨ps,hn,h⟩:=Q0.mp h;split at h<;>try cases h
   obtain⟨hcc,B,hB1,hB2⟩:ps.length<=1200/\∃B:List (Int×Int),B.length<64/\∀x∈ps,x∈B:=by assumption
   obtain⟨a,ha,rfl⟩:=i1.of_ref;obtain⟨a',ha',xs,hx,la⟩:=sr1.get hS;rw[ha]at ha';cases ha';rw[kr hn]at la;have pr:=vn la;refine⟨a,xs,ps,rfl,SqL.of hx,pr,hcc,fun lS es ep t zs qs hl vz pz nd mem hq=>?_⟩;have sm:tQ H1 (upd H1 lS (Aj X.w lS es ep t)):=dE hl _;refine⟨lS,es,ep,t,zs,qs,rfl,aP,vz,mX sm pz,nd,Nat.lt_of_le_of_lt (List.Nodup.length_le_of_subset nd fun y hy=>hB2 y ((mem y).mp hy)) hB1,fun l zs' ps' q hl2 pz' pp aq=>?_⟩;have il:=pL (m:=m1) pz' q.toList (eS aq.1);have e:(q.toList.map fun i=>pP (ps'.getD i (0,0)))=(dR ps).map pP:=by rw[rZ aq pp mem,Qs];rfl
   rw[e]at il;exact b8 (sr1.same sm) il (post.mono (e1.trans (.of (cH sm)))) hl2
  |_=>cases h
theorem oB:∀{ns:List Int} {vs:List Q6},bh (ns.map V.int) vs->IntsAre vs ns
 |[],vs,r=>by cases r;exact .nil
 |n::ns,vs,r=>by
  cases r with
  |cons r1 r2=>
   obtain⟨t,rfl⟩:=r1;exact .cons n t (oB r2)
def zJ(ns:List Int):Nat:=(firstMet (fun i=>ns.getD i 0) ns.length).length
def Fy(a:Addr)(n:Nat):HO:=.ext fun h=>∃o es ep t,h.get? a=some o/\o.ExactSet/\o.data=.set es ep t/\t.fits es.size=true/\es.size=n
def HZ:List V->Hp->VK->Prop:=fun xs H Q=>∃(v:Addr) (n:Nat),xs=[.ref v]/\H v=some (Fy v n)/\n<=4000/\Q (.int n) H
theorem Fp{X:Cx}:cS X (.builtin "len") HZ:=by
 rintro pins s σ H xs us Q I r ⟨v,n,rfl,hV,hn,q⟩;obtain⟨u,rfl,ru⟩:=f6 r;cases ru;obtain⟨⟨o,es,ep,t,ho,hex,hd,hf,he⟩,_,_⟩:bR X.prog X.w H s.heap v (Fy v n):=I.hok v _ hV;have lt:(es.size:Int)<2^63:=by rw[he];omega
 refine PySem.call_len_set ho hex hd hf lt ?_;rw[he];exact⟨.int n,H,I.tok _,⟨_,rfl⟩,q⟩
theorem C3(ns:List Int):zJ ns<=ns.length:=firstMet_length_le _ _
end OP
namespace OP
open PySem PySem.Spec PyProof.Rows L2 OG
section
variable{P:Qu}{w:Qm}{K:Q5}{h base:Heap}{mg:Str->Option Q6}{x q:Str}{st:ZR}{f:Addr}{oc:Q6}{od an:Option Addr}{osl:Array (Option Q6)}{kV doc pm cdv ct:Q6}{ps:List Str}{k:Nat}{c:CS}
def KQ(K:Q5)(x q:Str)(st:ZR)(f:Addr):Prop:=∃fd,Fun K x q st f fd
abbrev fAt(x q:Str)(st:ZR)(oc:Q6)(od an:Option Addr)(osl:Array (Option Q6))(kV doc pm cdv ct:Q6):Obj:=⟨oc,od,.func (PySem.W.fnOf x q (gO st) (dX st) (aE st) .none kV doc pm an cdv ct),osl⟩
def Gn(K:Q5)(x:Str)(st:ZR):Prop:=∃f,PySem.W.nsIn K mainGlobals x=some (some (.ref f))/\KQ K x x st f
theorem KG(a:PySem.W.nsIn K mainGlobals x=some (some (.ref f)))(l:K.lookup f=some (fAt x x st oc od an osl kV doc pm cdv ct))(c:PySem.W.codeIn K cdv x=true)(k:PySem.W.keepIn K (.ref f)=true):Gn K x st:=⟨f,a,_,FY l c k⟩
def Gm(K:Q5):List (Str×ZR)->Prop
 |[]=>True
 |(x,st)::r=>Gn K x st/\Gm K r
def GL(K:Q5):List Str->Prop
 |[]=>True
 |x::r=>PySem.W.nsIn K mainGlobals x=some none/\GL K r
abbrev Bd(x q:Str)(st:ZR)(ps:List Str):Prop:=∀us:List Q6,us.length=ps.length->∀(kV doc pm:Q6) (an:Option Addr) (cdv ct:Q6),bindArgs (PySem.W.fnOf x q (gO st) (dX st) (aE st) .none kV doc pm an cdv ct) ⟨us,[]⟩=pure (ps.zip us)
theorem Gn.df(d:Gn K x st)(X:K.In h)(G:h.Ns mainGlobals mg)(b:Bd x x st ps:=by first|exact J9 fun _ _ _ _ _ _=>rfl|(repeat (first|exact J9 fun _ _ _ _ _ _=>rfl|refine KJ fun _=>?_))):Def K mg x st ps:=by
 obtain⟨f,a,fd,F⟩:=d;exact⟨f,fd,F,F.binds fun kV doc pm an cdv ct us hl=>b us hl kV doc pm an cdv ct,PySem.W.mg_of X G a⟩
def Ka:List Str:=["len","isinstance","int","bool","str","tuple","list","range","min","sum","all","zip","sorted","dict","enumerate","any","max","set"]
theorem GL.blt(z:GL K Ka)(X:K.In h)(G:h.Ns mainGlobals mg):Blt mg:=by
 obtain⟨a,b,c,d,e,f,g,i,j,k,l,m,n,o,p,q,r,s,-⟩:=z;constructor<;>(refine PySem.W.mg_none_of X G ?_;assumption)
theorem FA{sp:Sp}{fa:Addr}(d:Gn K "law" st)(X:K.In h)(G:h.Ns mainGlobals mg)(hfa:mg "law"=some (.ref fa))(ok:∀fd,Fun K "law" "law" st fa fd->∀base:Heap,pf P w K mg base CX0 k fa fd ["script"] sp)
  (b:∀(kV doc pm:Q6) (an:Option Addr) (cdv ct v:Q6),bindArgs (PySem.W.fnOf "law" "law" (gO st) (dX st) (aE st) .none kV doc pm an cdv ct) ⟨[v],[]⟩=pure [(("script":Str),v)]:=by intros;rfl) :
  ∃fd:Zp,(∀(s:QQ) (v:Q6),BindsTo s fd ⟨[v],[]⟩ [("script",v)])/\∀base:Heap,K.In base->base.Ns mainGlobals mg->pf P w K mg base CX0 k fa fd ["script"] sp:=by
 obtain⟨f,a,fd,F⟩:=d;cases hfa.symm.trans (PySem.W.mg_of X G a);refine⟨fd,fun s v=>?_,fun base _ _=>ok fd F base⟩;obtain⟨oc,od,kV,doc,pm,an,cdv,ct,osl,rfl,lk,hcd⟩:=F.ex;exact .of_eq (b kV doc pm an cdv ct v)
theorem Jq{i:Int}{t:Tok}(X:K.In h)(G:h.Ns mainGlobals mg)(a:PySem.W.nsIn K mainGlobals x=some (some (.int i t))):∃t,mg x=some (.int i t):=⟨_,PySem.W.mg_of X G a⟩
end
section
variable{prog:Qu}{w:Qm}{A:Z9}{E:Q6->QQ->Prop}{s:QQ}
theorem Io{a b:Addr}{a1 a2 b1 b2:Int}{t1 t2 u1 u2:Tok}{n m:Nat}{dd d2:Option Addr}{sl s2:Array (Option Q6)}{Q:Q6->QQ->Prop}(ha:s.heap.get? a=some { cls:=.type "tuple",dict:=dd,data:=.seq #[.int a1 t1,.int a2 t2] n,slots:=sl })(hb:s.heap.get? b=some { cls:=.type "tuple",dict:=d2,data:=.seq #[.int b1 u1,.int b2 u2] m,slots:=s2 })
  (hu:A.units+1<cLine) (q:Q (.bool (decide (a1<b1\/a1=b1/\a2<b2))) s):wpAny (Qx prog w) A (compareOp .Lt (.ref a) (.ref b)) Q E s:=by
 show wpAny _ _ (richCompare .Lt (.ref a) (.ref b)) Q E s;have ta:s.TypeIs (.ref a) "tuple":=⟨_,ha,rfl⟩;have tb:s.TypeIs (.ref b) "tuple":=⟨_,hb,rfl⟩;refine wpAny_richCompare_same_room (op:=.Lt) (T:="tuple") ta tb F.slot_tuple_lt (wpAny_call_entry F.slot_tuple_lt ta F.entry_tuple_lt ?_ (F.args_tuple_lt_2 _ _)) (by omega);have f2:=AutoSeq1.sub_tuple_tuple
 wp_walk using wpAny_loadPart' ha,wpAny_loadPart' hb,wpAny_eqBool_int
 have key:∀(x y:Int) (t u:Tok) (Q:Q6->QQ->Prop),Q (.bool (decide (x<y))) s->wpAny (Qx prog w) A.in1 (richCompare .Lt (.int x t) (.int y u)) Q E s:=fun x y t u Q h=>lt_int h;by_cases h1:a1=b1
 ·subst h1;simp only[beq_self_eq_true,Bool.not_true,Qc,if_false]
  wp_walk using wpAny_eqBool_int
  by_cases h2:a2=b2
  ·subst h2;simp only[beq_self_eq_true,Bool.not_true,Qc,if_false]
   wp_walk
   have e3:decide (a1<a1\/a1=a1/\a2<a2)=false:=decide_eq_false (by omega);rw[e3]at q;exact⟨_,rfl,(by intro z;cases z),q⟩
  ·have e2:(a2 == b2)=false:=by simpa using h2
   simp only[e2,Bool.not_false,if_true]
   wp_walk using key
   have e3:decide (a1<a1\/a1=a1/\a2<b2)=decide (a2<b2):=by rw[decide_eq_decide];omega
   rw[e3]at q;exact⟨_,rfl,(by intro z;cases z),q⟩
 ·have e1:(a1 == b1)=false:=by simpa using h1
  simp only[e1,Bool.not_false,if_true]
  wp_walk using key
  have e3:decide (a1<b1\/a1=b1/\a2<b2)=decide (a1<b1):=by rw[decide_eq_decide];omega
  rw[e3]at q;exact⟨_,rfl,(by intro z;cases z),q⟩
end
section
variable{X:Cx}{K:Q5}
def JM(K:Q5):R2:=fun x y H Q=>∃p q a b c d,x=.ref p/\y=.ref q/\SqT K H p [.int a,.int b]/\SqT K H q [.int c,.int d]/\Q (.bl (ltP (a,b) (c,d))) H
theorem Fi(hu:X.A.units+64<cLine):OpR X (compareOp .Lt) (JM X.K):=by
 intro pins s σ H x y v u Q I rx ry h;obtain⟨p,q,a,b,c,d,rfl,rfl,ha,hb,q⟩:=h;cases rx;cases ry;obtain⟨i1,r1,⟨o1,g1,c1,n1,d1⟩,_⟩:=I.tuple ha;obtain⟨i2,r2,⟨o2,g2,c2,n2,d2⟩,_⟩:=I.tuple hb;obtain⟨u1,u2,rfl,w1,w2⟩:=pC r1;obtain⟨u3,u4,rfl,w3,w4⟩:=pC r2;obtain⟨t1,rfl⟩:=w1;obtain⟨t2,rfl⟩:=w2;obtain⟨t3,rfl⟩:=w3;obtain⟨t4,rfl⟩:=w4;obtain⟨k1,e1,x1,y1⟩:=o1;obtain⟨k2,e2,x2,y2⟩:=o2;simp only at c1 d1 c2 d2;subst c1 d1 c2 d2;exact Io g1 g2 (by omega) ⟨.bl _,H,I,rfl,q⟩
def Jk:U->U->Sto->Option (U×Sto)
 |.tup [.int a,.int b],.tup [.int c,.int d],S=>some (.bl (ltP (a,b) (c,d)),S)
 |_,_,_=>none
theorem IE:OpP K (JM K) Jk:=by
 intro m S H x y v w u S' Q sr ix iy hf post;unfold Jk at hf;split at hf
 ·rename_i a b c d;cases hf;obtain⟨p,xs,rfl,sa,la⟩:=ix.of_tup;obtain⟨q,ys,rfl,sb,lb⟩:=iy.of_tup;obtain⟨v1,r1,rfl,i1,la1⟩:=la.of_cons;obtain⟨v2,r2,rfl,i2,la2⟩:=la1.of_cons;obtain⟨v3,r3,rfl,i3,lb1⟩:=lb.of_cons;obtain⟨v4,r4,rfl,i4,lb2⟩:=lb1.of_cons;have z1:=la2.of_nil;have z2:=lb2.of_nil;subst z1 z2;cases i1.of_int;cases i2.of_int;cases i3.of_int;cases i4.of_int;exact⟨p,q,a,b,c,d,rfl,rfl,sa,sb,post m _ H .refl sr .bl_⟩
 ·cases hf
end
section
variable{prog:Qu}{w:Qm}{A:Z9}{E:Q6->QQ->Prop}{s:QQ}
theorem vK{r:Addr}{i n:Int}{t t0 t1 t2:Tok}{Q:Q6->QQ->Prop}(hr:s.heap.get? r=some { cls:=.type "range",data:=.fields #[.int 0 t0,.int n t1,.int 1 t2] })(q:Q (.bool (!decide (0<=i/\i<n))) s):wpAny (Qx prog w) A (compareOp .NotIn (.int i t) (.ref r)) Q E s:=by
 show wpAny _ _ (do return .bool (!(<-contains (.ref r) (.int i t)))) Q E s;have ty:s.TypeIs (.ref r) "range":=⟨_,hr,rfl⟩;refine Q2 (wpAny_contains_slot ty F.slot_range_contains (wpAny_call_entry F.slot_range_contains ty F.entry_range_contains ?_ (F.args_range_contains_2 _ _)));have f0:∀(A:Z9) (Q:Q6->QQ->Prop),Q (.int 0 t0) s->wpAny (Qx prog w) A (field (.ref r) 0) Q E s:=fun A Q h=>ZJ hr rfl rfl h;have f1:∀(A:Z9) (Q:Q6->QQ->Prop),Q (.int n t1) s->wpAny (Qx prog w) A (field (.ref r) 1) Q E s:=fun A Q h=>ZJ hr rfl rfl h;have f2:∀(A:Z9) (Q:Q6->QQ->Prop),Q (.int 1 t2) s->wpAny (Qx prog w) A (field (.ref r) 2) Q E s:=fun A Q h=>ZJ hr rfl rfl h
 wp_walk using f0,f1,f2
 have e:(Builtin.Range.rangePlace? 0 n 1 i).isSome=decide (0<=i/\i<n):=by
  unfold Builtin.Range.rangePlace?;by_cases h:0<=i/\i<n
  ·simp[h,Int.emod_one]
  ·have:(decide (0<=i)&&decide (i<n))=false:=by
    rw[Bool.eq_false_iff];intro z;simp at z;exact h z
   simp[h,this]
 refine⟨_,rfl,?_⟩;rw[e];exact Q8 (Q8 q)
end
section
variable{X:Cx}{a e:Qq}{ta:TE}{te:TA}{p pos cpos:Pos}
def JI(ta:TE)(te:TA):TE:=fun σ H Q=>ta σ H fun x H1=>te σ H1 fun vs H2=>∃i j,x=.int i/\vs=[.int j]/\Q (.bl (!decide (0<=i/\i<j))) H2
theorem E7(hg:L2.Gl X "range")(hm:X.mg "range"=none)(ha:PE X a ta)(he:PA X [e] te)(hs:QR [e] X.env=[(false,eval e X.env)]:=by rfl):PC X .NotIn a (.Call (.Name "range" p) [e] [] cpos) (JI ta te):=by
 intro pins s σ H Q I h;refine thn (ha pins s σ H _ I h) fun iv s1 hz=>?_;obtain⟨y,H1,I1,ry,q1⟩:=hz;refine Call_ (jy I1 hg hm boot_range (PyProof.Rows.callWith_type1 (thn (he cpos pins s1 σ H1 _ I1 q1) fun us s2 ⟨vs,H2,I2,r2,q2⟩=>?_) hs rfl));obtain⟨i,j,rfl,rfl,q⟩:=q2;obtain⟨u,rfl,ru⟩:=f6 r2;obtain⟨t,rfl⟩:=ry;obtain⟨t',rfl⟩:=ru;refine call_range_1 (vK (QV _ rfl) ?_);exact⟨.bl _,H2,I2.kept fun b o e=>Q4 _ e,rfl,q⟩
def Dg(ca cb:CE):CE:=fun ρ S=>(ca ρ S).bind fun p=>(cb ρ p.2).bind fun q=>match p.1,q.1 with
 |.int i,.int j=>some (.bl (!decide (0<=i/\i<j)),q.2)
 |_,_=>none
theorem Cw{ca cb:CE}:∀σ H Q,tE X.K (Dg ca cb) σ H Q->JI (tE X.K ca) (BH (tE X.K cb) HP) σ H Q:=fun σ H Q hz=>gN hz fun m ρ S u S' sr lr hc post=>by
 obtain⟨⟨x,S1⟩,h1,h⟩:=Q0.mp hc;obtain⟨⟨y,S2⟩,h3,h4⟩:=Q0.mp h;refine⟨m,ρ,S,x,S1,sr,lr,h1,fun m1 v1 H1 e1 sr1 i1=>⟨m1,ρ,S1,y,S2,sr1,lr.mono e1,h3,fun m2 v2 H2 e2 sr2 i2=>?_⟩⟩;cases x<;>simp only at h4<;>(first|cases h4|skip);cases y<;>simp only at h4<;>(first|cases h4|skip);rename_i i j;exact⟨i,j,(i1.mono e2).of_int,by rw[i2.of_int],post m2 _ H2 (e1.trans e2) sr2 .bl_⟩
theorem Au{ca cb:CE}(hg:L2.Gl X "range")(hm:X.mg "range"=none)(ha:QE X a ca)(he:QE X e cb)(hs:QR [e] X.env=[(false,eval e X.env)]:=by rfl)(hs2:QR [e] X.env=(false,eval e X.env)::QR [] X.env:=by rfl)(hb:behindInMarks .NotIn (.Call (.Name "range" p) [e] [] cpos)=false):QT X (.Compare a [.NotIn] [.Call (.Name "range" p) [e] [] cpos] pos) (aK (Dg ca cb)):=
 (Bk ⟨E7 hg hm ha.h (bS he dQ hs2).h hs⟩ hb).imp (jF Cw)
end
end OP
namespace OP
open PySem PySem.Spec PyProof PyProof.Rows L2 OG
section
variable{prog:Qu}{w:Qm}{A:Z9}{E:Q6->QQ->Prop}{s:QQ}
theorem jY:isSubtype (.type "tuple") (.type "set")=pure false:=by rw[isSubtype_type];kernel_rfl
theorem jj:isSubtype (.type "tuple") (.type "frozenset")=pure false:=by rw[isSubtype_type];kernel_rfl
theorem BM{l:Addr}{vs:List Q6}{ps0:List (Int×Int)}{Q:Q6->QQ->Prop}(hh:A.handled=none)(hu:A.units+64<cLine)(hl:s.heap.IsTuple l vs.toArray)(hp:c0 s.heap vs ps0)(hn:vs.length<=1200)
  (q:∀h' tk es ep t ps,gf prog w h' s.heap.objs.size es ep t ps->(∀e∈es.toList,∃j:Nat,vs[j]?=some e.2)->es.size<=1200->(∀y,y∈ps↔y∈ps0)->(∀b o,s.heap.get? b=some o->h'.get? b=some o)->Q (.ref s.heap.objs.size) { s with heap:=h',toks:=tk }) :
  wpAny (Qx prog w) A (call (.type "set") [.ref l]) Q E s:=by
 refine gQ ?_;have gS:(s.heap.push (bF w)).get? s.heap.objs.size=some (bF w):=QV _ rfl;have hl1:(s.heap.push (bF w)).IsTuple l vs.toArray:=let ⟨o,g,r⟩:=hl;⟨o,Q4 _ g,r⟩
 obtain⟨ol,gl,cl,nl,dl⟩:=hl;obtain⟨ocl,odi,oda,osl⟩:=ol;dsimp only at cl dl;subst cl;subst dl;have gl':(s.heap.push (bF w)).get? l=some { cls:=.type "tuple",dict:=odi,data:=.seq vs.toArray nl,slots:=osl }:=Q4 _ gl;have x1:=jY;have x2:=jj;have x3:(Value.type "tuple" == Value.type "dict")=false:=by decide
 have lS:l<s.heap.objs.size:=QK gl;unfold Builtin.«set.__init__» noKeywords Builtin.Frozenset.updateFrom;generalize hq:pyIter=PI
 wp_walk
 subst hq;refine wpAny_pyIter_tuple hl1 (Q2 (wpAny_runValue ?_));have sz1:(s.heap.push (bF w)).objs.size=s.heap.objs.size+1:=ZI ..;have W:=(Walks.tuple (prog:=prog) (w:=w) (A:=A.in1.in1.in1) hh (s.heap.push (bF w)).objs.size l (by rw[sz1];exact Qj (Zj lS)) vs.toArray).toS;have hv:∀(i:Nat) (v:Q6),vs.toArray[i]?=some v->bE s.heap v (ps0.getD i (0,0)):=fun i v g=>by
  rw[Zh]at g;have:=(Q9.mp g).1;have hpg:=dS hp (i:=i) (by rw[<-cG hp];exact this);rw[QX,g]at hpg;exact hpg
 refine qB W (Sa:=s.heap.objs.size) (by rw[sz1];simp;exact Nat.ne_of_gt lS) (by show A.units+1+1+1<cLine;omega) (h0:=s.heap) (fun b hb=>by rw[sz1]at hb;simp at hb;rw[hb];exact Nat.le_succ _) (QJ _) (fun i=>ps0.getD i (0,0)) hv (by simpa using hn) (vs.toArray.size-0) 0 _ (by omega) (ZN _) ⟨⟨_,QV _ rfl,rfl,rfl⟩,(let ⟨o,g,r⟩:=hl1;⟨o,Q4 _ g,r⟩)⟩ (fun b o g=>Q4 _ (Q4 _ g)) ⟨#[],0,_,[],rL (Q4 _ gS),fun e he=>by simp at he,QJ _,fun y=>Iff.intro (fun z=>by simp at z) (fun z=>by obtain⟨j,hj,_⟩:=z;omega)⟩ fun s' hm hS=>?_;obtain⟨es,ep,t,ps,S,oe,sz,mem⟩:=hS;obtain⟨h',g',d',tk',os'⟩:=s';have eg:g'=s.gens:=hm.gens;have ed:d'=s.drawn:=hm.drawn;have eo:os'=s.os:=hm.os;subst eg;subst ed;subst eo;refine Q8 (Q8 ⟨rfl,?_⟩);refine q h' tk' es ep t ps S (fun e he=>by obtain⟨j,hj⟩:=oe e he;exact⟨j,by rw[Zh]at hj;exact hj⟩) (by simp at sz;omega) (fun y=>?_) fun b o g=>?_
 ·rw[mem];have e:=cG hp;constructor
  ·rintro⟨j,hj,rfl⟩;have hj':j<ps0.length:=by simp at hj;omega
   rw[QX,Q7 hj'];exact ZK hj'
  ·intro hy;obtain⟨j,hj,rfl⟩:=List.getElem_of_mem hy;refine⟨j,by simp;omega,?_⟩;rw[QX,Q7 hj];rfl
 ·have lt:=QK g;refine hm.heap b o ?_ (Q4 _ (Q4 _ g));rw[sz1];simp;exact⟨Qj lt,Qj (Zj lt)⟩
theorem rH:∀{vs:List Q6} {ns:List Int} {i:Nat} {v:Q6},IntsAre vs ns->vs[i]?=some v->∃t,v=.int (ns.getD i 0) t
 |_,_,i,v,.nil,g=>by simp at g
 |_,_,0,v,.cons n t r,g=>by simp at g;subst g;exact⟨t,by simp⟩
 |_,_,i+1,v,.cons n t r,g=>by
  obtain⟨u,e⟩:=rH (i:=i) r (by simpa using g);exact⟨u,by simpa using e⟩
theorem yx{l:Addr}{vs:List Q6}{ns:List Int}{Q:Q6->QQ->Prop}(hh:A.handled=none)(hl:s.heap.IsTuple l vs.toArray)(hi:IntsAre vs ns)(hn:vs.length<=4000)
  (q:∀h' tk,h'.SetOf (intKind prog w) s.heap.objs.size (fun k'=>(firstMet (fun i=>ns.getD i 0) vs.length).any (· == k')) (firstMet (fun i=>ns.getD i 0) vs.length).length->(∀b o,s.heap.get? b=some o->h'.get? b=some o)->Q (.ref s.heap.objs.size) { s with heap:=h',toks:=tk }) :
  wpAny (Qx prog w) A (call (.type "set") [.ref l]) Q E s:=by
 refine gQ ?_;have gS:(s.heap.push (bF w)).get? s.heap.objs.size=some (bF w):=QV _ rfl;have hl1:(s.heap.push (bF w)).IsTuple l vs.toArray:=let ⟨o,g,r⟩:=hl;⟨o,Q4 _ g,r⟩
 obtain⟨ol,gl,cl,nl,dl⟩:=hl;obtain⟨ocl,odi,oda,osl⟩:=ol;dsimp only at cl dl;subst cl;subst dl;have gl':(s.heap.push (bF w)).get? l=some { cls:=.type "tuple",dict:=odi,data:=.seq vs.toArray nl,slots:=osl }:=Q4 _ gl;have x1:=jY;have x2:=jj;have x3:(Value.type "tuple" == Value.type "dict")=false:=by decide
 have lS:l<s.heap.objs.size:=QK gl;unfold Builtin.«set.__init__» noKeywords Builtin.Frozenset.updateFrom;generalize hq:pyIter=PI
 wp_walk
 subst hq;refine wpAny_pyIter_tuple hl1 (Q2 (wpAny_runValue ?_));have sz1:(s.heap.push (bF w)).objs.size=s.heap.objs.size+1:=ZI ..;have W:=(Walks.tuple (prog:=prog) (w:=w) (A:=A.in1.in1.in1) hh (s.heap.push (bF w)).objs.size l (by rw[sz1];exact Qj (Zj lS)) vs.toArray).toS;have hlen:vs.length=ns.length:=hi.length;have hv:∀(i:Nat) (v:Q6),vs.toArray[i]?=some v->∃t,v=.int (ns.getD i 0) t:=fun i v g=>by
  rw[Zh]at g;exact rH hi g
 have S0:(s.heap.push (bF w)).SetOf (intKind prog w) s.heap.objs.size (fun k'=>(firstMet (fun i=>ns.getD i 0) 0).any (· == k')) (firstMet (fun i=>ns.getD i 0) 0).length:=by
  refine⟨_,_,_,_,gS,⟨rfl,rfl,rfl⟩,rfl,?_,fun k=>?_,by unfold scanBound;decide,rfl,rfl⟩
  ·exact(by first|trivial|simp[ElemsOf])
  ·simp[firstMet]
 refine codeAny_set_update_loopS W s.heap.objs.size (by rw[sz1];simp;exact Nat.ne_of_gt lS) (fun i=>ns.getD i 0) hv (by simp;unfold scanBound;omega) (vs.toArray.size-0) 0 _ (by omega) (ZN _) ⟨⟨_,QV _ rfl,rfl,rfl⟩,(let ⟨o,g,r⟩:=hl1;⟨o,Q4 _ g,r⟩)⟩ ?_ fun s' hm hS=>?_
 ·obtain⟨o,es,ep,t,ho,r⟩:=S0;exact⟨o,es,ep,t,Q4 _ ho,r⟩
 obtain⟨h',g',d',tk',os'⟩:=s';have eg:g'=s.gens:=hm.gens;have ed:d'=s.drawn:=hm.drawn;have eo:os'=s.os:=hm.os;subst eg;subst ed;subst eo;refine Q8 (Q8 ⟨rfl,?_⟩);refine q h' tk' (by simpa using hS) fun b o g=>?_;have lt:=QK g;refine hm.heap b o ?_ (Q4 _ (Q4 _ g));rw[sz1];simp;exact⟨Qj lt,Qj (Zj lt)⟩
end
section
variable{X:Cx}
def HW(K:Q5)(w:Qm):List V->Hp->VK->Prop:=fun xs H Q=>∃(p:Addr) (ns:List Int),xs=[.ref p]/\SqT K H p (ns.map V.int)/\ns.length<=4000/\∀l,H l=none->Q (.ref l) (upd H l (Fy l (zJ ns)))
theorem Fo(hc:X.calm=true):cS X (.type "set") (HW X.K X.w):=by
 rintro pins s σ H xs us Q I r ⟨p,ns,rfl,hL,hn,q⟩;obtain⟨u,rfl,ru⟩:=f6 r;cases ru;obtain⟨its,rv,pl,hz⟩:=I.tuple hL;have hlen:=rv.length;rw[QZ]at hlen;refine yx (ns:=ns) (show X.A.handled=none from I.ok.hd hc) pl (oB rv) (by omega) fun h' tk hS hk=>?_;obtain⟨o,es,ep,t,ho,hex,hd,_,_,_,hf,hn'⟩:=hS;rw[<-hlen]at hn';have hf0:=I.hok.fresh (QJ s.heap.objs.size);exact⟨.ref s.heap.objs.size,_,I.laid (o:=Fy s.heap.objs.size (zJ ns)) (t':=tk) (fun b o g=>hk b o g) (QJ _) ⟨⟨o,es,ep,t,ho,hex,hd,hf,hn'⟩,⟨o,ho⟩,fun h1 h2 ⟨o,es,ep,t,g,r⟩ m=>⟨o,es,ep,t,m o g,r⟩⟩,rfl,q _ hf0⟩
def jO(ce:CE):CE:=fun ρ S=>(ce ρ S).bind fun p=>match p.1 with
 |.tup us=>(ja us).bind fun ns=>if ns.length<=4000 then some (.int (zJ ns:Nat),p.2)else none
 |_=>none
theorem ve{o:Qq}{co:CE}{p1 p2 cpos pos:Pos}(hcm:X.calm=true)(hg:L2.Gl X "len")(hm:X.mg "len"=none)(hg2:L2.Gl X "set")(hm2:X.mg "set"=none)(ho:QE X o co)
  (he1:QR [o] X.env=(false,eval o X.env)::QR [] X.env:=by rfl) (hpl1:(ZD cpos (QR [] X.env)).any (·.1)=false:=by rfl)
  (he:QR [.Call (.Name "set" p2) [o] [] cpos] X.env=(false,eval (.Call (.Name "set" p2) [o] [] cpos) X.env)::QR [] X.env:=by rfl) (hpl:(ZD pos (QR [] X.env)).any (·.1)=false:=by rfl) :
  QE X (.Call (.Name "len" p1) [.Call (.Name "set" p2) [o] [] cpos] [] pos) (jO co):=
 (fA Fp hg hm PySem.boot_len (bS (fW (Fo hcm) hg2 hm2 nC (bS ho dQ he1) (by decide) (by decide) he1 hpl1) dQ he) (by decide) (by decide) he hpl).imp fun σ H Q hz=>gN hz fun m ρ S u S' sr lr hc post=>by
  obtain⟨⟨x,S1⟩,h1,h⟩:=Q0.mp hc;refine⟨m,ρ,S,x,S1,sr,lr,h1,fun m1 v1 H1 e1 sr1 i1=>?_⟩;cases x with
  |tup us=>
   simp only at h;obtain⟨ns,hn,h⟩:=Q0.mp h;split at h<;>try cases h
   rename_i hcc;obtain⟨a,xs,rfl,sa,la⟩:=i1.of_tup;rw[iH hn]at la;have ex:xs=ns.map V.int:=IsL.ints la;subst ex;refine⟨a,ns,rfl,sa,hcc,fun l hl=>⟨l,zJ ns,rfl,aP,Qo (C3 ns) hcc,?_⟩⟩;have sm:tQ H1 (upd H1 l (Fy l (zJ ns))):=dE hl _;exact post m1 _ _ (e1.trans (.of (cH sm))) (sr1.same sm) .int_
  |_=>cases h
end
section
variable{X:Cx}{K:Q5}{o e:Qq}{co ce:CE}{apos cpos:Pos}
def Kq(K:Q5)(to:TE)(te:TA):TE:=fun σ H Q=>to σ H fun x H1=>∃p xs,x=.ref p/\SqT K H1 p xs/\te σ H1 fun vs H2=>∃(ns:List Int) (z:Int),vs=[.int z]/\SqT K H2 p (ns.map V.int)/\Q (.int (ns.count z:Nat)) H2
theorem rP:∀{ns:List Int} {its:List Q6} {z:Int} (f:Q6->Bool),bh (ns.map V.int) its->(∀i t,f (.int i t)=(i == z))->its.countP f=ns.count z
 |[],its,z,f,r,h=>by cases r;rfl
 |n::ns,its,z,f,r,h=>by
  cases r with
  |cons r1 r2=>
   obtain⟨t,rfl⟩:=r1;rw[List.countP_cons,List.count_cons,rP f r2 h,h]
def isZ(z:Int):Q6->Bool
 |.int i _=>i == z
 |_=>false
theorem rG:∀{ns:List Int} {its:List Q6} {y:Q6},bh (ns.map V.int) its->y∈its->∃k t,y=.int k t
 |[],its,y,r,h=>by cases r;cases h
 |n::ns,its,y,r,h=>by
  cases r with
  |cons r1 r2=>
   obtain⟨t,rfl⟩:=r1;rcases QL.mp h with e|e
   ·exact⟨n,t,e⟩
   ·exact rG r2 e
theorem E4{to:TE}{te:TA}(ho:PE X o to)(ha:PA X [e] te)(hbase:attributeBase o "count" X.env (eval o X.env)=eval o X.env:=by rfl)
  (hfew:((ZD cpos (QR [e] X.env)).all (fun x=>!x.1)&&(backToKw cpos (keywordEach [] X.env)).all (fun x=>x.1.isSome)&&decide ([e].length+([]:List Keyword).length+(if ([]:List Keyword).isEmpty then 0 else 1)<30))=true:=by rfl)
  (hline:(apos.endLine == cpos.line)=true:=by rfl) (hs:QR [e] X.env=(false,eval e X.env)::QR [] X.env:=by rfl) (hplain:(ZD cpos (QR [] X.env)).any (·.1)=false:=by rfl) :
  PE X (.Call (.Attribute o "count" apos) [e] [] cpos) (Kq X.K to te):=by
 intro pins s σ H Q I h;refine wpAny_Call_method_late hbase hfew hline rfl (thn (ho pins s σ H _ I h) fun v s1 hz=>?_);obtain⟨x,H1,I1,r1,p,xs,ex,sq,q1⟩:=hz;subst ex;cases r1;obtain⟨h1,h2⟩:=I1.tuD sq;refine⟨"tuple","tuple.count",F.plainAttrs_tuple,F.slot_tuple_count,F.type_tuple_count,h1,h2,?_⟩;have hA:=ha cpos pins s1 σ H1 _ I1 q1;rw[hs]at hA ⊢;refine Calls.callWith_builtin (by show(false||(ZD cpos (QR [] X.env)).any (·.1))=false;rw[hplain]<;>rfl) (Calls.evalArgs_plain ?_);refine thn hA fun us s2 hz=>?_;obtain⟨vs,H2,I2,r2,ns,z,ev,sq2,q⟩:=hz;subst ev;obtain⟨u,rfl,ru⟩:=f6 r2;obtain⟨tz,rfl⟩:=ru;obtain⟨its,r,⟨ob,g,c,n,d⟩,_⟩:=I2.tuple sq2;obtain⟨oc,od,oda,osl⟩:=ob;dsimp only at c d;subst c d;refine call_meets F.slot_tuple_count ⟨_,g,rfl⟩ F.entry_tuple_count (F.args_tuple_count_2 _ _) (SeqAt.tuple_countAt p its.toArray n od osl (.int z tz) (isZ z)) ⟨g,fun y hy=>?_,?_⟩
 ·obtain⟨k,t,e⟩:=rG r (by simpa using hy);subst e;intro prog w E Q hq;exact wpAny_eqBool_int hq
 ·have ec:=rP (isZ z) r fun i t=>rfl;rw[show its.toArray.toList=its from rfl,ec];exact⟨.int _,H2,I2.tok _,⟨_,rfl⟩,q⟩
def oT(co ce:CE):CE:=fun ρ S=>(co ρ S).bind fun p=>(ce ρ p.2).bind fun q=>match p.1,q.1 with
 |.tup us,.int z=>(ja us).bind fun ns=>some (.int (ns.count z:Nat),q.2)
 |_,_=>none
theorem Ih(ho:QE X o co)(he:QE X e ce)(hbase:attributeBase o "count" X.env (eval o X.env)=eval o X.env:=by rfl)
  (hfew:((ZD cpos (QR [e] X.env)).all (fun x=>!x.1)&&(backToKw cpos (keywordEach [] X.env)).all (fun x=>x.1.isSome)&&decide ([e].length+([]:List Keyword).length+(if ([]:List Keyword).isEmpty then 0 else 1)<30))=true:=by rfl)
  (hline:(apos.endLine == cpos.line)=true:=by rfl) (hs:QR [e] X.env=(false,eval e X.env)::QR [] X.env:=by rfl) (hplain:(ZD cpos (QR [] X.env)).any (·.1)=false:=by rfl) :
  QE X (.Call (.Attribute o "count" apos) [e] [] cpos) (oT co ce):=
 (show WE X _ _ from⟨E4 ho.h (bS he dQ hs).h hbase hfew hline hs hplain⟩).imp fun σ H Q hz=>gN hz fun m ρ S u S' sr lr hc post=>by
  obtain⟨⟨x,S1⟩,h1,h⟩:=Q0.mp hc;obtain⟨⟨y,S2⟩,h3,h4⟩:=Q0.mp h;refine⟨m,ρ,S,x,S1,sr,lr,h1,fun m1 v1 H1 e1 sr1 i1=>?_⟩;cases x<;>simp only at h4<;>(first|cases h4|skip);cases y<;>simp only at h4<;>(first|cases h4|skip);rename_i us z;obtain⟨ns,hn,h5⟩:=Q0.mp h4;cases h5;obtain⟨a,xs,rfl,sa,la⟩:=i1.of_tup;refine⟨a,xs,rfl,sa,m1,ρ,S1,_,_,sr1,lr.mono e1,h3,fun m2 v2 H2 e2 sr2 i2=>?_⟩;obtain⟨a',xs',e',sa',la'⟩:=(i1.mono e2).of_tup;cases e';rw[iH hn]at la';have ex:xs'=ns.map V.int:=IsL.ints la';subst ex;exact⟨ns,z,by rw[i2.of_int],sa',post m2 _ H2 (e1.trans e2) sr2 .int_⟩
end
end OP
namespace OP
open PySem PySem.Spec PyProof PyProof.Rows L2 OG PySem.W HT
section
variable{prog:Qu}{w:Qm}{A:Z9}{E:Q6->QQ->Prop}{s:QQ}
theorem o3{sl:Addr}{tt:Tok}{n:Nat}{Q:Int×Int×Nat->QQ->Prop}(hs:s.heap.IsSliceOf sl .none .none (.int (-1) tt))
  (h:Q ((n:Int)-1,-1,n) s):wpAny (Qx prog w) A (Builtin.Slice.sliceApplied (.ref sl) (pure (n:Int))) Q E s:=by
 obtain⟨os,hos,hcs,hds⟩:=id hs;unfold Builtin.Slice.sliceApplied Builtin.Slice.sliceFields;refine Q2 (Q2 (ZJ hos hds (x:=.none) rfl (Q2 (ZJ hos hds (x:=.none) rfl (Q2 (ZJ hos hds (x:=.int (-1) tt) rfl (Q8 ?_)))))));refine Q2 (slicePart_int ?_);show wpAny _ _ (if ((-1:Int) == 0)=true then _ else _) _ _ s;rw[if_neg (by decide)];refine Q2 (slicePart_none (Q2 (slicePart_none (Q2 (Q8 ?_)))));show wpAny _ _ (pure ((n:Int)-1,(-1:Int),Builtin.Slice.slicePlaces ((n:Int)-1) (-1) (-1))) _ _ s;have e:Builtin.Slice.slicePlaces ((n:Int)-1) (-1) (-1)=n:=by
  unfold Builtin.Slice.slicePlaces;have h1:¬((-1:Int)>0):=by omega
  simp only[h1,if_false,Int.neg_neg,Int.ediv_one];split<;>omega
 rw[e];exact Q8 h
theorem rM{α β:Type}{f g:α->Option β}:∀{l:List α},(∀m∈l,f m=g m)->l.filterMap f=l.filterMap g
 |[],_=>rfl
 |a::l,h=>by rw[Zr,Zr,h a QY,rM fun m hm=>h m (QU _ hm)]
theorem sL(xs:Array Q6):((Qe xs.size).filterMap fun(m:Nat)=>xs[((xs.size:Int)-1+(m:Int) * -1).toNat]?).toArray=xs.toList.reverse.toArray:=by
 have e:∀m∈Qe xs.size,(fun(m:Nat)=>xs[((xs.size:Int)-1+(m:Int) * -1).toNat]?) m=((fun k=>xs[k]?) ∘ fun m=>xs.size-1-m) m:=fun m hm=>by
  have:=Ql.mp hm;have e2:((xs.size:Int)-1+(m:Int) * -1).toNat=xs.size-1-m:=by omega
  show xs[((xs.size:Int)-1+(m:Int) * -1).toNat]?=xs[xs.size-1-m]?;rw[e2]
 rw[rM e,<-List.filterMap_map,mi,List.filterMap_reverse];have:=pick_run xs 0 xs.size;simp only[Nat.zero_add,List.map_id',List.drop_zero]at this;rw[this,Zt (by simp)]
theorem iI{t sl:Addr}{items:Array Q6}{tt:Tok}{Q:Q6->QQ->Prop}(ht:IsTup s.heap t items)(hs:s.heap.IsSliceOf sl .none .none (.int (-1) tt))
  (h:Q (.ref s.heap.objs.size) { s with heap:=s.heap.push { cls:=.type "tuple",data:=.seq items.toList.reverse.toArray } })
  (hsz:items.size<=QN):wpAny (Qx prog w) A (getItem (.ref t) (.ref sl)) Q E s:=by
 have htake:sizeOk (.seq items.toList.reverse.toArray):=by
  show items.toList.reverse.toArray.size<=QN;rw[QM,List.length_reverse,QF];omega
 obtain⟨os,hos,hcs,hds⟩:=id hs;have hTs:s.TypeIs (.ref sl) "slice":=⟨os,hos,hcs⟩;unfold getItem;try with_reducible refine wpAny_holding ?_
 first|refine Q2 (Q8 ?_)|skip
 refine Q2 (wpAny_sequenceKey ht.typeIs (by decide) ?_);refine Q2 (wpAny_callSpecial?_slot (name:=Str.ofString "__getitem__") ht.typeIs PyProof.Rows.slot_tuple_getitem (wpAny_call_entry PyProof.Rows.slot_tuple_getitem ht.typeIs entry_tuple_getitem ?_ (args_tuple_getitem _ _)));show wpAny _ _ (Builtin.Tuple.tupleItemsOf (.ref t) >>= _) _ _ s;refine Q2 (tupleItemsOf_ ht (Q2 (wpAny_typeOf hTs ?_)));rw[if_pos (by decide)];refine Q2 (o3 hs ?_);have hno:¬(((items.size:Int)-1 == 0&&(-1:Int) == 1&&items.size == items.size)=true):=by
  intro q;rw[Z0,Z0]at q;exact absurd q.1.2 (by decide)
 show wpAny _ _ (if ((items.size:Int)-1 == 0&&(-1:Int) == 1&&items.size == items.size)=true then _ else _) _ _ s;rw[if_neg hno,sL];first
  |exact Q2 (m:=Builtin.Tuple.tupleExact _) (wpAny_newObj_type (Q8 ⟨_,rfl,Q8 h⟩) htake)
  |exact Q2 (m:=Builtin.Tuple.tupleExact _) (wpAny_newObj_type (Q2 (Q8 (Q8 ⟨_,rfl,Q8 h⟩))) htake)
end
section
variable{X:Cx}{K:Q5}
def HN(K:Q5)(te ts:TE):TE:=fun σ H Q=>te σ H fun x H1=>ts σ H1 fun y H2=>∃(a:Addr) (xs:List V),x=.ref a/\SqT K H2 a xs/\y=.int (-1)/\∀p,H2 p=none->Q (.ref p) (upd H2 p (.tup xs.reverse))
theorem ye{e st:Qq}{te ts:TE}{pos p2:Pos}(he:WE X e te)(hst:WE X st ts):WE X (.Subscript e (.Slice none none (some st) p2) pos) (HN X.K te ts):=by
 constructor;intro pins s σ H Q I h;refine Subscript_ (thn (he.h pins s σ H _ I h) fun v s1 hz=>?_);obtain⟨x,H1,I1,r1,q1⟩:=hz;refine wpAny_Slice ?_;rw[evalPart_none];refine Q8 (Q8 ?_);show wpAny _ _ (eval st X.env) _ _ s1;refine thn (hst.h pins s1 σ H1 _ I1 q1) fun vs s3 hz=>?_;obtain⟨y,H3,I3,ry,a,xs,rfl,hx,rfl,q⟩:=hz;cases r1;obtain⟨t,rfl⟩:=(show ∃t,vs=Value.int (-1) t from ry);have I4:Inv X pins σ H3 { s3 with heap:=s3.heap.push { cls:=.type "slice",data:=.fields #[.none,.none,.int (-1) t] } }:=I3.kept (t':=s3.toks) fun b ob q=>Q4 _ q;obtain⟨its,r,ht,hz⟩:=I4.tuple hx;have hlen:=r.length;show wpAny (Qx X.prog X.w) X.A (subscriptTail e (.Slice none none (some st) p2) (.ref a) (.ref s3.heap.objs.size)) (EP X pins σ Q) X.xe { s3 with heap:=s3.heap.push { cls:=.type "slice",data:=.fields #[.none,.none,.int (-1) t] } };refine tail_any (ops:=[.ref a,.ref s3.heap.objs.size]) ht.typeIs slot_tuple_getitem.lookup ?_ (by with_unfolding_all rfl);refine iI ht (Heap.IsSliceOf.new ..) ?_ (by rw[QM]<;>omega);exact⟨.ref _,_,I4.laid (t':=s3.toks) (o:=.tup xs.reverse) (fun b ob q=>Q4 _ q) (QJ _) ⟨by simpa using hz,_,mJ r,xP.new _ _⟩,rfl,q _ (I4.hok.fresh (QJ _))⟩
def tj(x y:U)(S:Sto):Option (U×Sto):=match x,y with
 |.tup us,.int i=>if i=-1 then some (.tup us.reverse,S)else none
 |_,_=>none
theorem vd{e st:Qq}{ca cs:CE}{pos p2:Pos}(ha:QE X e ca)(hs:QE X st cs):QE X (.Subscript e (.Slice none none (some st) p2) pos) (cOp tj ca cs):=
 (ye ha hs).imp fun σ H Q hz=>gN hz fun m ρ S u S' sr lr hc post=>by
 obtain⟨⟨x,S1⟩,h1,h⟩:=Q0.mp hc;obtain⟨⟨y,S2⟩,h3,h4⟩:=Q0.mp h;refine⟨m,ρ,S,_,S1,sr,lr,h1,fun m1 v1 H1 e1 sr1 i1=>⟨m1,ρ,S1,_,S2,sr1,lr.mono e1,h3,fun m2 v2 H2 e2 sr2 i2=>?_⟩⟩;cases x with
 |tup us=>
  cases y with
  |int i=>
   simp only[tj]at h4;split at h4
   ·rename_i hi;cases h4;obtain⟨a,xs,rfl,sa,la⟩:=(i1.mono e2).of_tup;exact⟨a,xs,rfl,sa,by rw[i2.of_int,hi],fun p hp=>iB sr2 la.rev (post.mono (e1.trans e2)) hp⟩
   ·cases h4
  |_=>cases h4
 |_=>cases h4
def JO:R2:=fun x y H Q=>∃k l,x=.bl k/\y=.bl l/\Q (.bl (k == l)) H
theorem rg:OpR X (compareOp .Is) JO:=by
 rintro pins s σ H x y v u Q I rx ry ⟨k,l,rfl,rfl,q⟩;cases rx;cases ry;exact PyProof.Rows.is_bool ⟨.bl (k == l),H,I,rfl,q⟩
def F2:U->U->Sto->Option (U×Sto)
 |.bl a,.bl b,S=>some (.bl (a == b),S)
 |_,_,_=>none
theorem Fc:OpP K JO F2:=by
 intro m S H x y v w u S' Q sr ix iy hf post;unfold F2 at hf;split at hf
 ·cases hf;exact⟨_,_,ix.of_bl,iy.of_bl,post m _ H .refl sr .bl_⟩
 ·cases hf
end
def EC(K:Q5)(w:Qm):List V->Hp->VK->Prop:=fun xs H Q=>∃(p:Addr) (ys:List V) (ps0:List (Int×Int)),xs=[.ref p]/\SqT K H p ys/\PrL K H ys ps0/\ps0.length<=1200/\
 ∀(l:Addr) (es:Array (Int×Q6)) (ep:Nat) (t:SetTable) (zs:List V) (ps:List (Int×Int)),H l=none->bh zs (es.toList.map (·.2))->PrL K H zs ps->ps.Nodup->(∀y,y∈ps↔y∈ps0)->ps.length<=1200->Q (.ref l) (upd H l (Aj w l es ep t))
theorem Cu{X:Cx}(hc:X.calm=true)(hu:X.A.units+64<cLine):cS X (.type "set") (EC X.K X.w):=by
 rintro pins s σ H xs us Q I r ⟨p,ys,ps0,rfl,hL,hp,hn,q⟩;obtain⟨u,rfl,ru⟩:=f6 r;cases ru;obtain⟨its,rv,pl,hz⟩:=I.tuple hL;have hlen:=kq hp;have hpa:=qY I hp rv;have li:its.length=ps0.length:=cG hpa;refine BM (show X.A.handled=none from I.ok.hd hc) hu pl hpa (by omega) fun h' tk es ep t ps S oe sz mem old=>?_;obtain⟨zs,vz,pz⟩:=pM (K:=X.K) (H:=H) S.el fun e he=>by
  obtain⟨j,hj⟩:=oe e he;have hjl:=(Q9.mp hj).1;obtain⟨v,hv⟩:∃v,ys[j]?=some v:=⟨ys[j]'(by omega),Q7 _⟩;obtain⟨p',a,g1,e1,sq⟩:=vt hp hv;have rel:=kC rv hv hj;subst e1;have e2:e.2=.ref a:=rel;refine⟨p',a,e2,sq,?_⟩;have pg:=dS hpa (i:=j) (by omega);rw[QX,hj,QX,g1]at pg;obtain⟨b,o,t1,t2,n,x1,x2,x3⟩:=pg;exact⟨b,o,t1,t2,n,x1,old b o x2,x3⟩
 obtain⟨o,go,so⟩:=S.so;have hf:=I.hok.fresh (QJ s.heap.objs.size);have lp:ps.length<=1200:=by have:=S.el.len;simp only[QF]at this;omega
 exact⟨.ref s.heap.objs.size,_,I.laid (o:=Aj X.w s.heap.objs.size es ep t) (t':=tk) old (QJ _) ⟨⟨o,go,so⟩,⟨o,go⟩,fun h1 h2 ⟨o,g,so⟩ m=>⟨o,m o g,so⟩⟩,rfl,q _ es ep t zs ps hf vz pz S.nd mem lp⟩
open Classical in
def fR(ce:CE):CE:=fun ρ S=>(ce ρ S).bind fun p=>match p.1 with
 |.tup us=>(kA us).bind fun ps=>if ps.length<64 then some (.ref p.2.length,p.2++[.lst ((dR ps).map pP)])else none
 |_=>none
theorem sI{X:Cx}{o:Qq}{co:CE}{p1 p2 cpos pos:Pos}(hcm:X.calm=true)(hu:X.A.units+64<cLine)(hg:L2.Gl X "sorted")(hm:X.mg "sorted"=none)(hg2:L2.Gl X "set")(hm2:X.mg "set"=none)(ho:QE X o co)
  (he1:QR [o] X.env=(false,eval o X.env)::QR [] X.env:=by rfl) (hpl1:(ZD cpos (QR [] X.env)).any (·.1)=false:=by rfl)
  (he:QR [.Call (.Name "set" p2) [o] [] cpos] X.env=(false,eval (.Call (.Name "set" p2) [o] [] cpos) X.env)::QR [] X.env:=by rfl) (hpl:(ZD pos (QR [] X.env)).any (·.1)=false:=by rfl) :
  QE X (.Call (.Name "sorted" p1) [.Call (.Name "set" p2) [o] [] cpos] [] pos) (fR co):=
 (fA (kE hcm) hg hm OG.fi (bS (fW (Cu hcm hu) hg2 hm2 nC (bS ho dQ he1) (by decide) (by decide) he1 hpl1) dQ he) (by decide) (by decide) he hpl).imp fun σ H Q hz=>gN hz fun m ρ S u S' sr lr hc post=>by
  obtain⟨⟨x,S1⟩,h1,h⟩:=Q0.mp hc;refine⟨m,ρ,S,x,S1,sr,lr,h1,fun m1 v1 H1 e1 sr1 i1=>?_⟩;cases x with
  |tup us=>
   simp only at h;obtain⟨ps,hn,h⟩:=Q0.mp h;split at h<;>try cases h
   rename_i hcc;obtain⟨a,xs,rfl,sa,la⟩:=i1.of_tup;rw[kr hn]at la;have pr:=vn la;refine⟨a,xs,ps,rfl,sa,pr,by omega,fun lS es ep t zs qs hl vz pz nd mem hq=>?_⟩;have sm:tQ H1 (upd H1 lS (Aj X.w lS es ep t)):=dE hl _;refine⟨lS,es,ep,t,zs,qs,rfl,aP,vz,mX sm pz,nd,Nat.lt_of_le_of_lt (List.Nodup.length_le_of_subset nd fun y hy=>(mem y).mp hy) hcc,fun l zs' ps' q hl2 pz' pp aq=>?_⟩;have il:=pL (m:=m1) pz' q.toList (eS aq.1);have e:(q.toList.map fun i=>pP (ps'.getD i (0,0)))=(dR ps).map pP:=by rw[rZ aq pp mem,Qs];rfl
   rw[e]at il;exact b8 (sr1.same sm) il (post.mono (e1.trans (.of (cH sm)))) hl2
  |_=>cases h
end OP
local macro_rules
 | `(tactic| rwa $s:rwRuleSeq) => do
  let ts : Array (Lean.TSyntax `term) := s.raw[1].getSepArgs.map fun r => ⟨r[1]⟩
  let us : Array (Lean.TSyntax `term) := (("A0 tY x_c xK lH mG jU mE HK D2 D1 Kh Hb Ha Hc DI uf ue ud GZ DG DD DH A2 px fw eI eG Ds Ab DL Ad Ae pA xX qv Ac pq jW Dz Dy Dx DV Ba DC DB A9 ub ua Ki Hs Hr nG jV HI D0 DZ Ht DS D4 D3 Kb GU GS GR GQ Hi Hj Hk Hm GP Dv Dw DN DO DP DM Be Du DK Hg Kj Kk Hy He Hx Hd Hz Hf Hv Hu at0 at1 at2 at3 ix0 ix1 ix2 Option.bind_some List.getElem?_cons_zero List.getElem?_cons_succ List.set_cons_zero List.set_cons_succ List.length_cons List.length_nil List.map_cons List.map_nil decide_true decide_false Bool.not_true Bool.not_false Hw DU DT Kc GX GW GV DJ A5 A4 A3 A6 Hn Hq Hh DQ Km HH HG HF HJ Kl HE HD HC HB HA DW Kg x_p Kf Ke Kd DY Bc Bb Dp Dq Dr tZ A7 A8 DR ga ga0 gs gs0 Option.join_some Nat.add_zero List.cons_append List.nil_append List.append_assoc" : String).splitOn " ").toArray.map fun x => ⟨(Lean.mkIdent ((x.splitOn ".").foldl Lean.Name.str Lean.Name.anonymous)).raw⟩
  let vs:=ts++us
  `(tactic| simp only [$[$vs:term],*])
namespace OQ
open PySem PySem.Spec PyProof.Rows L2 OG OP
theorem l9{m:Int}(h0:0<=m)(h:m<2^60):m.natAbs.log2<9000:=v8 h0 h
theorem rn{κ α:Type}[DecidableEq κ](ps:List (κ×α))(b:κ)(v:α):(jI ps b v).length<=ps.length+1:=by
 unfold jI;split<;>simp
theorem vO{α:Type}{l:List α}{k:Nat}{x:α}(h:l[k]?=some x):k<l.length:=(Q9.mp h).1
theorem aD{α:Type}{l r:List α}{k:Nat}{x:α}(h:l[k]?=some x):(l++r)[k]?=some x:=by rw[Qv (vO h)];exact h
theorem mz{ok:Sto->Prop}{g:CG}{ct:CT}{ce:CE}{l:Nat}{ρ:Rho}{S:Sto}(h:ok S):bO ok g ct ce l [] ρ S=some S:=by rw[bO,if_pos h]
theorem oP{ok:Sto->Prop}{g:CG}{ct:CT}{ce:CE}{l:Nat}{ρ ρ0:Rho}{S S0 S1:Sto}{u:U}{us:List U}(h:ok S)(hg:g u ρ S=some (ρ0,S0))(ht:ct ρ0 S0=some (false,S1)):bO ok g ct ce l (u::us) ρ S=bO ok g ct ce l us ρ0 S1:=by
 rw[bO,if_pos h,hg,Q3,ht,Q3,if_neg QC]
theorem my{ok:Sto->Prop}{g:CG}{ct:CT}{ce:CE}{l:Nat}{ρ ρ0:Rho}{S S0 S1 S2:Sto}{u x:U}{us ys:List U}(h:ok S)(hg:g u ρ S=some (ρ0,S0))(ht:ct ρ0 S0=some (true,S1))(he:ce ρ0 S1=some (x,S2))(hl:S2[l]?=some (.lst ys))(hn:ys.length<LIM) :
  bO ok g ct ce l (u::us) ρ S=bO ok g ct ce l us ρ0 (S2.set l (.lst (ys++[x]))):=by
 rw[bO,if_pos h,hg,Q3,ht,Q3,if_pos rfl,he,Q3];simp only[hl,hn,if_true]
def Dd(k:Nat)(S:Sto)(u v:U):Prop:=∃d,Dt S u d/\Dt S v d/\d.canLay0=true/\d.depth<=k
def xE(k:Nat)(S:Sto)(us vs:List U):Prop:=∃ds,DtL S us ds/\DtL S vs ds/\PyData.canLayAll0 ds=true/\PyData.depthAll ds<=k
section
variable{k:Nat}{S:Sto}{us vs:List U}
theorem xE.nil:xE k S [] []:=⟨[],.nil,.nil,rfl,ZN _⟩
theorem Dd.lst{l l':Nat}(h1:S[l]?=some (.lst us))(h2:S[l']?=some (.lst vs))(h:xE k S us vs):Dd (k+1) S (.ref l) (.ref l'):=by
 obtain⟨ds,a,b,c,e⟩:=h;refine⟨.list ds,.lst h1 a,.lst h2 b,by unfold PyData.canLay0;exact c,?_⟩;unfold PyData.depth;omega
end
section
variable{S:Sto}{l l':Nat}{us:List U}{u:U}{i:Int}
def rA(l:Nat)(i:Int)(S:Sto):Option O->Option (U×Sto)
 |some (.lst us)=>if 0<=i/\i<us.length/\us.length<=LIM then(us[i.toNat]?).bind fun u=>some (u,S.set l (.lst (us.eraseIdx i.toNat)))else none
 |_=>none
theorem A1:mx (.ref l) [.int i] S=rA l i S S[l]?:=by
 unfold mx rA;rfl
theorem xV(h0:0<=i)(h1:i<us.length)(hL:us.length<=LIM)(hu:us[i.toNat]?=some u):rA l i S (some (.lst us))=some (u,S.set l (.lst (us.eraseIdx i.toNat))):=by
 simp only[rA];rw[if_pos ⟨h0,h1,hL⟩,hu,Q3]
def kNg:U×Sto->Option (U×Sto)
 |(.int i,S)=>some (.int (-i),S)
 |_=>none
theorem nH{ca:CE}{ρ:Rho}:jN ca ρ S=(ca ρ S).bind kNg:=by
 unfold jN;congr 1;funext p;obtain⟨x,S⟩:=p;cases x<;>rfl
theorem ji:kNg (.int i,S)=some (.int (-i),S):=rfl
theorem C8{vs:List U}:atI (vs++[u]) (-1)=some u:=by
 unfold atI ixN;rw[if_neg (by omega),if_pos (by rw[Qz,ZY];omega)];simp only[Q3];have e:((-1:Int)+((vs++[u]).length:Int)).toNat=vs.length:=by rw[Qz,ZY];omega
 rw[e];simp
theorem Fq(neg:Bool)(h:S[l]?=some (.lst us))(h':S[l']?=some (.lst [])):rN neg (.ref l) (.ref l') S=some (.bl (if neg then !decide (us=[])else decide (us=[])),S):=by
 by_cases e:us=[]
 ·subst e;have k:=(Dd.lst (k:=0) h h' .nil);obtain⟨d,a,b,c,e⟩:=k;rw[decide_eq_true rfl];exact p8 neg (.inl ⟨d,d,a,b,⟨c,Qo e (by omega)⟩,⟨c,Qo e (by omega)⟩,(SeqAt.eqv_refl d c).symm⟩)
 ·rw[decide_eq_false e];exact p8 neg (.inr ⟨l,l',us,[],rfl,rfl,h,h',by simpa using e,rfl⟩)
end
theorem vN{α β:Type}(f:α->β)(l:List α)(k:Nat):(l.eraseIdx k).map f=(l.map f).eraseIdx k:=by
 rw[List.eraseIdx_eq_take_drop_succ,List.eraseIdx_eq_take_drop_succ,Zi,List.map_take,List.map_drop]
theorem kn(n:Nat):bx 0 n=((Qe n).map fun i:Nat=>(i:Int)).map U.int:=by
 unfold bx;rw[Qs];refine Zw fun i _=>?_;simp
inductive Ev where
 |beg (a:Int)|look (a b x:Int)|put (a b x:Int)|fin (d:Bool) (a:Int)
structure Att where
 en:Option Bool
 lk:List (Int×Int)
 nd:List (Int×Int)
 ps:List (Int×Int)
 bf:List Int
abbrev St:=List (Int×Att)
theorem JA{neg:Bool}{b:Int}{us:List Int}{S:Sto}:kIn neg (.int b) S (some (.lst (us.map U.int)))=some (.bl (if neg then !decide (b∈us)else decide (b∈us)),S):=by
 rw[Ho ⟨rfl,by simp[fQ]⟩];have e:inU (.int b) (us.map U.int)=decide (b∈us):=by
  unfold inU;rw[List.any_map,ZE,List.any_eq_true,decide_eq_true_eq];constructor
  ·rintro⟨x,hx,hh⟩;simp[eqF]at hh;subst hh;exact hx
  ·intro hx;exact⟨b,hx,by simp[eqF]⟩
 rw[e]
theorem fY{α:Type}{ok:Sto->Prop}{gg:CG}{ct:CT}{ce:CE}{S:Sto}{f:α->U}{p:α->Bool}{v:α->U}{Rel:Rho->Prop}(hok:∀ys G,ok (S++(.lst ys::G))) :
  ∀(xs:List α) (ys:List U) (G:Sto) (ρ:Rho),Rel ρ->ys.length+xs.length<=9999->
  (∀x∈xs,∀ys G ρ,Rel ρ->∃ρ0 G1,Rel ρ0/\gg (f x) ρ (S++(.lst ys::G))=some (ρ0,S++(.lst ys::G))/\ct ρ0 (S++(.lst ys::G))=some (p x,S++(.lst ys::(G++G1)))/\
   (p x=true->∃G2,ce ρ0 (S++(.lst ys::(G++G1)))=some (v x,S++(.lst ys::(G++G1++G2)))))->
  ∃G',bO ok gg ct ce S.length (xs.map f) ρ (S++(.lst ys::G))=some (S++(.lst (ys++(xs.filter p).map v)::(G++G')))
 |[],ys,G,ρ,_,_,_=>⟨[],by simp only[Zl,List.filter_nil,Qd];exact mz (hok ys G)⟩
 |x::xs,ys,G,ρ,hr,hl,hb=>by
  rw[QD]at hl;obtain⟨ρ0,G1,r0,h1,h2,h3⟩:=hb x QY ys G ρ hr;have hb':=fun x (hx:x∈xs)=>hb x (QU _ hx);cases hp:p x with
  |false=>
   rw[hp]at h2;obtain⟨G',h⟩:=fY hok xs ys (G++G1) ρ0 r0 (by omega) hb';refine⟨G1++G',?_⟩;rw[Qk,List.filter_cons_of_neg (by simp[hp])];refine(oP (hok ys G) h1 h2).trans ?_;rw[h,QB]
  |true=>
   rw[hp]at h2;obtain⟨G2,h4⟩:=h3 hp;obtain⟨G',h⟩:=fY hok xs (ys++[v x]) (G++G1++G2) ρ0 r0 (by simp;omega) hb';refine⟨G1++(G2++G'),?_⟩;rw[Qk,List.filter_cons_of_pos hp];refine(my (hok ys G) h1 h2 h4 (by rw[ga0];rfl) (by unfold LIM;omega)).trans ?_;rw[gs0];simp only[List.set_cons_zero];rw[h];simp only[Qk,QB,ZZ,ZX]
theorem nz{α:Type}{ok:Sto->Prop}{gg:CG}{ce:CE}{S:Sto}{f:α->U}{v:α->U}{Rel:Rho->Prop}(hok:∀ys G,ok (S++(.lst ys::G))) :
  ∀(xs:List α) (ys:List U) (G:Sto) (ρ:Rho),Rel ρ->ys.length+xs.length<=9999->
  (∀x∈xs,∀ys G ρ,Rel ρ->∃ρ0 G1,Rel ρ0/\gg (f x) ρ (S++(.lst ys::G))=some (ρ0,S++(.lst ys::G))/\ce ρ0 (S++(.lst ys::G))=some (v x,S++(.lst ys::(G++G1))))->
  ∃G',gP ok gg ce S.length (xs.map f) ρ (S++(.lst ys::G))=some (S++(.lst (ys++xs.map v)::(G++G')))
 |[],ys,G,ρ,_,_,_=>⟨[],by simp only[Zl,Qd];exact nA (hok ys G)⟩
 |x::xs,ys,G,ρ,hr,hl,hb=>by
  rw[QD]at hl;obtain⟨ρ0,G1,r0,h1,h2⟩:=hb x QY ys G ρ hr;obtain⟨G',h⟩:=nz hok xs (ys++[v x]) (G++G1) ρ0 r0 (by simp;omega) (fun x hx=>hb x (QU _ hx));refine⟨G1++G',?_⟩;rw[Qk];refine(kY (hok ys G) h1 h2 (by rw[ga0];rfl) (by unfold LIM;omega)).trans ?_;rw[gs0];simp only[List.set_cons_zero];rw[h];simp only[Qk,QB,ZZ,ZX]
theorem yy{Z:Sto}{r:Nat}{o o':O}(h:Z[r]?=some o):(Z.set r o').set r o=Z:=by
 rw[List.set_set];refine X1 fun i=>?_;rw[ZL];split
 ·subst i;obtain⟨h1,h2⟩:=Q9.mp h;simp[h1,h2]
 ·rfl
def eX:CS:=
 (eA (fS (jP .int (ao 0)) (xo (jP .bool (ao 0)))))
theorem tx{a0:U}{S:Sto}:fnU 1 1 (eX ) [a0] S=((eX ) [some a0] S).bind kFn:=lT rfl
def dH:CS:=
 (bu (da 3 (cOp tu (cOp cT (cOp cT (cOp cT (cOp kQ (ao 3) (ao 3)) (cOp kQ (cC (.int 50021)) (ao 3))) (cOp kQ (cC (.int 19)) (ao 5))) (cC (.int 7))) (cC (.int 2147483563))))
  (da 4 (cOp cT (cOp kQ (ao 4) (cC (.int 2147483563))) (ao 3))))
def cZ:CS:=
 (bu (da 2 (cOp cT (cOp kQ (cC (.int 5)) (ao 1)) (cC (.int 3))))
  (bu (jD (aK (cOp fLt (ao 1) (cCB gY (ag (ao 0) aB)))) (da 2 (cOp fIx (ao 0) (ao 1))) dC)
  (bu (jD (aK (cOp fEq (cOp tu (ao 2) (cC (.int 2))) (cC (.int 0)))) (eA (iM (ag (cOp AK (ao 2) (cC (.int 2))) aB))) dC)
  (bu (da 3 (cOp tu (cOp cT (cOp cT (cOp kQ (ao 2) (cC (.int 30011))) (cOp kQ (cC (.int 977)) (ao 1))) (cC (.int 41))) (cC (.int 2147483563))))
  (bu (da 4 (cC (.int 0)))
  (bu (lR (cK (ag (cC (.int 60)) aB)) (gNm 5) (dH ))
  (eA (iM (ag (ao 4) aB)))))))))
theorem qe{a0 a1:U}{S:Sto}:fnU 6 2 (cZ ) [a0,a1] S=((cZ ) [some a0,some a1,none,none,none,none] S).bind kFn:=lT rfl
def eY:CS:=
 (bu (da 2 (cOp tu (cOp fIx (ao 0) (cC (.int 0))) (ao 1)))
  (bu (xn (ao 0) (cC (.int 0)) (cOp AK (cOp fIx (ao 0) (cC (.int 0))) (ao 1)))
  (eA (ao 2))))
theorem tH{a0 a1:U}{S:Sto}:fnU 3 2 (eY ) [a0,a1] S=((eY ) [some a0,some a1,none] S).bind kFn:=lT rfl
def dj:CS:=
 (eA (fS (jP .int (ao 0)) (xo (jP .bool (ao 0)))))
theorem oJ{a0:U}{S:Sto}:fnU 1 1 (dj ) [a0] S=((dj ) [some a0] S).bind kFn:=lT rfl
def eM(aw:Fn)(fuel:Nat):CS:=
 (bu (da 4 (cCB aw (ag (ao 0) (ag (cCB gY (ag (ao 2) aB)) aB))))
  (zQ (cBM gM (ao 3) (ag (cBM mx (ao 2) (ag (ao 4) aB)) aB))))
def dn(aw:Fn)(fuel:Nat):CS:=
 (bu (da 2 (jc (ag (ao 1) aB)))
  (bu (da 3 (iM aB))
  (bu (eB (aK (cOp (rN true) (ao 2) (iM aB))) (eM aw fuel) fuel)
  (eA (ao 3)))))
theorem oK{aw:Fn}{fuel:Nat}{a0 a1:U}{S:Sto}:fnU 5 2 (dn aw fuel) [a0,a1] S=((dn aw fuel) [some a0,some a1,none,none,none] S).bind kFn:=lT rfl
def dJ(aw aU:Fn):CS:=
 (bu (da 6 (cm (iTp (ao 3)) (gNm 0) (aK (cOp fLt (cCB aw (ag (ao 1) (ag (cC (.int 5)) aB))) (cC (.int 2)))) (ao 0) 1 [0]))
  (zQ (cBM gM (ao 4) (ag (cCB iJ (ag (cOp Df (ao 6) (cOp wI (cC (.int 1)) (cOp kQ (cC (.int 2)) (cCB F3 (ag (cOp fEq (cCB aw (ag (ao 0) (ag (cC (.int 7)) aB))) (cC (.int 0))) aB))))) aB)) aB))))
def dI(aw aU:Fn):CS:=
 (bu (da 9 (cCB aw (ag (ao 0) (ag (ao 2) aB))))
  (bu (da 5 (cCB aw (ag (ao 0) (ag (cCB gY (ag (ao 4) aB)) aB))))
  (bu (da 6 (cOp cT (iM (ag (jN (cC (.int 1))) aB)) (cm (iTp (cOp fIx (ao 4) (ao 5))) (gNm 0) (aK (cOp fNe (ao 0) (ao 1))) (ao 0) 1 [9])))
  (bu (da 10 (cOp cT (iM (ag (jN (cC (.int 1))) aB)) (cm (iTp (cSl (ao 6) (some (cC (.int 1))) none)) (gNm 0) (aK (cOp fLt (cBM cL (ao 2) (ag (ao 0) aB)) (cBM cL (ao 2) (ag (ao 1) aB)))) (ao 0) 1 [9,3])))
  (gR (ao 7) (ag (ao 9) (ag (ao 5) aB)) (cOp fIx (iM (ag (cOp fIx (ao 10) (jN (cC (.int 1)))) (ag (cOp fIx (ao 6) (cCB aw (ag (ao 0) (ag (cCB gY (ag (ao 6) aB)) aB)))) aB))) (cCB F3 (ag (cOp fEq (cCB aw (ag (ao 0) (ag (cC (.int 5)) aB))) (cC (.int 0))) aB))))))))
def cQ(aw aU:Fn):CS:=
 (bu (da 9 (cCB aw (ag (ao 0) (ag (ao 2) aB))))
  (bu (da 12 (cCB aw (ag (ao 0) (ag (ao 2) aB))))
  (jD (Ju (aK (cOp fNe (ao 9) (ao 12))) (cOr (aK (cOp fLt (cBM cL (ao 3) (ag (ao 9) aB)) (cBM cL (ao 3) (ag (ao 12) aB)))) (aK (cOp fEq (cCB aw (ag (ao 0) (ag (cC (.int 6)) aB))) (cC (.int 0)))))) (gR (ao 11) (ag (ao 9) (ag (ao 12) aB)) (cC (.bl true))) dC)))
def dZ(aw aU:Fn):CS:=
 (bu (da 2 (cOp cT (cC (.int 1)) (cCB aw (ag (ao 0) (ag (ao 1) aB)))))
  (bu (da 3 (cCB aU (ag (ao 0) (ag (ao 2) aB))))
  (bu (da 4 (iM aB))
  (bu (lR (cK (ag (cOp cT (cC (.int 1)) (cCB aw (ag (ao 0) (ag (cOp fIx (iM (ag (cC (.int 3)) (ag (cC (.int 3)) (ag (cC (.int 6)) aB)))) (cCB aw (ag (ao 0) (ag (cC (.int 3)) aB)))) aB)))) aB)) (gNm 5) (dJ aw aU))
  (bu (da 7 rV)
  (bu (lR (cK (ag (cCB aw (ag (ao 0) (ag (cOp cT (cOp kQ (cC (.int 2)) (ao 2)) (cC (.int 1))) aB))) aB)) (gNm 8) (dI aw aU))
  (bu (da 11 rV)
  (bu (lR (cK (ag (cCB aw (ag (ao 0) (ag (cOp cT (ao 2) (cC (.int 1))) aB))) aB)) (gNm 8) (cQ aw aU))
  (eA (bw (ag (ao 2) (ag (cCB iJ (ag (cCB eE (ag (ao 11) aB)) aB)) (ag (cCB iJ (ag (ao 4) aB)) (ag (cCB iJ (ag (cCB eE (ag (rW (ao 7) (gNm 0) (cOp cT (ao 0) (bw (ag (cOp CZ (ao 1) (ao 0)) aB))) 1 [7]) aB)) aB)) aB))))))))))))))
theorem qf{aw aU:Fn}{a0 a1:U}{S:Sto}:fnU 13 2 (dZ aw aU) [a0,a1] S=((dZ aw aU) [some a0,some a1,none,none,none,none,none,none,none,none,none,none,none] S).bind kFn:=lT rfl
theorem kS{α:Type}:∀{l:List α} {i:Nat} (h:i<l.length),(l[i]::l.eraseIdx i).Perm l
 |[],_,h=>absurd h (Nat.not_lt_zero _)
 |a::l,0,_=>List.Perm.refl _
 |a::l,i+1,h=>(List.Perm.swap a _ _).trans (List.Perm.cons a (kS (l:=l) (i:=i) (by simpa using h)))
structure Wl(lw:Nat)(T T':Sto):Prop where
 len:T.length<=T'.length
 keep:∀j,j<T.length->j≠lw->T'[j]?=T[j]?
 well:∃z,T'[lw]?=some (.lst [.int z])
section
variable{lw j:Nat}{T T1 T2 S:Sto}{o:O}{m:Int}
theorem Wl.get(w:Wl lw T T1)(h:T[j]?=some o)(n:j≠lw):T1[j]?=some o:=by rw[w.keep j (Q9.mp h).1 n];exact h
theorem Wl.trans(a:Wl lw T T1)(b:Wl lw T1 T2):Wl lw T T2:=⟨Qo a.len b.len,fun j hj n=>by rw[b.keep j (Qy hj a.len) n,a.keep j hj n],b.well⟩
theorem Wl.refl(h:∃z,T[lw]?=some (.lst [.int z])):Wl lw T T:=⟨QJ _,fun _ _ _=>rfl,h⟩
theorem Wl.app(h:∃z,T[lw]?=some (.lst [.int z]))(X:Sto):Wl lw T (T++X):=⟨by simp,fun j hj _=>Qv hj,by obtain⟨z,h⟩:=h;exact⟨z,aD h⟩⟩
def gk:Fn:=fnU 3 2 eY
theorem cE(h:∃z,T[lw]?=some (.lst [.int z]))(hm:0<m)(hb:m<2^60):∃d T1,gk [.ref lw,.int m] T=some (.int d,T1)/\Wl lw T T1/\T1.length=T.length/\0<=d/\d<m:=by
 obtain⟨z,h⟩:=h;have hl:=(Q9.mp h).1;refine⟨z % m,T.set lw (.lst [.int (z / m)]),?_,⟨by simp,fun j hj n=>Qp n.symm,⟨_,by rw[ZL,if_pos rfl,if_pos hl]⟩⟩,by simp,Int.emod_nonneg _ (by omega),Int.emod_lt_of_pos _ hm⟩;unfold gk;rw[tH];have dv:∀(j:Int) (S:Sto),AK (.int j) (.int m) S=some (.int (j / m),S):=fun j S=>DX ⟨hm,l9 (by omega) hb⟩;have md:∀(j:Int) (S:Sto),tu (.int j) (.int m) S=some (.int (j % m),S):=fun j S=>xW hm;rwa[eY,h,dv,md]
def xH:Fn:=fnU 6 2 cZ
theorem nL{r0 r1 r2:Option U}:∀(ts:List Int) (a f:Int) (r5:Option U),0<=a->a<2147483563->∃a' f' r5',dA (fun _=>True) (gNm 5) dH (ts.map U.int) [r0,r1,r2,some (.int a),some (.int f),r5] S=some (.nx,[r0,r1,r2,some (.int a'),some (.int f'),r5'],S)
 |[],a,f,r5,_,_=>⟨a,f,r5,eD trivial⟩
 |t::ts,a,f,r5,h0,h1=>by
  obtain⟨a',f',r5',ih⟩:=nL (r0:=r0) (r1:=r1) (r2:=r2) ts ((a*a+50021*a+19*t+7) % 2147483563) (f*2147483563+(a*a+50021*a+19*t+7) % 2147483563) (some (.int t)) (Int.emod_nonneg _ (by decide)) (Int.emod_lt_of_pos _ (by decide));refine⟨a',f',r5',(fK trivial rfl ?_).trans ih⟩;have m1:kQ (.int a) (.int a) S=some (.int (a*a),S):=mH (.inl ⟨by omega,by omega⟩);have m2:kQ (.int 50021) (.int a) S=some (.int (50021*a),S):=mH (.inl (by decide));have m3:kQ (.int 19) (.int t) S=some (.int (19*t),S):=mH (.inl (by decide));have m4:kQ (.int f) (.int 2147483563) S=some (.int (f*2147483563),S):=mH (.inr (by decide));have m5:∀j:Int,tu (.int j) (.int 2147483563) S=some (.int (j % 2147483563),S):=fun j=>xW (by decide);rwa[dH,m1,m2,m3,m4,m5]
theorem Bz(ns:List Int){k:Int}(k0:0<=k):∃z,xH [.kl ns,.int k] S=some (.ref S.length,S++[.lst [.int z]]):=by
 unfold xH;rw[qe];have m1:kQ (.int 5) (.int k) S=some (.int (5*k),S):=mH (.inl (by decide));have m2:∀j:Int,tu (.int j) (.int 2) S=some (.int (j % 2),S):=fun j=>xW (by decide);have m3:∀j:Int,AK (.int j) (.int 2) S=some (.int (j / 2),S):=fun j=>DX ⟨by decide,by decide +kernel⟩;have m4:∀j:Int,kQ (.int j) (.int 30011) S=some (.int (j*30011),S):=fun j=>mH (.inr (by decide));have m5:kQ (.int 977) (.int k) S=some (.int (977*k),S):=mH (.inl (by decide));have m6:∀j:Int,tu (.int j) (.int 2147483563) S=some (.int (j % 2147483563),S):=fun j=>xW (by decide);have r60:cK (ag (cC (.int 60)) aB)=fun ρ S=>some (bx 0 60,fun _=>True,S):=rfl;have er:bx 0 60=((Qe 60).map fun i:Nat=>(i:Int)).map U.int:=by rw[kn,Qs]
 have key:∀num:Int,∃z,((bu (jD (aK (cOp fEq (cOp tu (ao 2) (cC (.int 2))) (cC (.int 0)))) (eA (iM (ag (cOp AK (ao 2) (cC (.int 2))) aB))) dC)
  (bu (da 3 (cOp tu (cOp cT (cOp cT (cOp kQ (ao 2) (cC (.int 30011))) (cOp kQ (cC (.int 977)) (ao 1))) (cC (.int 41))) (cC (.int 2147483563))))
  (bu (da 4 (cC (.int 0)))
  (bu (lR (cK (ag (cC (.int 60)) aB)) (gNm 5) dH)
  (eA (iM (ag (ao 4) aB))))))) [some (.kl ns),some (.int k),some (.int num),none,none,none] S).bind kFn=some (.ref S.length,S++[.lst [.int z]]):=fun num=>by
  by_cases e:num % 2=0
  ·refine⟨num / 2,?_⟩;have e':decide (num % 2=0)=true:=decide_eq_true e;rwa[m2,m3,e']
  ·have e':decide (num % 2=0)=false:=decide_eq_false e;obtain⟨a',f',r5',h⟩:=nL (S:=S) (r0:=some (.kl ns)) (r1:=some (.int k)) (r2:=some (.int num)) ((Qe 60).map fun i:Nat=>(i:Int)) ((num*30011+977*k+41) % 2147483563) 0 none (Int.emod_nonneg _ (by decide)) (Int.emod_lt_of_pos _ (by decide));rw[<-er]at h;refine⟨f',?_⟩;rwa[m2,e',m4,m5,m6,lR,r60,h]
 by_cases hk:k<(ns.length:Int)
 ·have hk':decide (k<(ns.length:Int))=true:=decide_eq_true hk;have hi:k.toNat<ns.length:=by omega
  have ha:atI (ns.map U.int) k=some (.int ns[k.toNat]):=by
   have:=d9 (xs:=ns.map U.int) (j:=k.toNat) (v:=.int ns[k.toNat]) (by rw[Qn,Q7 hi];rfl);rw[show((k.toNat:Nat):Int)=k from by omega]at this;exact this
  obtain⟨z,h⟩:=key ns[k.toNat];refine⟨z,?_⟩;rw[<-h];simp only[cZ,m1,t7,Hl,hk',ha,pq,jW,nG,jV,xK,lH,mG,A0,tY,x_c,Be,A9,ub,ua,jU,mE,DK,Ae,pA,fw,eI,eG,px,Q3,ZU,Qa,List.set_cons_zero,List.set_cons_succ,Option.join_some]
 ·have hk':decide (k<(ns.length:Int))=false:=decide_eq_false hk;obtain⟨z,h⟩:=key (5*k+3);refine⟨z,?_⟩;rw[<-h];simp only[cZ,m1,t7,hk',pq,jW,nG,jV,xK,lH,mG,A0,tY,x_c,Be,A9,ub,ua,jU,mE,DK,Ae,pA,fw,eI,eG,px,Ac,Q3,ZU,Qa,List.set_cons_zero,List.set_cons_succ,Option.join_some]
def eN:Fn:=fnU 5 2 (dn gk 100)
theorem mv{r1:Option U}{jl jf:Nat}(n1:jl≠lw)(n2:jf≠lw)(n3:jl≠jf):∀(fuel:Nat) (left found:List Int) (T:Sto) (r4:Option U),left.length<fuel->T[jl]?=some (.lst (left.map U.int))->T[jf]?=some (.lst (found.map U.int))->(∃z,T[lw]?=some (.lst [.int z]))->left.length+found.length<=900->
  ∃(os:List Int) (T':Sto) (r4':Option U),eB (aK (cOp (rN true) (ao 2) (iM aB))) (eM gk 100) fuel [some (.ref lw),r1,some (.ref jl),some (.ref jf),r4] T=some (.nx,[some (.ref lw),r1,some (.ref jl),some (.ref jf),r4'],T')
   /\T'[jf]?=some (.lst (os.map U.int))/\os.Perm (found++left)/\T.length<=T'.length/\(∀j,j<T.length->j≠lw->j≠jl->j≠jf->T'[j]?=T[j]?)/\∃z,T'[lw]?=some (.lst [.int z])
 |0,left,found,T,r4,hf,_,_,_,_=>absurd hf (by omega)
 |fuel+1,left,found,T,r4,hf,h1,h2,h3,hl=>by
  have q:=Fq true (S:=T++[.lst []]) (l:=jl) (l':=T.length) (us:=left.map U.int) (aD h1) (by rw[ga0];rfl);have ww:∃z,(T++[O.lst []])[lw]?=some (.lst [.int z]):=by obtain⟨z,h⟩:=h3;exact⟨z,aD h⟩
  by_cases e:left=[]
  ·subst e;have q':rN true (.ref jl) (.ref T.length) (T++[.lst []])=some (.bl false,T++[.lst []]):=by rw[q];rfl
   refine⟨found,T++[.lst []],r4,uB ?_,aD h2,by rw[Qd],by simp,fun j hj _ _ _=>Qv hj,ww⟩;rwa[q']
  ·have q':rN true (.ref jl) (.ref T.length) (T++[.lst []])=some (.bl true,T++[.lst []]):=by rw[q];simp[e]
   have lp:=List.length_pos_iff.mpr e;obtain⟨d,T2,e2,w2,l2,d0,d1⟩:=cE (T:=T++[.lst []]) (lw:=lw) (m:=left.length) ww (by omega) (by omega);have hin:d.toNat<left.length:=by omega
   obtain⟨z,hz⟩:∃z,left[d.toNat]?=some z:=⟨_,Q7 hin⟩;have hz':(left.map U.int)[d.toNat]?=some (.int z):=by rw[Qn,hz];rfl
   have hL1:(left.map U.int).length<=LIM:=by unfold LIM;rw[QZ];omega
   have hL2:(found.map U.int).length<LIM:=by unfold LIM;rw[QZ];omega
   have k1:((left.map U.int).length:Int)=left.length:=by rw[QZ]
   have g1:T2[jl]?=some (.lst (left.map U.int)):=w2.get (aD h1) n1;have g2:T2[jf]?=some (.lst (found.map U.int)):=w2.get (aD h2) n2;have g0:(T++[O.lst []])[jl]?=some (.lst (left.map U.int)):=aD h1;have lj:jl<T2.length:=(Q9.mp g1).1;have lf:jf<T2.length:=(Q9.mp g2).1;have em:(left.map U.int).eraseIdx d.toNat=(left.eraseIdx d.toNat).map U.int:=(vN ..).symm;have g3:(T2.set jl (.lst ((left.eraseIdx d.toNat).map U.int)))[jf]?=some (.lst (found.map U.int)):=by rw[Qp n3];exact g2
   have ef:found.map U.int++[.int z]=(found++[z]).map U.int:=by rw[Zi];rfl
   obtain⟨T4,hT4⟩:∃T4,T4=(T2.set jl (.lst ((left.eraseIdx d.toNat).map U.int))).set jf (.lst ((found++[z]).map U.int)):=⟨_,rfl⟩;obtain⟨zz,hzz⟩:=w2.well;obtain⟨os,T',r4',ih,k2,k3,k4,k5,k6⟩:=mv (r1:=r1) n1 n2 n3 fuel (left.eraseIdx d.toNat) (found++[z]) T4 (some (.int d)) (by rw[List.length_eraseIdx,if_pos hin];omega)
    (by rw[hT4,Qp n3.symm,ZL,if_pos rfl,if_pos lj])
    (by rw[hT4,ZL,if_pos rfl,if_pos (by rw[List.length_set];exact lf)])
    ⟨zz,by rw[hT4,Qp n2,Qp n1];exact hzz⟩
    (by rw[List.length_eraseIdx,if_pos hin,Qz,ZY];omega)
   have l4:T4.length=T.length+1:=by rw[hT4,List.length_set,List.length_set,l2,Qz];rfl
   refine⟨os,T',r4',(yh (S0:=T++[.lst []]) ?_ ?_).trans ih,k2,?_,by omega,fun j hj a1 a2 a3=>?_,k6⟩
   ·rwa[q']
   ·rw[hT4];rwa[eM,g0,QZ,e2,g1,g2,g3,A1,xV d0 (by rw[k1];exact d1) hL1 hz',em,Af hL2,ef]
   ·refine k3.trans ?_;rw[QB];refine List.Perm.append_left found ?_;have hz2:left[d.toNat]=z:=by rw[Q7 hin]at hz;exact Option.some.inj hz
    have:=kS hin;rw[hz2]at this;exact this
   ·rw[k5 j (by omega) a1 a2 a3,hT4,Qp (Ne.symm a3),Qp (Ne.symm a2),w2.keep j (by simp;omega) a1,Qv hj]
theorem zf{many:Int}(h:∃z,T[lw]?=some (.lst [.int z]))(m0:0<=many)(m1:many<=90):∃(os:List Int) (T':Sto) (l:Nat),eN [.ref lw,.int many] T=some (.ref l,T')/\T'[l]?=some (.lst (os.map U.int))/\T.length<=l/\Wl lw T T'/\os.length=many.toNat/\os.Nodup/\∀a,a∈os↔0<=a/\a<many:=by
 have hl:lw<T.length:=by obtain⟨z,h⟩:=h;exact(Q9.mp h).1
 obtain⟨rs,hrs⟩:∃rs,rs=(Qe many.toNat).map fun i:Nat=>(i:Int):=⟨_,rfl⟩;have er:bx 0 many.toNat=rs.map U.int:=by rw[hrs,kn,Qs]
 have lr:rs.length=many.toNat:=by rw[hrs];simp
 obtain⟨os,T',r4',e,k2,k3,k4,k5,k6⟩:=mv (lw:=lw) (r1:=some (.int many)) (jl:=T.length) (jf:=T.length+1) (by omega) (by omega) (by omega) 100 rs [] (T++[.lst (rs.map U.int),.lst []]) none (by omega) (by rw[ga0];rfl) (by rw[ga];rfl) (by obtain⟨z,h⟩:=h;exact⟨z,aD h⟩) (by simp;omega);rw[ZX]at k3;have nd:rs.Nodup:=by
  rw[hrs];exact List.Pairwise.map _ (fun a b h e=>h (by omega)) List.nodup_range
 refine⟨os,T',T.length+1,?_,k2,by omega,⟨by simp at k4;omega,fun j hj n=>?_,k6⟩,by rw[k3.length_eq,lr],k3.nodup_iff.mpr nd,fun a=>?_⟩
 ·unfold eN;rw[oK];have hc:0<=many/\many<=1000:=⟨m0,by omega⟩;have ln:(T++[O.lst (rs.map U.int)]).length=T.length+1:=by rw[Qz];rfl
  rwa[dn,jc,hc,and_self,if_true,er,ln,e]
 ·rw[k5 j (by simp;omega) n (by omega) (by omega),Qv hj]
 ·rw[k3.mem_iff,hrs,Qh];constructor
  ·rintro⟨i,hi,rfl⟩;have:=Ql.mp hi;omega
  ·rintro⟨a0,a1⟩;exact⟨a.toNat,Ql.mpr (by omega),by omega⟩
end
section
variable{S:Sto}{jo:Nat}{os:List Int}{a:Int}
theorem jL(h:S[jo]?=some (.lst (os.map U.int)))(ha:a∈os)(hl:os.length<=900):cL (.ref jo) [.int a] S=some (.int (os.idxOf a:Nat),S):=by
 have hL:os.length<=LIM:=by unfold LIM;omega
 simp only[cL,h,fP,Q3,ha,hL,and_self,if_true]
def lJ(many:Int)(tm:U)(wr lk:List (List Int)):U:=.tup [.int many,tm,.tup (wr.map rwU),.tup (lk.map rwU)]
variable{wr:List (List Int)}
theorem Gf{b:Int}(b0:0<=b)(b1:b<wr.length):atI (wr.map rwU) b=some (.tup ((wr.getD b.toNat []).map U.int)):=by
 have hi:b.toNat<wr.length:=by omega
 have:=d9 (xs:=wr.map rwU) (j:=b.toNat) (v:=rwU wr[b.toNat]) (by rw[Qn,Q7 hi];rfl);rw[show((b.toNat:Nat):Int)=b from by omega]at this;rw[this,QX,Q7 hi];rfl
theorem AS{l k:Nat}{us vs:List U}(h1:S[l]?=some (.lst us))(h2:S[k]?=some (.lst vs))(hz:us.length+vs.length<=LIM):cT (.ref l) (.ref k) S=some (.ref S.length,S++[.lst (us++vs)]):=by
 simp only[cT,kR,h1,h2,hz,if_true]
theorem Gg(e:List Int):atI ((-1::e).map U.int) (-1)=some (.int (e.getLast?.getD (-1))):=by
 rcases List.eq_nil_or_concat e with rfl|⟨r,x,rfl⟩
 ·rfl
 ·rw[List.concat_eq_append,<-ZZ,Zi,List.getLast?_append];exact C8
end
section
variable{S G:Sto}{x:List Int}
theorem oM{α:Type}{ok:Sto->Prop}{gg:CG}{ce:CE}{S:Sto}{f:α->U}{v:α->U}{Rel:Rho->Prop}(hok:∀ys G,ok (S++(.lst ys::G))) :
  ∀(xs:List α) (ys:List U) (G:Sto) (ρ:Rho),Rel ρ->ys.length+xs.length<=9999->
  (∀x∈xs,∀ys G ρ,Rel ρ->∃ρ0,Rel ρ0/\gg (f x) ρ (S++(.lst ys::G))=some (ρ0,S++(.lst ys::G))/\ce ρ0 (S++(.lst ys::G))=some (v x,S++(.lst ys::G)))->
  gP ok gg ce S.length (xs.map f) ρ (S++(.lst ys::G))=some (S++(.lst (ys++xs.map v)::G))
 |[],ys,G,ρ,_,_,_=>by simp only[Zl,Qd];exact nA (hok ys G)
 |x::xs,ys,G,ρ,hr,hl,hb=>by
  rw[QD]at hl;obtain⟨ρ0,r0,h1,h2⟩:=hb x QY ys G ρ hr;have h:=oM hok xs (ys++[v x]) G ρ0 r0 (by simp;omega) (fun x hx=>hb x (QU _ hx));rw[Qk];refine(kY (hok ys G) h1 h2 (by rw[ga0];rfl) (by unfold LIM;omega)).trans ?_;rw[gs0];simp only[List.set_cons_zero];rw[h];simp only[Qk,QB,ZZ,ZX]
end
structure Fw(lw jw:Nat)(T T':Sto):Prop where
 len:T.length<=T'.length
 keep:∀j,j<T.length->j≠lw->j≠jw->T'[j]?=T[j]?
 well:∃z,T'[lw]?=some (.lst [.int z])
section
variable{lw jw jh j:Nat}{T T1 T2 S:Sto}{o:O}{m:Int}
theorem Fw.of(w:Wl lw T T1):Fw lw jw T T1:=⟨w.len,fun j h n _=>w.keep j h n,w.well⟩
theorem Fw.trans(a:Fw lw jw T T1)(b:Fw lw jw T1 T2):Fw lw jw T T2:=⟨Qo a.len b.len,fun j hj n n'=>by rw[b.keep j (Qy hj a.len) n n',a.keep j hj n n'],b.well⟩
theorem Fw.get(w:Fw lw jw T T1)(h:T[j]?=some o)(n:j≠lw)(n':j≠jw):T1[j]?=some o:=by rw[w.keep j (Q9.mp h).1 n n'];exact h
theorem Fw.set(h:∃z,T[lw]?=some (.lst [.int z]))(n:jw≠lw)(o:O):Fw lw jw T (T.set jw o):=⟨by simp,fun j _ _ n'=>Qp n'.symm,by obtain⟨z,h⟩:=h;exact⟨z,by rw[Qp n];exact h⟩⟩
def EA:CT:=aK (cOp fLt (cCB gk (ag (ao 1) (ag (cC (.int 5)) aB))) (cC (.int 2)))
theorem kj{us:List U}{n:Nat}(n1:n≠lw)(n2:jh≠lw)(n3:jh≠n):∀(as ys:List Int) (Y:Sto) (r0:Option U),Y[jh]?=some (.lst us)->Y[n]?=some (.lst (ys.map U.int))->(∃z,Y[lw]?=some (.lst [.int z]))->ys.length+as.length<=900->
  ∃(ys':List Int) (Y':Sto),bO (fun S=>S[jh]?=some (.lst us)) (gNm 0) EA (ao 0) n (as.map U.int) [r0,some (.ref lw)] Y=some Y'/\Y'[n]?=some (.lst (ys'.map U.int))/\Fw lw n Y Y'/\(∃q,ys'=ys++q/\q.Sublist as)/\ys'.length<=ys.length+as.length
 |[],ys,Y,r0,h1,h2,h3,_=>⟨ys,Y,mz h1,h2,.of (.refl h3),⟨[],(Qd _).symm,.slnil⟩,by simp⟩
 |a::as,ys,Y,r0,h1,h2,h3,hl=>by
  rw[QD]at hl;obtain⟨d,Y1,e1,w1,l1,d0,d1⟩:=cE (m:=5) h3 (by omega) (by omega);have g1:Y1[jh]?=some (.lst us):=w1.get h1 n2;have g2:Y1[n]?=some (.lst (ys.map U.int)):=w1.get h2 n1;by_cases hd:d<2
  ·have hd':decide (d<2)=true:=decide_eq_true hd;have lt:n<Y1.length:=(Q9.mp g2).1;have ey:ys.map U.int++[.int a]=(ys++[a]).map U.int:=by rw[Zi];rfl
   obtain⟨ys',Y',e,k1,k2,k3,k4⟩:=kj (us:=us) n1 n2 n3 as (ys++[a]) (Y1.set n (.lst ((ys++[a]).map U.int))) (some (.int a)) (by rw[Qp n3.symm];exact g1) (by rw[ZL,if_pos rfl,if_pos lt]) (by obtain⟨z,h⟩:=w1.well;exact⟨z,by rw[Qp n1];exact h⟩) (by simp;omega);obtain⟨q,k5,k6⟩:=k3;refine⟨ys',Y',?_,k1,((Fw.of w1).trans (.set w1.well n1 _)).trans k2,⟨a::q,by rw[k5,QB];rfl,k6.cons₂ a⟩,by simp at k4 ⊢;omega⟩
   ·refine(my (S0:=Y) (ρ0:=[some (.int a),some (.ref lw)]) (S1:=Y1) (S2:=Y1) (x:=.int a) (ys:=ys.map U.int) h1 rfl ?_ rfl g2 (by unfold LIM;rw[QZ];omega)).trans ?_
    ·rwa[EA,e1,hd']
    ·rw[ey];exact e
  ·have hd':decide (d<2)=false:=decide_eq_false hd;obtain⟨ys',Y',e,k1,k2,k3,k4⟩:=kj (us:=us) n1 n2 n3 as ys Y1 (some (.int a)) g1 g2 w1.well (by omega);obtain⟨q,k5,k6⟩:=k3;refine⟨ys',Y',?_,k1,(Fw.of w1).trans k2,⟨q,k5,k6.cons a⟩,by simp;omega⟩
   ·refine(oP (S0:=Y) (ρ0:=[some (.int a),some (.ref lw)]) (S1:=Y1) h1 rfl ?_).trans e;rwa[EA,e1,hd']
abbrev rT(lw:Nat)(most many:Int)(jh jw:Nat)(r5 r6 r7 r8 r9 r10 r11 r12:Option U):Rho:=[some (.ref lw),some (.int most),some (.int many),some (.ref jh),some (.ref jw),r5,r6,r7,r8,r9,r10,r11,r12]
variable{most many:Int}{os:List Int}{r5 r6 r7 r8 r9 r10 r11 r12:Option U}
theorem Es{n:Nat}{ys:List Int}(h:S[n]?=some (.lst (ys.map U.int)))(b:Bool):∃zs:List Int,Df (.ref n) (.int (1-2*(if b then 1 else 0))) S=some (.ref S.length,S++[.lst (zs.map U.int)])/\(∀z,z∈zs->z∈ys)/\zs.length=ys.length/\(ys.Nodup->zs.Nodup):=by
 cases b with
 |true=>
  refine⟨ys.reverse,?_,fun z hz=>List.mem_reverse.mp hz,List.length_reverse,fun hn=>List.pairwise_reverse.mpr (hn.imp fun hne=>Ne.symm hne)⟩;have e:(1-2*(if true then 1 else 0):Int)=-1:=rfl;have n1:¬((-1:Int)=1):=by decide
  rw[e];simp only[Df,h,n1,if_false,if_true,List.map_reverse]
 |false=>
  refine⟨ys,?_,fun z hz=>hz,rfl,id⟩;have e:(1-2*(if false then 1 else 0):Int)=1:=rfl;rw[e];simp only[Df,h,if_true]
theorem Bf{Y:Sto}{wr:List (List Int)}(n1:jw≠lw)(n2:jh≠lw)(n3:jh≠jw)(hh:Y[jh]?=some (.lst (os.map U.int)))(hw:Y[jw]?=some (.lst (wr.map rwU)))(wl:∃z,Y[lw]?=some (.lst [.int z]))(ho:os.length<=90)(on:os.Nodup)(hl:wr.length<=90) :
  ∃(zs:List Int) (Y':Sto) (r6':Option U),dJ gk eN (rT lw most many jh jw r5 r6 r7 r8 r9 r10 r11 r12) Y=some (.nx,rT lw most many jh jw r5 r6' r7 r8 r9 r10 r11 r12,Y')/\Y'[jw]?=some (.lst ((wr++[zs]).map rwU))/\Fw lw jw Y Y'/\(∀z∈zs,z∈os)/\zs.length<=90/\zs.Nodup:=by
 have lj:jw<Y.length:=(Q9.mp hw).1;have lh:jh<Y.length:=(Q9.mp hh).1;have ll:lw<Y.length:=by obtain⟨z,h⟩:=wl;exact(Q9.mp h).1
 obtain⟨ys,Y1,e1,k1,k2,k3,k4⟩:=kj (lw:=lw) (jh:=jh) (n:=Y.length) (us:=os.map U.int) (by omega) n2 (by omega) os [] (Y++[.lst []]) none (aD hh) (by rw[ga0];rfl) (by obtain⟨z,h⟩:=wl;exact⟨z,aD h⟩) (by simp;omega);have hc:cm (iTp (ao 3)) (gNm 0) EA (ao 0) 1 [0] (rT lw most many jh jw r5 r6 r7 r8 r9 r10 r11 r12) Y=some (.ref Y.length,Y1):=by
  have hv:ao 3 (rT lw most many jh jw r5 r6 r7 r8 r9 r10 r11 r12) Y=some (.ref jh,Y):=rfl;unfold cm iTp;rw[hv,Q3];simp only[hh,Q3,mh,rT,Qr,Qk,Zl,ZU,ZV,ZZ,ZX,e1]
 have l1:=k2.len;rw[Qz]at l1;have w1:Y1[jw]?=some (.lst (wr.map rwU)):=k2.get (aD hw) n1 (by omega);obtain⟨d,Y2,e2,q2,l2,d0,d1⟩:=cE (m:=7) k2.well (by omega) (by omega);have g2:Y2[Y.length]?=some (.lst (ys.map U.int)):=q2.get k1 (by omega);obtain⟨qs,k5,k6⟩:=k3;rw[ZX]at k5;subst k5;obtain⟨zs,e3,z1,z2,z3⟩:=Es g2 (decide (d=0));have w2:(Y2++[O.lst (zs.map U.int)])[jw]?=some (.lst (wr.map rwU)):=aD (q2.get w1 n1);have lj2:jw<(Y2++[O.lst (zs.map U.int)]).length:=(Q9.mp w2).1;have gn:(Y2++[O.lst (zs.map U.int)])[Y2.length]?=some (.lst (zs.map U.int)):=by rw[ga0];rfl
 have wl2:∃z,(Y2++[O.lst (zs.map U.int)])[lw]?=some (.lst [.int z]):=by obtain⟨z,h⟩:=q2.well;exact⟨z,aD h⟩
 have m2:∀k:Int,kQ (.int 2) (.int k) Y2=some (.int (2*k),Y2):=fun k=>mH (.inl (by decide));have hA:(wr.map rwU).length<LIM:=by unfold LIM;rw[QZ];omega
 have em:wr.map rwU++[.tup (zs.map U.int)]=(wr++[zs]).map rwU:=by rw[Zi];rfl
 have yl:ys.length<=90:=by simp at k4;omega
 refine⟨zs,(Y2++[O.lst (zs.map U.int)]).set jw (.lst ((wr++[zs]).map rwU)),some (.ref Y.length),?_,by rw[ZL,if_pos rfl,if_pos lj2],?_,fun z hz=>k6.subset (z1 z hz),by omega,z3 (k6.nodup on)⟩
 ·unfold dJ;rw[pq,nG];show((cm (iTp (ao 3)) (gNm 0) EA (ao 0) 1 [0] (rT lw most many jh jw r5 r6 r7 r8 r9 r10 r11 r12) Y).bind _).bind _=_;rw[hc,Q3,jV,Q3,jW];rwa[rT,w1,e2,m2,e3,gn,w2,Af hA,em]
 ·refine Fw.trans ?_ (.set wl2 n1 _);refine Fw.trans ?_ (.of (.app q2.well _));refine Fw.trans ?_ (.of q2);exact⟨by omega,fun j hj a1 a2=>by rw[k2.keep j (by simp;omega) a1 (by omega),Qv hj],k2.well⟩
theorem ui(n1:jw≠lw)(n2:jh≠lw)(n3:jh≠jw)(ho:os.length<=90)(on:os.Nodup):∀(us:List U) (wr:List (List Int)) (Y:Sto) (r5 r6:Option U),Y[jh]?=some (.lst (os.map U.int))->Y[jw]?=some (.lst (wr.map rwU))->(∃z,Y[lw]?=some (.lst [.int z]))->wr.length+us.length<=90->(∀r∈wr,(∀z∈r,z∈os)/\r.length<=90/\r.Nodup)->
  ∃(wr':List (List Int)) (Y':Sto) (r5' r6':Option U),dA (fun _=>True) (gNm 5) (dJ gk eN) us (rT lw most many jh jw r5 r6 r7 r8 r9 r10 r11 r12) Y=some (.nx,rT lw most many jh jw r5' r6' r7 r8 r9 r10 r11 r12,Y')/\Y'[jw]?=some (.lst (wr'.map rwU))/\Fw lw jw Y Y'/\(∀r∈wr',(∀z∈r,z∈os)/\r.length<=90/\r.Nodup)/\wr'.length=wr.length+us.length
 |[],wr,Y,r5,r6,h1,h2,h3,_,h5=>⟨wr,Y,r5,r6,eD trivial,h2,.of (.refl h3),h5,rfl⟩
 |u::us,wr,Y,r5,r6,h1,h2,h3,h4,h5=>by
  rw[QD]at h4;obtain⟨zs,Y1,r6',e,k1,k2,k3,k4,k5⟩:=Bf (most:=most) (many:=many) (r5:=some u) (r6:=r6) (r7:=r7) (r8:=r8) (r9:=r9) (r10:=r10) (r11:=r11) (r12:=r12) n1 n2 n3 h1 h2 h3 ho on (by omega);obtain⟨wr',Y',r5'',r6'',ih,i1,i2,i3,i4⟩:=ui n1 n2 n3 ho on us (wr++[zs]) Y1 (some u) r6' (k2.get h1 n2 n3) k1 k2.well (by simp;omega) (fun r hr=>by
   rcases Zq.mp hr with h|h
   ·exact h5 r h
   ·rw[ZH.mp h];exact⟨k3,k4,k5⟩)
  exact⟨wr',Y',r5'',r6'',(fK trivial rfl e).trans ih,i1,k2.trans i2,i3,by rw[i4];simp;omega⟩
end
section
variable{lw jw jh jr je:Nat}{Y S:Sto}{most many a b:Int}{os rf ef:List Int}{wr:List (List Int)}{r5 r6 r7 r8 r9 r10 r11 r12:Option U}
theorem Et{us:List U}{l:Nat}(hl:S[l]?=some (.lst us))(h:1<=us.length):fSl (.ref l) (some 1) none S=some (.ref S.length,S++[.lst (us.drop 1)]):=by
 have e:HT.sIx us.length 0 (some (1:Int))=1:=by
  have:=HT.sIx_nat (n:=us.length) (d:=0) (k:=1);rw[show((1:Nat):Int)=1 from rfl]at this;rw[this];omega
 simp only[fSl,hl,HT.sIx_none,e,jM];rw[Zt (by simp)]
def HV:CE:=cOp cT (iM (ag (jN (cC (.int 1))) aB)) (cm (iTp (cOp fIx (ao 4) (ao 5))) (gNm 0) (aK (cOp fNe (ao 0) (ao 1))) (ao 0) 1 [9])
def Jm:CE:=cOp cT (iM (ag (jN (cC (.int 1))) aB)) (cm (iTp (cSl (ao 6) (some (cC (.int 1))) none)) (gNm 0) (aK (cOp fLt (cBM cL (ao 2) (ag (ao 0) aB)) (cBM cL (ao 2) (ag (ao 1) aB)))) (ao 0) 1 [9,3])
def Gq:CE:=cOp fIx (iM (ag (cOp fIx (ao 10) (jN (cC (.int 1)))) (ag (cOp fIx (ao 6) (cCB gk (ag (ao 0) (ag (cCB gY (ag (ao 6) aB)) aB)))) aB))) (cCB F3 (ag (cOp fEq (cCB gk (ag (ao 0) (ag (cC (.int 5)) aB))) (cC (.int 0))) aB))
theorem C5{G:Sto}{vs:List Int}(hl:vs.length<=900):cT (.ref Y.length) (.ref (Y.length+1)) (Y++(.lst [.int (-1)]::.lst (vs.map U.int)::G))=some (.ref (Y.length+(2+G.length)),Y++(.lst [.int (-1)]::.lst (vs.map U.int)::(G++[.lst ((-1::vs).map U.int)]))):=by
 rw[AS (us:=[.int (-1)]) (vs:=vs.map U.int) (by rw[ga0];rfl) (by rw[ga];rfl) (by unfold LIM;simp;omega)];have ln:(Y++(O.lst [.int (-1)]::.lst (vs.map U.int)::G)).length=Y.length+(2+G.length):=by simp;omega
 rw[ln,QB];rfl
theorem BR(hw:Y[jw]?=some (.lst (wr.map rwU)))(b0:0<=b)(b1:b<wr.length)(hl:(wr.getD b.toNat []).length<=900) :
  ∃G n,HV (rT lw most many jh jw (some (.int b)) r6 r7 r8 (some (.int a)) r10 r11 r12) Y=some (.ref (Y.length+n),Y++G)/\G[n]?=some (.lst ((-1::(wr.getD b.toNat []).filter (fun c=>!decide (c=a))).map U.int)):=by
 obtain⟨row,hrow⟩:∃row,row=wr.getD b.toNat []:=⟨_,rfl⟩;have ar:=Gf (wr:=wr) b0 b1;rw[<-hrow]at ar hl ⊢;obtain⟨G,e⟩:=fY (S:=Y++[.lst [.int (-1)]]) (ok:=fun _=>True) (gg:=gNm 0) (ct:=aK (cOp fNe (ao 0) (ao 1))) (ce:=ao 0) (f:=U.int) (p:=fun c=>!decide (c=a)) (v:=U.int) (Rel:=fun ρ=>∃r0,ρ=[r0,some (.int a)]) (fun _ _=>trivial) row [] [] [none,some (.int a)] ⟨_,rfl⟩ (by simp;omega) (fun c hc ys G ρ hρ=>by
  obtain⟨r0,rfl⟩:=hρ;refine⟨[some (.int c),some (.int a)],[],⟨_,rfl⟩,rfl,?_,fun _=>⟨[],?_⟩⟩
  ·rwa[Qd]
  ·rwa[Qd])
 simp only[ZX]at e;have ln:(Y++[O.lst [.int (-1)]]).length=Y.length+1:=by rw[Qz];rfl
 rw[ln]at e;simp only[QB,ZZ,ZX]at e;obtain⟨vs,hvs⟩:∃vs,vs=row.filter (fun c=>!decide (c=a)):=⟨_,rfl⟩;rw[<-hvs]at e ⊢;have hv:vs.length<=900:=by rw[hvs];exact Qo (List.length_filter_le ..) hl
 have hw1:(Y++[O.lst [.int (-1)]])[jw]?=some (.lst (wr.map rwU)):=aD hw;have hi:cOp fIx (ao 4) (ao 5) (rT lw most many jh jw (some (.int b)) r6 r7 r8 (some (.int a)) r10 r11 r12) (Y++[.lst [.int (-1)]])=some (.tup (row.map U.int),Y++[.lst [.int (-1)]]):=by
  rwa[rT,hw1,ar]
 have hc:cm (iTp (cOp fIx (ao 4) (ao 5))) (gNm 0) (aK (cOp fNe (ao 0) (ao 1))) (ao 0) 1 [9] (rT lw most many jh jw (some (.int b)) r6 r7 r8 (some (.int a)) r10 r11 r12) (Y++[.lst [.int (-1)]])=some (.ref (Y.length+1),Y++(.lst [.int (-1)]::.lst (vs.map U.int)::G)):=by
  unfold cm iTp;rw[hi,Q3];simp only[Q3,mh,rT,Qr,Qk,Zl,ZU,Qa,ZV,ZZ,ZX,ln,e,QB]
 refine⟨.lst [.int (-1)]::.lst (vs.map U.int)::(G++[.lst ((-1::vs).map U.int)]),2+G.length,?_,?_⟩
 ·have hcat:=C5 (Y:=Y) (G:=G) hv;obtain⟨ev,hev⟩:∃ev,ev=(-1::vs).map U.int:=⟨_,rfl⟩;rw[<-hev]at hcat ⊢;unfold HV;rwa[nH,ji,hc,hcat]
 ·rw[show 2+G.length=G.length+1+1 from by omega,Qa,Qa,ga0];rfl
theorem C1(hr:Y[jr]?=some (.lst ((-1::rf).map U.int)))(hh:Y[jh]?=some (.lst (os.map U.int)))(ha:a∈os)(hm:∀c∈rf,c∈os)(hl:rf.length<=900)(ho:os.length<=900) :
  ∃G n ef,Jm (rT lw most many jh jw r5 (some (.ref jr)) r7 r8 (some (.int a)) r10 r11 r12) Y=some (.ref (Y.length+n),Y++G)/\G[n]?=some (.lst ((-1::ef).map U.int))/\∀c∈ef,c∈rf:=by
 have hsl:cSl (ao 6) (some (cC (.int 1))) none (rT lw most many jh jw r5 (some (.ref jr)) r7 r8 (some (.int a)) r10 r11 r12) (Y++[.lst [.int (-1)]])=some (.ref (Y.length+1),Y++[.lst [.int (-1)],.lst (rf.map U.int)]):=by
  have hv:ao 6 (rT lw most many jh jw r5 (some (.ref jr)) r7 r8 (some (.int a)) r10 r11 r12) (Y++[.lst [.int (-1)]])=some (.ref jr,Y++[.lst [.int (-1)]]):=rfl;have h1:cC (.int 1) (rT lw most many jh jw r5 (some (.ref jr)) r7 r8 (some (.int a)) r10 r11 r12) (Y++[.lst [.int (-1)]])=some (.int 1,Y++[.lst [.int (-1)]]):=rfl;have ln:(Y++[O.lst [.int (-1)]]).length=Y.length+1:=by rw[Qz];rfl
  have hs:=Et (S:=Y++[.lst [.int (-1)]]) (us:=(-1::rf).map U.int) (aD hr) (by simp);rw[ln,QB]at hs;simp only[cSl,lQ,hv,h1,Q3];exact hs
 obtain⟨G,e⟩:=fY (S:=Y++[.lst [.int (-1)],.lst (rf.map U.int)]) (ok:=fun S=>S[Y.length+1]?=some (.lst (rf.map U.int))) (gg:=gNm 0) (ct:=aK (cOp fLt (cBM cL (ao 2) (ag (ao 0) aB)) (cBM cL (ao 2) (ag (ao 1) aB)))) (ce:=ao 0) (f:=U.int) (p:=fun c=>decide (((os.idxOf c:Nat):Int)<((os.idxOf a:Nat):Int))) (v:=U.int) (Rel:=fun ρ=>∃r0,ρ=[r0,some (.int a),some (.ref jh)]) (fun ys G=>by rw[QB,ga];rfl) rf [] [] [none,some (.int a),some (.ref jh)] ⟨_,rfl⟩ (by simp;omega) (fun c hc ys G ρ hρ=>by
  obtain⟨r0,rfl⟩:=hρ;have hh':∀X,(Y++X)[jh]?=some (.lst (os.map U.int)):=fun X=>aD hh;have i1:∀X,cL (.ref jh) [.int c] (Y++X)=some (.int (os.idxOf c:Nat),Y++X):=fun X=>jL (hh' X) (hm c hc) ho;have i2:∀X,cL (.ref jh) [.int a] (Y++X)=some (.int (os.idxOf a:Nat),Y++X):=fun X=>jL (hh' X) ha ho;refine⟨[some (.int c),some (.int a),some (.ref jh)],[],⟨_,rfl⟩,rfl,?_,fun _=>⟨[],?_⟩⟩
  ·rwa[hh',i1,i2,Qd]
  ·rwa[Qd])
 simp only[ZX]at e;have ln:(Y++[O.lst [.int (-1)],.lst (rf.map U.int)]).length=Y.length+2:=by rw[Qz];rfl
 have gz:(Y++[O.lst [.int (-1)],.lst (rf.map U.int)])[Y.length+1]?=some (.lst (rf.map U.int)):=by rw[ga];rfl
 rw[ln]at e;simp only[QB,ZZ,ZX]at e;obtain⟨vs,hvs⟩:∃vs,vs=rf.filter (fun c=>decide (((os.idxOf c:Nat):Int)<((os.idxOf a:Nat):Int))):=⟨_,rfl⟩;rw[<-hvs]at e;have hv:vs.length<=900:=by rw[hvs];exact Qo (List.length_filter_le ..) hl
 have hc:cm (iTp (cSl (ao 6) (some (cC (.int 1))) none)) (gNm 0) (aK (cOp fLt (cBM cL (ao 2) (ag (ao 0) aB)) (cBM cL (ao 2) (ag (ao 1) aB)))) (ao 0) 1 [9,3] (rT lw most many jh jw r5 (some (.ref jr)) r7 r8 (some (.int a)) r10 r11 r12) (Y++[.lst [.int (-1)]])=some (.ref (Y.length+2),Y++(.lst [.int (-1)]::.lst (rf.map U.int)::.lst (vs.map U.int)::G)):=by
  unfold cm iTp;rw[hsl,Q3];simp only[gz,Q3,mh,rT,Qr,Qk,Zl,ZU,Qa,ZV,ZZ,ZX,ln,e,QB]
 have hcat:cT (.ref Y.length) (.ref (Y.length+2)) (Y++(.lst [.int (-1)]::.lst (rf.map U.int)::.lst (vs.map U.int)::G))=some (.ref (Y.length+(3+G.length)),Y++(.lst [.int (-1)]::.lst (rf.map U.int)::.lst (vs.map U.int)::(G++[.lst ((-1::vs).map U.int)]))):=by
  rw[AS (us:=[.int (-1)]) (vs:=vs.map U.int) (by rw[ga0];rfl) (by rw[ga];rfl) (by unfold LIM;simp;omega)];have ln:(Y++(O.lst [.int (-1)]::.lst (rf.map U.int)::.lst (vs.map U.int)::G)).length=Y.length+(3+G.length):=by simp;omega
  rw[ln,QB];rfl
 refine⟨.lst [.int (-1)]::.lst (rf.map U.int)::.lst (vs.map U.int)::(G++[.lst ((-1::vs).map U.int)]),3+G.length,vs,?_,?_,fun c hc=>by rw[hvs]at hc;exact(List.mem_filter.mp hc).1⟩
 ·obtain⟨ev,hev⟩:∃ev,ev=(-1::vs).map U.int:=⟨_,rfl⟩;rw[<-hev]at hcat ⊢;unfold Jm;rwa[nH,ji,hc,hcat]
 ·rw[show 3+G.length=G.length+1+1+1 from by omega,Qa,Qa,Qa,ga0];rfl
theorem BB(he:Y[je]?=some (.lst ((-1::ef).map U.int)))(hr:Y[jr]?=some (.lst ((-1::rf).map U.int)))(wl:∃z,Y[lw]?=some (.lst [.int z]))(n1:jr≠lw)(hl:rf.length<=900)(hef:∀c∈ef,c∈rf) :
  ∃v Y',Gq (rT lw most many jh jw r5 (some (.ref jr)) r7 r8 r9 (some (.ref je)) r11 r12) Y=some (.int v,Y')/\Wl lw Y Y'/\(v=-1\/v∈rf):=by
 obtain⟨v1,hv1⟩:∃v1,v1=ef.getLast?.getD (-1):=⟨_,rfl⟩;have m1:v1=-1\/v1∈rf:=by
  rw[hv1];cases hg:ef.getLast? with
  |none=>exact .inl rfl
  |some x=>exact .inr (hef x (List.mem_of_getLast? hg))
 have a1:atI ((-1::ef).map U.int) (-1)=some (.int v1):=by rw[hv1];exact Gg ef
 obtain⟨eu,heu⟩:∃eu,eu=(-1::ef).map U.int:=⟨_,rfl⟩;obtain⟨ru,hru⟩:∃ru,ru=(-1::rf).map U.int:=⟨_,rfl⟩;have lru:ru.length=rf.length+1:=by rw[hru];simp
 rw[<-heu]at he a1;rw[<-hru]at hr;obtain⟨d,Y1,e1,w1,l1,d0,d1⟩:=cE (m:=((ru.length:Nat):Int)) wl (by omega) (by omega);have hr1:Y1[jr]?=some (.lst ru):=w1.get hr n1;obtain⟨v2,a2,m2⟩:∃v2,atI ru d=some (.int v2)/\(v2=-1\/v2∈rf):=by
  have hi:d.toNat<(-1::rf).length:=by simp;omega
  have:=d9 (xs:=ru) (j:=d.toNat) (v:=.int (-1::rf)[d.toNat]) (by rw[hru,Qn,Q7 hi];rfl);rw[show((d.toNat:Nat):Int)=d from by omega]at this;exact⟨_,this,QL.mp (ZK hi)⟩
 obtain⟨d2,Y2,e2,w2,l2,_,_⟩:=cE (T:=Y1++[.lst [.int v1,.int v2]]) (lw:=lw) (m:=5) (by obtain⟨z,h⟩:=w1.well;exact⟨z,aD h⟩) (by omega) (by omega);have ll:lw<Y1.length:=by obtain⟨z,h⟩:=w1.well;exact(Q9.mp h).1
 have g2:Y2[Y1.length]?=some (.lst [.int v1,.int v2]):=w2.get (by rw[ga0];rfl) (by omega);have W:Wl lw Y Y2:=(w1.trans (.app w1.well _)).trans w2;by_cases h0:d2=0
 ·have h0':decide (d2=0)=true:=decide_eq_true h0;refine⟨v2,Y2,?_,W,m2⟩;unfold Gq;rwa[rT,nH,ji,he,a1,hr,e1,hr1,a2,e2,h0',if_true,g2]
 ·have h0':decide (d2=0)=false:=decide_eq_false h0;refine⟨v1,Y2,?_,W,m1⟩;unfold Gq;rwa[rT,nH,ji,he,a1,hr,e1,hr1,a2,e2,h0',Qc,if_false,g2]
end
section
variable{κ κ' α β:Type}[DecidableEq κ][DecidableEq κ']
theorem qV(kf:κ->κ')(vf:α->β)(inj:∀a b,kf a=kf b->a=b)(ps:List (κ×α))(k:κ)(v:α):jI (ps.map fun p=>(kf p.1,vf p.2)) (kf k) (vf v)=(jI ps k v).map fun p=>(kf p.1,vf p.2):=by
 have hd:∀a,decide (kf a=kf k)=decide (a=k):=fun a=>by
  rw[ZE,decide_eq_true_eq,decide_eq_true_eq];exact⟨inj a k,fun h=>by rw[h]⟩
 have ha:((ps.map fun p=>(kf p.1,vf p.2)).any fun kv=>decide (kv.1=kf k))=ps.any fun kv=>decide (kv.1=k):=by
  rw[List.any_map];congr 1;funext p;exact hd p.1
 unfold jI;rw[ha];by_cases h:(ps.any fun kv=>decide (kv.1=k))=true
 ·rw[if_pos h,if_pos h,Qs,Qs];refine Zw fun p _=>?_;show(if kf p.1=kf k then(kf p.1,vf v)else(kf p.1,vf p.2))=_;by_cases e:p.1=k
  ·simp[e]
  ·have e':¬kf p.1=kf k:=fun z=>e (inj _ _ z);simp[e,e']
 ·rw[if_neg h,if_neg h,Zi];rfl
theorem vk{ps:List (κ×α)}{k:κ}{v:α}(h:(ps.map (·.1)).Nodup):((jI ps k v).map (·.1)).Nodup:=by
 unfold jI;by_cases e:(ps.any fun kv=>decide (kv.1=k))=true
 ·rw[if_pos e,Qs];have:((fun x:κ×α=>x.1) ∘ fun kv=>if kv.1=k then(kv.1,v)else kv)=fun x=>x.1:=by
   funext p;show(if p.1=k then(p.1,v)else p).1=p.1;split<;>rfl
  rw[this];exact h
 ·rw[if_neg e,Zi,List.nodup_append];refine⟨h,by simp,fun a ha b hb z=>?_⟩;rw[List.map_singleton,ZH]at hb;obtain⟨p,hp,hp2⟩:=Qh.mp ha;exact e (List.any_eq_true.mpr ⟨p,hp,decide_eq_true (by rw[hp2,z,hb])⟩)
theorem og{ps:List (κ×α)}{k:κ}{v:α}{q:κ×α}(h:q∈jI ps k v):q=(k,v)\/q∈ps:=by
 unfold jI at h;split at h
 ·obtain⟨p,hp,e⟩:=Qh.mp h;by_cases z:p.1=k
  ·rw[if_pos z]at e;rw[<-e,z];exact .inl rfl
  ·rw[if_neg z]at e;rw[<-e];exact .inr hp
 ·rcases Zq.mp h with z|z
  ·exact .inr z
  ·rw[ZH.mp z];exact .inl rfl
theorem yk{ps:List (κ×α)}{p:κ×α}(nd:(ps.map (·.1)).Nodup)(h:p∈ps):iN ps p.1=some p.2:=by
 unfold iN;induction ps with
 |nil=>cases h
 |cons q r ih=>
  rw[Qk,ZS]at nd;rcases QL.mp h with z|z
  ·subst z;simp
  ·have:q.1≠p.1:=fun e=>nd.1 (Qh.mpr ⟨p,z,e.symm⟩);rw[Zk,decide_eq_false this];exact ih nd.2 z
end
def kT(p:Int×Int):List Key:=[.inl p.1,.inl p.2]
theorem wg:∀a b:Int×Int,kT a=kT b->a=b:=fun a b h=>by
 unfold kT at h;injection h with h1 h2;injection h2 with h3 _;exact Prod.ext (Sum.inl.inj h1) (Sum.inl.inj h3)
def jb(ps:List ((Int×Int)×Int)):List (List Key×U):=ps.map fun p=>(kT p.1,.int p.2)
def pd(ps:List ((Int×Int)×Unit)):List (List Key×U):=ps.map fun p=>(kT p.1,.bl true)
theorem yJ(ps:List ((Int×Int)×Int))(k:Int×Int)(v:Int):jI (jb ps) (kT k) (.int v)=jb (jI ps k v):=qV kT U.int wg ps k v
theorem yI(ps:List ((Int×Int)×Unit))(k:Int×Int):jI (pd ps) (kT k) (.bl true)=pd (jI ps k ()):=qV kT (fun _=>U.bl true) wg ps k ()
theorem yA{ca cb:CS}{ρ ρ':Rho}{S S':Sto}(h:ca ρ S=some (.nx,ρ',S')):bu ca cb ρ S=cb ρ' S':=by rw[pq,h,Q3,jW]
section
variable{lw jw jh jk:Nat}{Y:Sto}{most many a b:Int}{os rf ef:List Int}{wr:List (List Int)}{r5 r6 r7 r8 r9 r10 r11 r12:Option U}
def InB(many:Int)(wr:List (List Int))(ps:List ((Int×Int)×Int)):Prop:=∀p∈ps,(0<=p.1.1/\p.1.1<many)/\0<=p.1.2/\p.1.2<wr.length/\(p.2=-1\/(p.2∈wr.getD p.1.2.toNat []/\p.2≠p.1.1))
theorem CB{ps:List ((Int×Int)×Int)}(n1:jw≠lw)(n2:jh≠lw)(n3:jk≠lw)(n4:jw≠jk)(n5:jh≠jk)(m0:1<=many)(m1:many<=90)(w0:1<=wr.length)(wl1:wr.length<=90)
  (hh:Y[jh]?=some (.lst (os.map U.int))) (hw:Y[jw]?=some (.lst (wr.map rwU))) (hk:Y[jk]?=some (.dit (jb ps))) (wl:∃z,Y[lw]?=some (.lst [.int z])) (ho:os.length<=90) (hm:∀a,0<=a->a<many->a∈os) (hr:∀r∈wr,(∀z∈r,z∈os)/\r.length<=90/\r.Nodup) (hp:ps.length<=90) (ib:InB many wr ps) (nd:(ps.map (·.1)).Nodup) :
  ∃(ps':List ((Int×Int)×Int)) (Y':Sto) (r5' r6' r9' r10':Option U),dI gk eN (rT lw most many jh jw r5 r6 (some (.ref jk)) r8 r9 r10 r11 r12) Y=some (.nx,rT lw most many jh jw r5' r6' (some (.ref jk)) r8 r9' r10' r11 r12,Y')/\Y'[jk]?=some (.dit (jb ps'))/\Fw lw jk Y Y'/\InB many wr ps'/\(ps'.map (·.1)).Nodup/\ps'.length<=ps.length+1:=by
 obtain⟨a,Y1,e1,w1,l1,a0,a1⟩:=cE (m:=many) wl (by omega) (by omega);have hw1:Y1[jw]?=some (.lst (wr.map rwU)):=w1.get hw n1;obtain⟨b,Y2,e2,w2,l2,b0,b1⟩:=cE (m:=(wr.length:Int)) w1.well (by omega) (by omega);have hw2:Y2[jw]?=some (.lst (wr.map rwU)):=w2.get hw1 n1;have hb:b.toNat<wr.length:=by omega
 have hrow:wr.getD b.toNat []∈wr:=by rw[QX,Q7 hb];exact ZK hb
 obtain⟨q1,q2,_⟩:=hr _ hrow;obtain⟨G3,k3,e3,g3⟩:=BR (lw:=lw) (most:=most) (many:=many) (jh:=jh) (r6:=r6) (r7:=some (.ref jk)) (r8:=r8) (a:=a) (r10:=r10) (r11:=r11) (r12:=r12) hw2 b0 b1 (by omega);obtain⟨rf,hrf⟩:∃rf,rf=(wr.getD b.toNat []).filter (fun c=>!decide (c=a)):=⟨_,rfl⟩;rw[<-hrf]at g3;have lrf:rf.length<=90:=by rw[hrf];exact Qo (List.length_filter_le ..) q2
 have hrm:∀c∈rf,c∈os:=fun c hc=>by rw[hrf]at hc;exact q1 c (List.mem_filter.mp hc).1
 have gr:(Y2++G3)[Y2.length+k3]?=some (.lst ((-1::rf).map U.int)):=by rw[ga];exact g3
 have hh2:(Y2++G3)[jh]?=some (.lst (os.map U.int)):=aD (w2.get (w1.get hh n2) n2);obtain⟨G4,k4,ef,e4,g4,hef⟩:=C1 (lw:=lw) (most:=most) (many:=many) (jw:=jw) (r5:=some (.int b)) (r7:=some (.ref jk)) (r8:=r8) (a:=a) (r10:=r10) (r11:=r11) (r12:=r12) gr hh2 (hm a a0 a1) hrm (by omega) (by omega);have ge:(Y2++G3++G4)[(Y2++G3).length+k4]?=some (.lst ((-1::ef).map U.int)):=by rw[ga];exact g4
 have ll:lw<Y2.length:=by obtain⟨z,h⟩:=w2.well;exact(Q9.mp h).1
 have wl4:∃z,(Y2++G3++G4)[lw]?=some (.lst [.int z]):=by obtain⟨z,h⟩:=w2.well;exact⟨z,aD (aD h)⟩
 obtain⟨v,Y5,e5,w5,hv⟩:=BB (most:=most) (many:=many) (jh:=jh) (jw:=jw) (r5:=some (.int b)) (r7:=some (.ref jk)) (r8:=r8) (r9:=some (.int a)) (r11:=r11) (r12:=r12) ge (aD gr) wl4 (by omega) (by omega) hef;have W:Wl lw Y Y5:=((w1.trans w2).trans ((Wl.app w2.well G3).trans (.app (by obtain⟨z,h⟩:=w2.well;exact⟨z,aD h⟩) G4))).trans w5;have hk5:Y5[jk]?=some (.dit (jb ps)):=W.get hk n3;have lk5:jk<Y5.length:=(Q9.mp hk5).1;have hlim:(jb ps).length<LIM/\[U.int a,U.int b].length<=LIM:=by unfold LIM jb;rw[QZ];exact⟨by omega,by simp⟩
 have htk:BE [U.int a,U.int b]=some (kT (a,b)):=rfl;refine⟨jI ps (a,b) v,Y5.set jk (.dit (jb (jI ps (a,b) v))),some (.int b),some (.ref (Y2.length+k3)),some (.int a),some (.ref ((Y2++G3).length+k4)),?_,by rw[ZL,if_pos rfl,if_pos lk5],(Fw.of W).trans (.set W.well n3 _),fun p hp=>?_,vk nd,rn ..⟩
 ·unfold dI;refine(yA (ρ':=rT lw most many jh jw r5 r6 (some (.ref jk)) r8 (some (.int a)) r10 r11 r12) (S':=Y1) ?_).trans ?_
  ·rwa[rT,e1]
  refine(yA (ρ':=rT lw most many jh jw (some (.int b)) r6 (some (.ref jk)) r8 (some (.int a)) r10 r11 r12) (S':=Y2) ?_).trans ?_
  ·rwa[rT,hw1,QZ,e2]
  refine(yA (ρ':=rT lw most many jh jw (some (.int b)) (some (.ref (Y2.length+k3))) (some (.ref jk)) r8 (some (.int a)) r10 r11 r12) (S':=Y2++G3) ?_).trans ?_
  ·show da 6 HV _ _=_;rw[nG,e3,Q3,jV];rfl
  refine(yA (ρ':=rT lw most many jh jw (some (.int b)) (some (.ref (Y2.length+k3))) (some (.ref jk)) r8 (some (.int a)) (some (.ref ((Y2++G3).length+k4))) r11 r12) (S':=Y2++G3++G4) ?_).trans ?_
  ·show da 10 Jm _ _=_;rw[nG,e4,Q3,jV];rfl
  ·show gR (ao 7) (ag (ao 9) (ag (ao 5) aB)) Gq _ _=_;unfold gR;rw[e5,Q3];have hc7:ao 7 (rT lw most many jh jw (some (.int b)) (some (.ref (Y2.length+k3))) (some (.ref jk)) r8 (some (.int a)) (some (.ref ((Y2++G3).length+k4))) r11 r12) Y5=some (.ref jk,Y5):=rfl;have hca:ag (ao 9) (ag (ao 5) aB) (rT lw most many jh jw (some (.int b)) (some (.ref (Y2.length+k3))) (some (.ref jk)) r8 (some (.int a)) (some (.ref ((Y2++G3).length+k4))) r11 r12) Y5=some ([.int a,.int b],Y5):=rfl;dsimp only;rw[hc7,Q3];dsimp only;rw[hca,Q3];dsimp only;rw[hk5];dsimp only;rw[htk,Q3,if_pos hlim,yJ]
 ·rcases og hp with h|h
  ·rw[h];refine⟨⟨a0,a1⟩,b0,b1,hv.imp id fun z=>?_⟩;rw[hrf]at z;obtain⟨z1,z2⟩:=List.mem_filter.mp z;exact⟨z1,by simpa using z2⟩
  ·exact ib p h
theorem wa(n1:jw≠lw)(n2:jh≠lw)(n3:jk≠lw)(n4:jw≠jk)(n5:jh≠jk)(m0:1<=many)(m1:many<=90)(w0:1<=wr.length)(wl1:wr.length<=90)(ho:os.length<=90)(hm:∀a,0<=a->a<many->a∈os)(hr:∀r∈wr,(∀z∈r,z∈os)/\r.length<=90/\r.Nodup) :
  ∀(us:List U) (ps:List ((Int×Int)×Int)) (Y:Sto) (r5 r6 r8 r9 r10:Option U),Y[jh]?=some (.lst (os.map U.int))->Y[jw]?=some (.lst (wr.map rwU))->Y[jk]?=some (.dit (jb ps))->(∃z,Y[lw]?=some (.lst [.int z]))->ps.length+us.length<=90->InB many wr ps->(ps.map (·.1)).Nodup->
  ∃(ps':List ((Int×Int)×Int)) (Y':Sto) (r5' r6' r8' r9' r10':Option U),dA (fun _=>True) (gNm 8) (dI gk eN) us (rT lw most many jh jw r5 r6 (some (.ref jk)) r8 r9 r10 r11 r12) Y=some (.nx,rT lw most many jh jw r5' r6' (some (.ref jk)) r8' r9' r10' r11 r12,Y')/\Y'[jk]?=some (.dit (jb ps'))/\Fw lw jk Y Y'/\InB many wr ps'/\(ps'.map (·.1)).Nodup/\ps'.length<=ps.length+us.length
 |[],ps,Y,r5,r6,r8,r9,r10,h1,h2,h3,h4,_,h6,h7=>⟨ps,Y,r5,r6,r8,r9,r10,eD trivial,h3,.of (.refl h4),h6,h7,by simp⟩
 |u::us,ps,Y,r5,r6,r8,r9,r10,h1,h2,h3,h4,h5,h6,h7=>by
  rw[QD]at h5;obtain⟨ps1,Y1,s5,s6,s9,s10,e,k1,k2,k3,k4,k5⟩:=CB (most:=most) (r5:=r5) (r6:=r6) (r8:=some u) (r9:=r9) (r10:=r10) (r11:=r11) (r12:=r12) n1 n2 n3 n4 n5 m0 m1 w0 wl1 h1 h2 h3 h4 ho hm hr (by omega) h6 h7;obtain⟨ps',Y',t5,t6,t8,t9,t10,ih,i1,i2,i3,i4,i5⟩:=wa n1 n2 n3 n4 n5 m0 m1 w0 wl1 ho hm hr us ps1 Y1 s5 s6 (some u) s9 s10 (k2.get h1 n2 n5) (k2.get h2 n1 n4) k1 k2.well (by omega) k3 k4;exact⟨ps',Y',t5,t6,t8,t9,t10,(fK trivial rfl e).trans ih,i1,k2.trans i2,i3,i4,by rw[QD];omega⟩
end
def Wp{α:Type}(x:Option α)(Q:α->Prop):Prop:=∃r,x=some r/\Q r
section
variable{α β:Type}{x:Option α}{Q:α->Prop}
theorem eJ{r:α}:Wp (some r) Q=Q r:=propext ⟨fun⟨_,e,h⟩=>by cases e;exact h,fun h=>⟨r,rfl,h⟩⟩
theorem Wp.bind{k:α->Option β}{Q:β->Prop}(h:Wp x fun r=>Wp (k r) Q):Wp (x.bind k) Q:=by
 obtain⟨r,rfl,s,e,q⟩:=h;exact⟨s,e,q⟩
theorem Wp.of{r:α}(h:x=some r)(q:Q r):Wp x Q:=⟨r,h,q⟩
end
section
variable{α:Type}{ci:CI}{ca:CE}{gg:CG}{t:CT}{ce:CE}{cb:CS}{caps:List Nat}{ρ:Rho}{cs:Rho}{S S1:Sto}{ok:Sto->Prop}{xs:List α}{us:List U}{f v g:α->U}{Q:U×Sto->Prop}{R:Out×Rho×Sto->Prop}{l:Nat}
theorem Jg(h:ca ρ S=some (.ref l,S1))(hl:S1[l]?=some (.lst us)):iTp ca ρ S=some (us,fun S=>S[l]?=some (.lst us),S1):=by
 unfold iTp;rw[h,Q3];simp only[hl]
theorem jC(h:ca ρ S=some (.tup us,S1)):iTp ca ρ S=some (us,fun _=>True,S1):=by
 unfold iTp;rw[h,Q3]
theorem pS{cr:CA}{n:Int}(h:cr ρ S=some ([.int n],S1))(n0:0<=n)(n1:n<=1000):cK cr ρ S=some (bx 0 n.toNat,fun _=>True,S1):=by
 have hb:-(2^62)<=n/\n<2^62:=by omega
 unfold cK;rw[h,Q3];simp only[hb,and_self,if_true]
theorem Ef(hi:ci ρ S=some (xs.map f,ok,S1))(hok:∀G,ok (S1++G))(hn:xs.length<=9000)(hr:mh 1 caps ρ=none::cs)
  (hb:∀x∈xs,∀G,Wp (ce (some (f x)::cs) (S1++G)) fun t=>t.1=v x/\∃G2,t.2=S1++G++G2)
  (hQ:∀G,Q (.ref S1.length,S1++(.lst (xs.map v)::G))):Wp (cP ci (gNm 0) ce 1 caps ρ S) Q:=by
 obtain⟨G,e⟩:=nz (S:=S1) (ok:=ok) (gg:=gNm 0) (ce:=ce) (f:=f) (v:=v) (Rel:=fun ρ=>∃r0,ρ=r0::cs) (fun ys G=>hok _) xs [] [] (none::cs) ⟨_,rfl⟩ (by simp;omega) (fun x hx ys G ρ hρ=>by
  obtain⟨r0,rfl⟩:=hρ;obtain⟨⟨b,S2⟩,e1,e2,G1,e3⟩:=hb x hx (.lst ys::G);dsimp only at e2 e3;subst e2 e3;exact⟨some (f x)::cs,G1,⟨_,rfl⟩,rfl,by rw[e1,QB,ZZ]⟩)
 refine⟨_,?_,hQ G⟩;unfold cP;rw[hi,Q3,hr];dsimp only;rw[e];rfl
theorem Ee(hf:∀x,f x=.tup [g x,v x]){w:α->U}(hi:ci ρ S=some (xs.map f,ok,S1))(hok:∀G,ok (S1++G))(hn:xs.length<=9000)(hr:mh 2 caps ρ=none::none::cs)
  (hb:∀x∈xs,∀G,Wp (ce (some (g x)::some (v x)::cs) (S1++G)) fun t=>t.1=w x/\∃G2,t.2=S1++G++G2)
  (hQ:∀G,Q (.ref S1.length,S1++(.lst (xs.map w)::G))):Wp (cP ci (gTp [0,1]) ce 2 caps ρ S) Q:=by
 obtain⟨G,e⟩:=nz (S:=S1) (ok:=ok) (gg:=gTp [0,1]) (ce:=ce) (f:=f) (v:=w) (Rel:=fun ρ=>∃r0 r1,ρ=r0::r1::cs) (fun ys G=>hok _) xs [] [] (none::none::cs) ⟨_,_,rfl⟩ (by simp;omega) (fun x hx ys G ρ hρ=>by
  obtain⟨r0,r1,rfl⟩:=hρ;obtain⟨⟨b,S2⟩,e1,e2,G1,e3⟩:=hb x hx (.lst ys::G);dsimp only at e2 e3;subst e2 e3;exact⟨some (g x)::some (v x)::cs,G1,⟨_,_,rfl⟩,by rw[hf];rfl,by rw[e1,QB,ZZ]⟩)
 refine⟨_,?_,hQ G⟩;unfold cP;rw[hi,Q3,hr];dsimp only;rw[e];rfl
theorem JB{F:Fn}(h:Wp (ce ρ S) fun r=>Wp (F [r.1] r.2) Q):Wp (cCB F (ag ce aB) ρ S) Q:=by
 obtain⟨⟨u,S2⟩,e,r,e2,q⟩:=h;refine⟨r,?_,q⟩;rw[Ae,fw,e];exact e2
theorem JC{bs:List Bool}(hl:S[l]?=some (.lst (bs.map U.bl)))(q:Q (.bl (bs.all id),S)):Wp (o9 [.ref l] S) Q:=
 .of (by simp only[o9,hl,rX,Q3]) q
theorem HL(hi:ci ρ S=some (us,ok,S1))(h:Wp (dA ok gg cb us ρ S1) R):Wp (lR ci gg cb ρ S) R:=by
 unfold lR;rw[hi];exact h
end
section
variable{lw jw jh jk jt:Nat}{Y S:Sto}{most many a b:Int}{os:List Int}{wr:List (List Int)}{r5 r6 r7 r8 r9 r10 r11 r12:Option U}
def TmB(many:Int)(ts:List ((Int×Int)×Unit)):Prop:=∀p∈ts,(0<=p.1.1/\p.1.1<many)/\(0<=p.1.2/\p.1.2<many)/\p.1.1≠p.1.2
theorem BD{ts:List ((Int×Int)×Unit)}(n2:jh≠lw)(n3:jt≠lw)(m0:1<=many)(m1:many<=90)
  (hh:Y[jh]?=some (.lst (os.map U.int))) (hk:Y[jt]?=some (.dit (pd ts))) (wl:∃z,Y[lw]?=some (.lst [.int z])) (ho:os.length<=90) (hm:∀a,0<=a->a<many->a∈os) (hp:ts.length<=90) (nd:(ts.map (·.1)).Nodup) (tb:TmB many ts) :
  ∃(ts':List ((Int×Int)×Unit)) (Y':Sto) (r9' r12':Option U),cQ gk eN (rT lw most many jh jw r5 r6 r7 r8 r9 r10 (some (.ref jt)) r12) Y=some (.nx,rT lw most many jh jw r5 r6 r7 r8 r9' r10 (some (.ref jt)) r12',Y')/\Y'[jt]?=some (.dit (pd ts'))/\Fw lw jt Y Y'/\(ts'.map (·.1)).Nodup/\ts'.length<=ts.length+1/\TmB many ts':=by
 obtain⟨a,Y1,e1,w1,l1,a0,a1⟩:=cE (m:=many) wl (by omega) (by omega);obtain⟨b,Y2,e2,w2,l2,b0,b1⟩:=cE (m:=many) w1.well (by omega) (by omega);have W:=w1.trans w2;have hh2:Y2[jh]?=some (.lst (os.map U.int)):=W.get hh n2;have hk2:Y2[jt]?=some (.dit (pd ts)):=W.get hk n3;have i1:cL (.ref jh) [.int a] Y2=some (.int (os.idxOf a:Nat),Y2):=jL hh2 (hm a a0 a1) (by omega);have i2:cL (.ref jh) [.int b] Y2=some (.int (os.idxOf b:Nat),Y2):=jL hh2 (hm b b0 b1) (by omega);suffices h:Wp (cQ gk eN (rT lw most many jh jw r5 r6 r7 r8 r9 r10 (some (.ref jt)) r12) Y) fun s=>s.1=.nx/\∃ts' r9' r12',s.2.1=rT lw most many jh jw r5 r6 r7 r8 r9' r10 (some (.ref jt)) r12'/\s.2.2[jt]?=some (.dit (pd ts'))/\Fw lw jt Y s.2.2/\(ts'.map (·.1)).Nodup/\ts'.length<=ts.length+1/\TmB many ts' by
  obtain⟨⟨o,ρ,Y'⟩,e,rfl,ts',s9,s12,rfl,k⟩:=h;exact⟨ts',Y',s9,s12,e,k⟩
 have hlim:(pd ts).length<LIM/\[U.int a,U.int b].length<=LIM:=by unfold LIM pd;rw[QZ];exact⟨by omega,by simp⟩
 have hput:a≠b->∀Y3 (co:CE) (ca:CA) (cv:CE) ρ,Wl lw Y Y3->cv ρ Y3=some (.bl true,Y3)->co ρ Y3=some (.ref jt,Y3)->ca ρ Y3=some ([.int a,.int b],Y3)->ρ=rT lw most many jh jw r5 r6 r7 r8 (some (.int a)) r10 (some (.ref jt)) (some (.int b))->Wp (gR co ca cv ρ Y3) fun s=>s.1=.nx/\∃ts' r9' r12',s.2.1=rT lw most many jh jw r5 r6 r7 r8 r9' r10 (some (.ref jt)) r12'/\s.2.2[jt]?=some (.dit (pd ts'))/\Fw lw jt Y s.2.2/\(ts'.map (·.1)).Nodup/\ts'.length<=ts.length+1/\TmB many ts':=fun nab Y3 co ca cv ρ W3 h1 h2 h3 hρ=>by
  have hk3:Y3[jt]?=some (.dit (pd ts)):=W3.get hk n3;have htk:BE [U.int a,U.int b]=some (kT (a,b)):=rfl;refine .of (r:=(.nx,ρ,Y3.set jt (.dit (pd (jI ts (a,b) ()))))) ?_ ⟨rfl,jI ts (a,b) (),_,_,hρ,?_,(Fw.of W3).trans (.set W3.well n3 _),vk nd,rn ..,fun p hp=>(og hp).elim (fun e=>by rw[e];exact⟨⟨a0,a1⟩,⟨b0,b1⟩,nab⟩) (tb p)⟩
  ·simp only[gR,h1,h2,h3,hk3,htk,Q3];rw[if_pos hlim,yI]
  ·rw[ZL,if_pos rfl,if_pos (Q9.mp hk3).1]
 unfold cQ;obtain⟨ou,hou⟩:∃ou,ou=os.map U.int:=⟨_,rfl⟩;rw[<-hou]at hh2;by_cases h1:a=b
 ·have h1':decide (a=b)=true:=decide_eq_true h1;rwa[rT,e1,e2,h1',eJ];exact⟨trivial,ts,_,_,rfl,hk2,.of W,nd,by omega,tb⟩
 ·have h1':decide (a=b)=false:=decide_eq_false h1;cases h2:decide (((os.idxOf a:Nat):Int)<((os.idxOf b:Nat):Int))with
  |true=>
   rwa[rT,e1,e2,h1',hh2,i1,i2,h2,eJ];exact hput h1 Y2 _ _ _ _ W rfl rfl rfl rfl
  |false=>
   obtain⟨d,Y3,e3,w3,l3,d0,d1⟩:=cE (m:=6) w2.well (by omega) (by omega);cases h3:decide (d=0)with
   |true=>
    rwa[rT,e1,e2,h1',hh2,i1,i2,h2,e3,h3,eJ];exact hput h1 Y3 _ _ _ _ (W.trans w3) rfl rfl rfl rfl
   |false=>
    rwa[rT,e1,e2,h1',hh2,i1,i2,h2,e3,h3,eJ];exact⟨trivial,ts,_,_,rfl,w3.get hk2 n3,.of (W.trans w3),nd,by omega,tb⟩
theorem uG(n2:jh≠lw)(n3:jt≠lw)(n5:jh≠jt)(m0:1<=many)(m1:many<=90)(ho:os.length<=90)(hm:∀a,0<=a->a<many->a∈os) :
  ∀(us:List U) (ts:List ((Int×Int)×Unit)) (Y:Sto) (r8 r9 r12:Option U),Y[jh]?=some (.lst (os.map U.int))->Y[jt]?=some (.dit (pd ts))->(∃z,Y[lw]?=some (.lst [.int z]))->ts.length+us.length<=90->(ts.map (·.1)).Nodup->TmB many ts->
  ∃(ts':List ((Int×Int)×Unit)) (Y':Sto) (r8' r9' r12':Option U),dA (fun _=>True) (gNm 8) (cQ gk eN) us (rT lw most many jh jw r5 r6 r7 r8 r9 r10 (some (.ref jt)) r12) Y=some (.nx,rT lw most many jh jw r5 r6 r7 r8' r9' r10 (some (.ref jt)) r12',Y')/\Y'[jt]?=some (.dit (pd ts'))/\Fw lw jt Y Y'/\(ts'.map (·.1)).Nodup/\ts'.length<=ts.length+us.length/\TmB many ts'
 |[],ts,Y,r8,r9,r12,h1,h3,h4,_,h7,h8=>⟨ts,Y,r8,r9,r12,eD trivial,h3,.of (.refl h4),h7,by simp,h8⟩
 |u::us,ts,Y,r8,r9,r12,h1,h3,h4,h5,h7,h8=>by
  rw[QD]at h5;obtain⟨ts1,Y1,s9,s12,e,k1,k2,k4,k5,k6⟩:=BD (most:=most) (jw:=jw) (r5:=r5) (r6:=r6) (r7:=r7) (r8:=some u) (r9:=r9) (r10:=r10) (r12:=r12) n2 n3 m0 m1 h1 h3 h4 ho hm (by omega) h7 h8;obtain⟨ts',Y',t8,t9,t12,ih,i1,i2,i4,i5,i6⟩:=uG n2 n3 n5 m0 m1 ho hm us ts1 Y1 (some u) s9 s12 (k2.get h1 n2 n5) k1 k2.well (by omega) k4 k6;exact⟨ts',Y',t8,t9,t12,(fK trivial rfl e).trans ih,i1,k2.trans i2,i4,by rw[QD];omega,i6⟩
def n6(p:(Int×Int)×Int):List Int:=[p.1.1,p.1.2,p.2]
def BV(p:(Int×Int)×Unit):List Int:=[p.1.1,p.1.2]
theorem me:∀ts:List ((Int×Int)×Unit),sG (pd ts)=some (ts.map BV)
 |[]=>rfl
 |p::ts=>by
  have ih:=me ts;unfold pd at ih ⊢;rw[Qk,sG,ih];rfl
theorem BU{ts:List ((Int×Int)×Unit)}(h:(ts.map (·.1)).Nodup):(ts.map BV).Nodup:=by
 rw[X3,ZC]at h ⊢;refine h.imp fun{p q} hn e=>hn ?_;unfold BV at e;injection e with e1 e2;injection e2 with e3 _;exact Prod.ext e1 e3
theorem BS{ps:List ((Int×Int)×Int)}(h:(ps.map (·.1)).Nodup):(ps.map n6).Nodup:=by
 rw[X3,ZC]at h ⊢;refine h.imp fun{p q} hn e=>hn ?_;unfold n6 at e;injection e with e1 e2;injection e2 with e3 _;exact Prod.ext e1 e3
theorem eU{ps:List (List Int)}{r:List Int}(h:r∈ft ps):r∈ps:=by
 unfold ft at h;split at h
 ·rename_i hx;exact(hx.choose_spec.2 r).mp h
 ·cases h
theorem nU{ps:List (List Int)}:(ft ps).length<=ps.length:=by
 have nd:(ft ps).Nodup:=by
  unfold ft;split
  ·rename_i hx;exact hx.choose_spec.1.imp fun{a b} h e=>by subst e;rw[kG]at h;cases h
  ·exact Zm
 exact List.Nodup.length_le_of_subset nd fun r hr=>eU hr
theorem sD{ts:List ((Int×Int)×Unit)}(h:S[jt]?=some (.dit (pd ts)))(nd:(ts.map (·.1)).Nodup)(hl:ts.length<64):eE [.ref jt] S=some (.ref S.length,S++[.lst ((ft (ts.map BV)).map rwU)]):=by
 simp only[eE,h,me,Q3];rw[if_pos ⟨fun p hp=>by obtain⟨q,_,rfl⟩:=Qh.mp hp;exact List.cons_ne_nil _ _,BU nd,by rw[QZ];exact hl⟩]
theorem sE{ps:List ((Int×Int)×Int)}{l:Nat}(h:S[l]?=some (.lst ((ps.map n6).map rwU)))(nd:(ps.map (·.1)).Nodup)(hl:ps.length<64):eE [.ref l] S=some (.ref S.length,S++[.lst ((ft (ps.map n6)).map rwU)]):=by
 simp only[eE,h,nZ,Q3];rw[if_pos ⟨fun p hp=>by obtain⟨q,_,rfl⟩:=Qh.mp hp;exact List.cons_ne_nil _ _,BS nd,by rw[QZ];exact hl⟩]
def HM:CE:=rW (ao 7) (gNm 0) (cOp cT (ao 0) (bw (ag (cOp CZ (ao 1) (ao 0)) aB))) 1 [7]
theorem BC{ps:List ((Int×Int)×Int)}{ρ:Rho}(h7:ρ[7]?=some (some (.ref jk)))(hk:S[jk]?=some (.dit (jb ps)))(nd:(ps.map (·.1)).Nodup)(hl:ps.length<=900):HM ρ S=some (.ref S.length,S++[.lst ((ps.map n6).map rwU)]):=by
 have hv:ao 7 ρ S=some (.ref jk,S):=by unfold ao;rw[h7]
 have lk:jk<S.length:=(Q9.mp hk).1;unfold HM rW xm;rw[hv,Q3];simp only[hk];refine Eg fun ep=>?_;have ek:∀X:Sto,(S.set jk (.fdt ep (jb ps))++X)[jk]?=some (.fdt ep (jb ps)):=fun X=>aD (by rw[ZL,if_pos rfl,if_pos lk]);have key:=oM (S:=S.set jk (.fdt ep (jb ps))) (ok:=fun S'=>S'[jk]?=some (.fdt ep (jb ps))) (gg:=gNm 0) (ce:=cOp cT (ao 0) (bw (ag (cOp CZ (ao 1) (ao 0)) aB))) (f:=fun p:(Int×Int)×Int=>.tup [.int p.1.1,.int p.1.2]) (v:=fun p=>rwU (n6 p)) (Rel:=fun ρ=>∃r0,ρ=[r0,some (.ref jk)]) (fun ys G=>ek _) ps [] [] [none,some (.ref jk)] ⟨_,rfl⟩ (by simp;omega) (fun p hp ys G ρ hρ=>by
  obtain⟨r0,rfl⟩:=hρ;refine⟨[some (.tup [.int p.1.1,.int p.1.2]),some (.ref jk)],⟨_,rfl⟩,rfl,?_⟩;have hva:iN (jb ps) (kT p.1)=some (.int p.2):=by
   have nd':((jb ps).map (·.1)).Nodup:=by
    unfold jb;rw[Qs,X3,ZC];rw[X3,ZC]at nd;exact nd.imp fun{a b} hn e=>hn (wg _ _ e)
   exact yk (p:=(kT p.1,.int p.2)) nd' (Qh.mpr ⟨p,hp,rfl⟩)
  have hx:CZ (.ref jk) (.tup [.int p.1.1,.int p.1.2]) (S.set jk (.fdt ep (jb ps))++(.lst ys::G))=some (.int p.2,S.set jk (.fdt ep (jb ps))++(.lst ys::G)):=by
   have ht:BE [U.int p.1.1,U.int p.1.2]=some (kT p.1):=rfl;simp only[CZ,ht,Q3,ek,hva]
  have ha:cT (.tup [.int p.1.1,.int p.1.2]) (.tup [.int p.2]) (S.set jk (.fdt ep (jb ps))++(.lst ys::G))=some (rwU (n6 p),S.set jk (.fdt ep (jb ps))++(.lst ys::G)):=by
   unfold cT;simp only;rw[if_pos (by unfold LIM;simp)];rfl
  rwa[hx,ha])
 rw[List.length_set]at key;have ef:(jb ps).map (fun q=>U.tup (q.1.map kU))=ps.map fun p:(Int×Int)×Int=>.tup [.int p.1.1,.int p.1.2]:=by unfold jb;rw[Qs];rfl
 have er:mh 1 [7] ρ=[none,some (.ref jk)]:=by simp only[mh,Qr,Qk,Zl,h7,ZV,ZZ,ZX]
 simp only[ZX]at key;rw[ef,er,key,Q3];have em:(ps.map fun p=>rwU (n6 p))=(ps.map n6).map rwU:=by rw[Qs];rfl
 have e2:(S.set jk (.fdt ep (jb ps))++[O.lst (ps.map fun p=>rwU (n6 p))]).set jk (.dit (jb ps))=S++[.lst ((ps.map n6).map rwU)]:=by
  rw[List.set_append_left _ _ (by rw[List.length_set];exact lk),yy hk,em]
 simp only[ek,e2]
theorem KD{cr:CA}{ρ:Rho}{S S1:Sto}{n:Int}{g:CG}{b:CS}(h:cr ρ S=some ([.int n],S1))(n0:0<=n)(n1:n<=1000):lR (cK cr) g b ρ S=dA (fun _=>True) g b (bx 0 n.toNat) ρ S1:=by
 have hb:-(2^62)<=n/\n<2^62:=by omega
 unfold lR cK;rw[h,Q3];simp only[hb,and_self,if_true,Q3]
def sg:Fn:=fnU 13 2 (dZ gk eN)
structure zW(many:Int)(tms:List (Int×Int))(wr lk:List (List Int)):Prop where
 htm:∀p∈tms,(0<=p.1/\p.1<many)/\(0<=p.2/\p.2<many)/\p.1≠p.2
 htl:tms.length<=60
 hwr:∀r∈wr,(∀x∈r,0<=x/\x<many)/\r.Nodup
 hwl:1<=wr.length/\wr.length<=6
 hlk:∀r∈lk,∃a b v,r=[a,b,v]/\(0<=a/\a<many)/\(0<=b/\b<wr.length)/\(v=-1\/(v∈wr.getD b.toNat []/\v≠a))
 hll:lk.length<=60
theorem l0:∀{rs:List (List Int)},(∀r∈rs,∃a b,r=[a,b])->∃ps:List (Int×Int),rs=ps.map fun p=>[p.1,p.2]
 |[],_=>⟨[],rfl⟩
 |r::rs,h=>by
  obtain⟨a,b,rfl⟩:=h r QY;obtain⟨ps,e⟩:=l0 (rs:=rs) fun x hx=>h x (QU _ hx);exact⟨(a,b)::ps,by rw[e];rfl⟩
theorem uc{ρ:Rho}{S:Sto}:rV ρ S=some (.ref S.length,S++[.dit []]):=rfl
def J7(r:List Int):Int×Int:=(r.getD 0 0,r.getD 1 0)
structure Gi(tms:List (Int×Int))(lk:List (List Int)):Prop where
 ta:tms.Pairwise fun a b=>ltP a b=true
 la:lk.Pairwise fun a b=>ltP (J7 a) (J7 b)=true
theorem nV{ps:List (List Int)}:(ft ps).Pairwise fun a b=>ltR a b=true:=by
 unfold ft;split
 ·rename_i hx;exact hx.choose_spec.1
 ·exact .nil
theorem IM{a b c d:Int}(h:ltR [a,b] [c,d]=true):ltP (a,b) (c,d)=true:=by
 unfold ltP;simp only[ltR]at h;split at h
 ·split at h
  ·cases h
  ·simp at h;simp;omega
 ·simp at h;simp;omega
theorem IL{a b c d v w:Int}(h:ltR [a,b,v] [c,d,w]=true)(n:(a,b)=(c,d)->v=w):ltP (a,b) (c,d)=true:=by
 unfold ltP;simp only[ltR]at h;split at h
 ·rename_i e1;split at h
  ·rename_i e2;rw[n (by rw[e1,e2])]at h;simp at h
  ·simp at h;simp;omega
 ·simp at h;simp;omega
theorem CD{ps:List ((Int×Int)×Int)}(nd:(ps.map (·.1)).Nodup){p q:(Int×Int)×Int}(hp:p∈ps)(hq:q∈ps)(e:p.1=q.1):p=q:=by
 induction ps with
 |nil=>cases hp
 |cons x xs ih=>
  rw[Qk,ZS]at nd;rcases QL.mp hp with rfl|hp'
  ·rcases QL.mp hq with rfl|hq'
   ·rfl
   ·exact absurd (Qh.mpr ⟨q,hq',e.symm⟩) nd.1
  ·rcases QL.mp hq with rfl|hq'
   ·exact absurd (Qh.mpr ⟨p,hp',e⟩) nd.1
   ·exact ih nd.2 hp' hq'
theorem yr(wl:∃z,Y[lw]?=some (.lst [.int z]))(m0:1<=most)(m1:most<=30):∃(many:Int) (tms:List (Int×Int)) (wr lk:List (List Int)) (Y':Sto),sg [.ref lw,.int most] Y=some (lJ many (.tup (tms.map pP)) wr lk,Y')/\Wl lw Y Y'/\(1<=many/\many<=most/\tms.length<=30)/\zW many tms wr lk/\Gi tms lk:=by
 have hl0:lw<Y.length:=by obtain⟨z,h⟩:=wl;exact(Q9.mp h).1
 obtain⟨d,Y1,e1,w1,l1,d0,d1⟩:=cE (m:=most) wl (by omega) (by omega);obtain⟨many,hmany⟩:∃many:Int,many=1+d:=⟨_,rfl⟩;obtain⟨os,Y2,jh,e2,h2,j2,w2,lo,on,mo⟩:=zf (many:=many) w1.well (by omega) (by omega);have ho:os.length<=90:=by omega
 have hm:∀a,0<=a->a<many->a∈os:=fun a a0 a1=>(mo a).mpr ⟨a0,a1⟩;have lh:jh<Y2.length:=(Q9.mp h2).1;have hl2:lw<Y2.length:=Qy (by omega) w2.len;obtain⟨d3,Y3,e3,w3,l3,d30,d31⟩:=cE (T:=Y2++[.lst [],.lst [.int 3,.int 3,.int 6]]) (lw:=lw) (m:=3) (by obtain⟨z,h⟩:=w2.well;exact⟨z,aD h⟩) (by omega) (by omega);have g3:Y3[Y2.length+1]?=some (.lst [.int 3,.int 3,.int 6]):=w3.get (by rw[ga];rfl) (by omega);obtain⟨v,a3,v0,v1⟩:∃v:Int,atI [U.int 3,.int 3,.int 6] d3=some (.int v)/\0<v/\v<=6:=by
  have:d3=0\/d3=1\/d3=2:=by omega
  rcases this with rfl|rfl|rfl
  ·exact⟨3,rfl,by decide,by decide⟩
  ·exact⟨3,rfl,by decide,by decide⟩
  ·exact⟨6,rfl,by decide,by decide⟩
 obtain⟨d4,Y4,e4,w4,l4,d40,d41⟩:=cE (m:=v) w3.well v0 (by omega);have W4:Wl lw (Y2++[.lst [],.lst [.int 3,.int 3,.int 6]]) Y4:=w3.trans w4;have h4:Y4[jh]?=some (.lst (os.map U.int)):=W4.get (aD h2) (by omega);have k4:Y4[Y2.length]?=some (.lst (([]:List (List Int)).map rwU)):=W4.get (by rw[ga0];rfl) (by omega);have nlen:(bx 0 (1+d4).toNat).length=(1+d4).toNat:=by simp[bx]
 obtain⟨wr,Y5,s5,s6,e5,k5,f5,c5,lw5⟩:=ui (lw:=lw) (jh:=jh) (jw:=Y2.length) (most:=most) (many:=many) (r7:=none) (r8:=none) (r9:=none) (r10:=none) (r11:=none) (r12:=none) (by omega) (by omega) (by omega) ho on (bx 0 (1+d4).toNat) [] Y4 none none h4 k4 W4.well (by rw[nlen];simp;omega) (fun r hr=>by cases hr);have wlen:wr.length=(1+d4).toNat:=by rw[lw5,nlen];simp
 have h5:Y5[jh]?=some (.lst (os.map U.int)):=f5.get h4 (by omega) (by omega);obtain⟨d6,Y6,e6,w6,l6,d60,d61⟩:=cE (T:=Y5++[.dit []]) (lw:=lw) (m:=2*many+1) (by obtain⟨z,h⟩:=f5.well;exact⟨z,aD h⟩) (by omega) (by omega);have l5:Y2.length<Y5.length:=(Q9.mp k5).1;have l5h:jh<Y5.length:=(Q9.mp h5).1;have hl5:lw<Y5.length:=by obtain⟨z,h⟩:=f5.well;exact(Q9.mp h).1
 have nl6:(bx 0 d6.toNat).length=d6.toNat:=by simp[bx]
 obtain⟨ps,Y7,t5,t6,t8,t9,t10,e7,k7,f7,ib,nd7,lp⟩:=wa (lw:=lw) (jh:=jh) (jw:=Y2.length) (jk:=Y5.length) (most:=most) (many:=many) (wr:=wr) (r11:=none) (r12:=none) (by omega) (by omega) (by omega) (by omega) (by omega) (by omega) (by omega) (by omega) (by omega) ho hm c5 (bx 0 d6.toNat) [] Y6 s5 s6 none none none (w6.get (aD h5) (by omega)) (w6.get (aD k5) (by omega)) (w6.get (by rw[ga0];rfl) (by omega)) w6.well (by rw[nl6];simp;omega) (fun p hp=>by cases hp) Zm;have hps:ps.length<64:=by rw[nl6]at lp;simp at lp;omega
 have h7:Y7[jh]?=some (.lst (os.map U.int)):=f7.get (w6.get (aD h5) (by omega)) (by omega) (by omega);have b7:Y7[Y2.length]?=some (.lst (wr.map rwU)):=f7.get (w6.get (aD k5) (by omega)) (by omega) (by omega);obtain⟨d8,Y8,e8,w8,l8,d80,d81⟩:=cE (T:=Y7++[.dit []]) (lw:=lw) (m:=many+1) (by obtain⟨z,h⟩:=f7.well;exact⟨z,aD h⟩) (by omega) (by omega);have l7:Y5.length<Y7.length:=(Q9.mp k7).1;have nl8:(bx 0 d8.toNat).length=d8.toNat:=by simp[bx]
 obtain⟨ts,Y9,u8,u9,u12,e9,k9,f9,nd9,lt9,tb9⟩:=uG (lw:=lw) (jh:=jh) (jw:=Y2.length) (jt:=Y7.length) (most:=most) (many:=many) (r5:=t5) (r6:=t6) (r7:=some (.ref Y5.length)) (r10:=t10) (by omega) (by omega) (by omega) (by omega) (by omega) ho hm (bx 0 d8.toNat) [] Y8 t8 t9 none (w8.get (aD h7) (by omega)) (w8.get (by rw[ga0];rfl) (by omega)) w8.well (by rw[nl8];simp;omega) Zm (fun p hp=>by cases hp);have hts:ts.length<64:=by rw[nl8]at lt9;simp at lt9;omega
 have b9:Y9[Y2.length]?=some (.lst (wr.map rwU)):=f9.get (w8.get (aD b7) (by omega)) (by omega) (by omega);have q9:Y9[Y5.length]?=some (.dit (jb ps)):=f9.get (w8.get (aD k7) (by omega)) (by omega) (by omega);obtain⟨tms,htms⟩:∃tms,tms=ft (ts.map BV):=⟨_,rfl⟩;obtain⟨lk,hlk⟩:∃lk,lk=ft (ps.map n6):=⟨_,rfl⟩;have x1:=sD (S:=Y9) k9 nd9 hts;have x2:=BC (S:=Y9++[.lst (tms.map rwU)]) (ρ:=rT lw most many jh Y2.length t5 t6 (some (.ref Y5.length)) u8 u9 t10 (some (.ref Y7.length)) u12) rfl (aD q9) nd7 (by omega);have x3:=sE (S:=Y9++[.lst (tms.map rwU)]++[.lst ((ps.map n6).map rwU)]) (l:=(Y9++[O.lst (tms.map rwU)]).length) (by rw[ga0];rfl) nd7 hps;rw[<-htms]at x1;rw[<-hlk]at x3;have W9:Wl lw Y Y9:=by
  have A:Wl lw Y Y4:=((w1.trans w2).trans (Wl.app w2.well _)).trans W4;have B:Wl lw Y Y5:=⟨Qo A.len f5.len,fun j hj n=>by rw[f5.keep j (Qy hj A.len) n (by have:=w1.len;have:=w2.len;omega),A.keep j hj n],f5.well⟩;have C:Wl lw Y Y6:=(B.trans (.app f5.well _)).trans w6;have D:Wl lw Y Y7:=⟨Qo C.len f7.len,fun j hj n=>by rw[f7.keep j (Qy hj C.len) n (by have:=B.len;omega),C.keep j hj n],f7.well⟩;have E:Wl lw Y Y8:=(D.trans (.app f7.well _)).trans w8;exact⟨Qo E.len f9.len,fun j hj n=>by rw[f9.keep j (Qy hj E.len) n (by have:=D.len;omega),E.keep j hj n],f9.well⟩
 obtain⟨pms,hpms⟩:=l0 (rs:=tms) fun r hr=>by
  rw[htms]at hr;obtain⟨p,_,rfl⟩:=Qh.mp (eU hr);exact⟨_,_,rfl⟩
 have etm:tms.map rwU=pms.map pP:=by rw[hpms,Qs];rfl
 have hpl:pms.length<=30:=by
  have h1:tms.length=pms.length:=by rw[hpms,QZ]
  have h2:tms.length<=ts.length:=by rw[htms];exact Qo nU (by rw[QZ];exact QJ _)
  rw[nl8]at lt9;simp at lt9;omega
 refine⟨many,pms,wr,lk,Y9++[.lst (tms.map rwU)]++[.lst ((ps.map n6).map rwU)]++[.lst (lk.map rwU)],?_,?_,⟨by omega,by omega,hpl⟩,⟨fun p hp=>?_,by omega,fun r hr=>?_,⟨by omega,by omega⟩,fun r hr=>?_,?_⟩,?_,?_⟩
 ·rw[<-etm];obtain⟨V,hV⟩:∃V,V=Y9++[.lst (tms.map rwU)]++[.lst ((ps.map n6).map rwU)]++[.lst (lk.map rwU)]:=⟨_,rfl⟩;rw[<-hV];suffices h:Wp (sg [.ref lw,.int most] Y) fun r=>r=(lJ many (.tup (tms.map rwU)) wr lk,V)by obtain⟨r,e,rfl⟩:=h;exact e
  unfold sg;rw[qf];unfold dZ;have L2n:(Y2++[O.lst []]).length=Y2.length+1:=by rw[Qz];rfl
  have t2:∀S:Sto,kQ (.int 2) (.int many) S=some (.int (2*many),S):=fun S=>mH (.inl (by decide));rwa[e1,hmany.symm,e2,eJ];repeat with_reducible refine Wp.bind ?_
  refine HL (pS (n:=1+d4) (S1:=Y4) (by rwa[L2n,e3,g3,a3,e4]) (by omega) (by omega)) ?_;refine .of e5 ?_;rwa[rT,uc,eJ];repeat with_reducible refine Wp.bind ?_
  refine HL (pS (n:=d6) (S1:=Y6) (by rwa[t2,e6]) (by omega) (by omega)) ?_;refine .of e7 ?_;rwa[rT,uc,eJ];repeat with_reducible refine Wp.bind ?_
  refine HL (pS (n:=d8) (S1:=Y8) (by rwa[e8]) (by omega) (by omega)) ?_;refine .of e9 ?_;have b9':(Y9++[O.lst (tms.map rwU)])[Y2.length]?=some (.lst (wr.map rwU)):=aD b9;have c9:(Y9++[O.lst (tms.map rwU)])[Y9.length]?=some (.lst (tms.map rwU)):=by rw[ga0];rfl
  obtain⟨Z,hZ⟩:∃Z,Z=Y9++[O.lst (tms.map rwU)]++[.lst ((ps.map n6).map rwU)]:=⟨_,rfl⟩;rw[<-hZ]at x2 x3 hV;rw[<-hV]at x3;have gV:V[Z.length]?=some (.lst (lk.map rwU)):=by rw[hV,ga0];rfl
  obtain⟨X,hX⟩:∃X,X=Y9++[O.lst (tms.map rwU)]:=⟨_,rfl⟩;rw[<-hX]at x1 x2 x3 b9' c9;simp only[rT,HM]at x2;rwa[rT,x1,c9,b9',x2,x3,gV,lJ,eJ]
 ·have A:=W9.well;refine((W9.trans (.app A _)).trans (.app ?_ _)).trans (.app ?_ _)
  ·obtain⟨z,h⟩:=A;exact⟨z,aD h⟩
  ·obtain⟨z,h⟩:=A;exact⟨z,aD (aD h)⟩
 ·have hm:[p.1,p.2]∈tms:=by rw[hpms];exact Qh.mpr ⟨p,hp,rfl⟩
  rw[htms]at hm;obtain⟨q,hq,e⟩:=Qh.mp (eU hm);unfold BV at e;injection e with e1 e2;injection e2 with e3 _;have:=tb9 q hq;rw[e1,e3]at this;exact this
 ·obtain⟨q1,_,q3⟩:=c5 r hr;exact⟨fun x hx=>(mo x).mp (q1 x hx),q3⟩
 ·rw[hlk]at hr;obtain⟨p,hp,rfl⟩:=Qh.mp (eU hr);obtain⟨p1,p2,p3,p4⟩:=ib p hp;exact⟨p.1.1,p.1.2,p.2,rfl,p1,⟨p2,p3⟩,p4⟩
 ·have h2:lk.length<=ps.length:=by rw[hlk];exact Qo nU (by rw[QZ];exact QJ _)
  rw[nl6]at lp;simp at lp;omega
 ·have h:=nV (ps:=ts.map BV);rw[<-htms,hpms,ZC]at h;exact h.imp fun{a b} z=>IM z
 ·have h:=nV (ps:=ps.map n6);rw[hlk];refine h.imp_of_mem fun{a b} ma mb z=>?_;obtain⟨p,hp,rfl⟩:=Qh.mp (eU ma);obtain⟨q,hq,rfl⟩:=Qh.mp (eU mb);exact IL z fun e=>by rw[CD nd7 hp hq e]
end
def bp(aZ:Fn):CS:=
 (eA (fS (cCB aZ (ag (ao 0) aB)) (gw fLe fLe (ao 1) (ao 0) (ao 2))))
theorem p9{aZ:Fn}{a0 a1 a2:U}{S:Sto}:fnU 3 3 (bp aZ) [a0,a1,a2] S=((bp aZ) [some a0,some a1,some a2] S).bind kFn:=lT rfl
end OQ
namespace OL
open PySem PySem.Spec PyProof.Rows L2 OG OP OQ
def top(i:Nat):ZR:=PySem.Challenge.pw_oneglance_k25_what_is_a_tale.main.body.getD i (.Pass ⟨0,0,0,0⟩)
abbrev iQ:ZR:=top 1
abbrev gy:ZR:=top 2
abbrev kh:ZR:=top 7
abbrev iR:ZR:=top 8
abbrev kg:ZR:=top 9
abbrev fE:ZR:=top 10
abbrev fF:ZR:=top 11
abbrev iS:ZR:=top 12
abbrev ki:ZR:=top 13
abbrev gB:ZR:=top 14
abbrev gC:ZR:=top 15
abbrev gE:ZR:=top 17
abbrev iT:ZR:=top 18
abbrev fG:ZR:=top 19
abbrev fH:ZR:=top 20
abbrev gF:ZR:=top 21
abbrev fe:ZR:=top 22
abbrev eK:ZR:=top 23
abbrev iU:ZR:=top 24
abbrev gG:ZR:=top 25
abbrev BQ:ZR:=top 26
section
variable{P:Qu}{w:Qm}{K:Q5}{mg:Str->Option Q6}{base:Heap}
theorem j7:a5 ["thing"] ["thing"] (aE iQ):=⟨rfl,rfl,rfl,by decide +kernel,rfl,by decide +kernel,by decide +kernel⟩
theorem sT{k:Nat}(d:Def K mg "is_whole" iQ ["thing"])(B:Blt mg):dD P w K mg base "is_whole" (k+1) ["thing"] (fnU 1 1 (eX )):=
 d.pure j7 fun f cdv A outer s H E hr=>(by
  have hu:=eL hr;have nd:=j7.nd;exact(aI (aS (eR (fv (T:=.int) (by intro z;cases z) (ah (wpv 0)) (cU rfl B.int OG.jQ) rfl B.isinstance) (iV (Av (fv (T:=.bool) (by intro z;cases z) (ah (wpv 0)) (cU rfl B.bool OG.lu) rfl B.isinstance)))))))
theorem jm:a5 ["thing","least","most"] ["thing","least","most"] (aE gy):=⟨rfl,rfl,rfl,by decide +kernel,rfl,by decide +kernel,by decide +kernel⟩
theorem pT{k:Nat}{aZ:Fn}(d:Def K mg "is_within" gy ["thing","least","most"])(B:Blt mg)(dP:dD P w K mg base "is_whole" (k) ["thing"] aZ):dD P w K mg base "is_within" (k+1) ["thing","least","most"] (fnU 3 3 (bp aZ)):=
 d.pure jm fun f cdv A outer s H E hr=>(by
  have hu:=eL hr;have nd:=jm.nd;exact(aI (aS (eR (aH dP hr rfl (ae (ah (wpv 0)) av)) (iV (B1 Fj JQ Fj JQ (ah (wpv 1)) (ah (wpv 0)) (ah (wpv 2))))))))
theorem lX:a5 ["many","thing"] ["many","thing"] (aE kg):=⟨rfl,rfl,rfl,by decide +kernel,rfl,by decide +kernel,by decide +kernel⟩
def dh(ax:Fn):CS:=
 (bu (jD (cOr (gZ (aK (jP .tuple (ao 1)))) (aK (cOp fNe (cCB gY (ag (ao 1) aB)) (cC (.int 2))))) (eA (cC (.bl false))) dC)
  (eA (fS (cCB o9 (ag (cP (iTp (ao 1)) (gNm 0) (cCB ax (ag (ao 0) (ag (cC (.int 0)) (ag (cOp wI (ao 1) (cC (.int 1))) aB)))) 1 [0]) aB)) (cOp fNe (cOp fIx (ao 1) (cC (.int 0))) (cOp fIx (ao 1) (cC (.int 1)))))))
theorem wN{ax:Fn}{a0 a1:U}{S:Sto}:fnU 2 2 (dh ax) [a0,a1] S=((dh ax) [some a0,some a1] S).bind kFn:=lT rfl
theorem wA{k:Nat}{ax:Fn}(d:Def K mg "is_time" kg ["many","thing"])(B:Blt mg)(aN:dD P w K mg base "is_within" (k) ["thing","least","most"] ax):dD P w K mg base "is_time" (k+1) ["many","thing"] (fnU 2 2 (dh ax)):=
 d.pure lX fun f cdv A outer s H E hr=>(by
  have hu:=eL hr;have nd:=lX.nd;exact(ay (ej (mV (jH (bq (bz (fv (T:=.tuple) (by intro z;cases z) (ah (wpv 1)) (cU rfl B.tuple OG.aV) rfl B.isinstance))) (fu (bY jA tP (aM fh fg rfl B.len PySem.boot_len (ae (ah (wpv 1)) av)) (aA ak) (a9 _))))) (aI (aS (iW br))) bW)
   (aI (aS (eR (aM (c8 rfl) lK rfl B.all OG.de (ae (eC (Nc:=["a","many"]) (tn:=["a"]) (capN:=["many"]) (caps:=[0]) rfl (cq (ah (wpv 1))) (fun _ _ _=>(aY (aF (i:=0) (show(["a","many"]:List Str).Nodup by decide +kernel) rfl (by trivial)))) (fun _ _ _=>(aH aN hr rfl (ae (ah (wpv 0)) (ae (aA ak) (ae (cD mq sO (ah (wpv 1)) (aA ak)) av))))) rfl rfl (by decide +kernel) (by decide +kernel) ⟨rfl,trivial⟩ rfl (.cons ⟨rfl,rfl,rfl,_,rfl⟩ .nil) rfl rfl) av)) (iV (iA jA tP (fJ hu (ah (wpv 1)) (aA ak) (fun _ _=>rfl) (fun _ _=>rfl)) (fJ hu (ah (wpv 1)) (aA ak) (fun _ _=>rfl) (fun _ _=>rfl)) (a9 _))))))))
theorem jq:a5 ["parts"] ["parts"] (aE gC):=⟨rfl,rfl,rfl,by decide +kernel,rfl,by decide +kernel,by decide +kernel⟩
def dY:CS:=
 (eA (cCB o9 (ag (cP (FU (ao 0) (kZ (ao 0) (some (cC (.int 1))) none)) (gTp [0,1]) (cOp Jk (ao 0) (ao 1)) 2 []) aB)))
theorem qd{a0:U}{S:Sto}:fnU 1 1 (dY ) [a0] S=((dY ) [some a0] S).bind kFn:=lT rfl
theorem pW{k:Nat}(d:Def K mg "is_rising" gC ["parts"])(B:Blt mg):dD P w K mg base "is_rising" (k+1) ["parts"] (fnU 1 1 (dY )):=
 d.pure jq fun f cdv A outer s H E hr=>(by
  have hu:=eL hr;have nd:=jq.nd;exact(aI (aS (aM (c8 rfl) lK rfl B.all OG.de (ae (eC (Nc:=["one","other"]) (tn:=["one","other"]) (capN:=[]) (caps:=[]) rfl (ED rfl B.zip (ah (wpv 0)) (ko (ah (wpv 0)) (dw (aA ak)) dz)) (fun _ _ _=>(vc rfl (c7 (aF (i:=0) (show(["one","other"]:List Str).Nodup by decide +kernel) rfl (by trivial)) (c7 (aF (i:=1) (show(["one","other"]:List Str).Nodup by decide +kernel) rfl (by trivial)) pI)))) (fun _ _ _=>(iA (Fi hr.units) IE (ah (wpv 0)) (ah (wpv 1)) (a9 _))) rfl rfl (by decide +kernel) (by decide +kernel) trivial rfl .nil rfl rfl) av)))))
theorem j8:a5 ["many","thing"] ["many","thing"] (aE iR):=⟨rfl,rfl,rfl,by decide +kernel,rfl,by decide +kernel,by decide +kernel⟩
def cX(dU aQ:Fn):CS:=
 (eA (fS (jP .tuple (ao 1)) (fS (cCB o9 (ag (cP (iTp (ao 1)) (gNm 0) (cCB dU (ag (ao 1) (ag (ao 0) aB))) 1 [0]) aB)) (cCB aQ (ag (ao 1) aB)))))
theorem tD{dU aQ:Fn}{a0 a1:U}{S:Sto}:fnU 2 2 (cX dU aQ) [a0,a1] S=((cX dU aQ) [some a0,some a1] S).bind kFn:=lT rfl
theorem sU{k:Nat}{dU aQ:Fn}(d:Def K mg "is_times" iR ["many","thing"])(B:Blt mg)(lD:dD P w K mg base "is_time" (k) ["many","thing"] dU)(c6:dD P w K mg base "is_rising" (k) ["parts"] aQ):dD P w K mg base "is_times" (k+1) ["many","thing"] (fnU 2 2 (cX dU aQ)):=
 d.pure j8 fun f cdv A outer s H E hr=>(by
  have hu:=eL hr;have nd:=j8.nd;exact(aI (aS (eR (fv (T:=.tuple) (by intro z;cases z) (ah (wpv 1)) (cU rfl B.tuple OG.aV) rfl B.isinstance) (eR (aM (c8 rfl) lK rfl B.all OG.de (ae (eC (Nc:=["part","many"]) (tn:=["part"]) (capN:=["many"]) (caps:=[0]) rfl (cq (ah (wpv 1))) (fun _ _ _=>(aY (aF (i:=0) (show(["part","many"]:List Str).Nodup by decide +kernel) rfl (by trivial)))) (fun _ _ _=>(aH lD hr rfl (ae (ah (wpv 1)) (ae (ah (wpv 0)) av)))) rfl rfl (by decide +kernel) (by decide +kernel) ⟨rfl,trivial⟩ rfl (.cons ⟨rfl,rfl,rfl,_,rfl⟩ .nil) rfl rfl) av)) (iV (aH c6 hr rfl (ae (ah (wpv 1)) av))))))))
theorem hJ:a5 ["many","thing"] ["many","thing"] (aE fF):=⟨rfl,rfl,rfl,by decide +kernel,rfl,by decide +kernel,by decide +kernel⟩
def bQ(ax:Fn):CS:=
 (bu (jD (cOr (gZ (aK (jP .tuple (ao 1)))) (gZ (aK (cCB o9 (ag (cP (iTp (ao 1)) (gNm 0) (cCB ax (ag (ao 0) (ag (cC (.int 0)) (ag (cOp wI (ao 1) (cC (.int 1))) aB)))) 1 [0]) aB))))) (eA (cC (.bl false))) dC)
  (eA (cOp fEq (jO (ao 1)) (cCB gY (ag (ao 1) aB)))))
theorem oI{ax:Fn}{a0 a1:U}{S:Sto}:fnU 2 2 (bQ ax) [a0,a1] S=((bQ ax) [some a0,some a1] S).bind kFn:=lT rfl
theorem oD{k:Nat}{ax:Fn}(d:Def K mg "are_unlike" fF ["many","thing"])(B:Blt mg)(aN:dD P w K mg base "is_within" (k) ["thing","least","most"] ax):dD P w K mg base "are_unlike" (k+1) ["many","thing"] (fnU 2 2 (bQ ax)):=
 d.pure hJ fun f cdv A outer s H E hr=>(by
  have hu:=eL hr;have nd:=hJ.nd;exact(ay (ej (mV (jH (bq (bz (fv (T:=.tuple) (by intro z;cases z) (ah (wpv 1)) (cU rfl B.tuple OG.aV) rfl B.isinstance))) (fu (bq (bz (aM (c8 rfl) lK rfl B.all OG.de (ae (eC (Nc:=["a","many"]) (tn:=["a"]) (capN:=["many"]) (caps:=[0]) rfl (cq (ah (wpv 1))) (fun _ _ _=>(aY (aF (i:=0) (show(["a","many"]:List Str).Nodup by decide +kernel) rfl (by trivial)))) (fun _ _ _=>(aH aN hr rfl (ae (ah (wpv 0)) (ae (aA ak) (ae (cD mq sO (ah (wpv 1)) (aA ak)) av))))) rfl rfl (by decide +kernel) (by decide +kernel) ⟨rfl,trivial⟩ rfl (.cons ⟨rfl,rfl,rfl,_,rfl⟩ .nil) rfl rfl) av))))))) (aI (aS (iW br))) bW)
   (aI (aS (iA ox Ax (ve rfl rfl B.len rfl B.set (ah (wpv 1))) (aM fh fg rfl B.len PySem.boot_len (ae (ah (wpv 1)) av)) (a9 _))))))
theorem hE:a5 ["many","thing"] ["many","thing"] (aE fE):=⟨rfl,rfl,rfl,by decide +kernel,rfl,by decide +kernel,by decide +kernel⟩
def bP(ax bK:Fn):CS:=
 (bu (jD (cOr (gZ (aK (jP .tuple (ao 1)))) (gZ (aK (cCB ax (ag (cCB gY (ag (ao 1) aB)) (ag (cC (.int 1)) (ag (cC (.int 6)) aB))))))) (eA (cC (.bl false))) dC)
  (eA (cCB o9 (ag (cP (iTp (ao 1)) (gNm 0) (cCB bK (ag (ao 1) (ag (ao 0) aB))) 1 [0]) aB))))
theorem oH{ax bK:Fn}{a0 a1:U}{S:Sto}:fnU 2 2 (bP ax bK) [a0,a1] S=((bP ax bK) [some a0,some a1] S).bind kFn:=lT rfl
theorem oC{k:Nat}{ax bK:Fn}(d:Def K mg "is_writers" fE ["many","thing"])(B:Blt mg)(C_MOST_BOXES:∃t,mg "MOST_BOXES"=some (.int (6) t))(aN:dD P w K mg base "is_within" (k) ["thing","least","most"] ax)(fU:dD P w K mg base "are_unlike" (k) ["many","thing"] bK):dD P w K mg base "is_writers" (k+1) ["many","thing"] (fnU 2 2 (bP ax bK)):=
 d.pure hE fun f cdv A outer s H E hr=>(by
  have hu:=eL hr;have nd:=hE.nd;exact(ay (ej (mV (jH (bq (bz (fv (T:=.tuple) (by intro z;cases z) (ah (wpv 1)) (cU rfl B.tuple OG.aV) rfl B.isinstance))) (fu (bq (bz (aH aN hr rfl (ae (aM fh fg rfl B.len PySem.boot_len (ae (ah (wpv 1)) av)) (ae (aA ak) (ae (aA (mI rfl C_MOST_BOXES)) av))))))))) (aI (aS (iW br))) bW)
   (aI (aS (aM (c8 rfl) lK rfl B.all OG.de (ae (eC (Nc:=["part","many"]) (tn:=["part"]) (capN:=["many"]) (caps:=[0]) rfl (cq (ah (wpv 1))) (fun _ _ _=>(aY (aF (i:=0) (show(["part","many"]:List Str).Nodup by decide +kernel) rfl (by trivial)))) (fun _ _ _=>(aH fU hr rfl (ae (ah (wpv 1)) (ae (ah (wpv 0)) av)))) rfl rfl (by decide +kernel) (by decide +kernel) ⟨rfl,trivial⟩ rfl (.cons ⟨rfl,rfl,rfl,_,rfl⟩ .nil) rfl rfl) av))))))
theorem jn:a5 ["row","a","thing"] ["row","a","thing"] (aE gB):=⟨rfl,rfl,rfl,by decide +kernel,rfl,by decide +kernel,by decide +kernel⟩
def ba(aZ:Fn):CS:=
 (eA (fS (cCB aZ (ag (ao 2) aB)) (F9 (cOp fEq (ao 2) (cC (.int (-1)))) (fS (cOp (fIn false) (ao 2) (ao 0)) (cOp fNe (ao 2) (ao 1))))))
theorem qb{aZ:Fn}{a0 a1 a2:U}{S:Sto}:fnU 3 3 (ba aZ) [a0,a1,a2] S=((ba aZ) [some a0,some a1,some a2] S).bind kFn:=lT rfl
theorem pV{k:Nat}{aZ:Fn}(d:Def K mg "is_source" gB ["row","a","thing"])(B:Blt mg)(C_AT_FIRST:∃t,mg "AT_FIRST"=some (.int (-1) t))(dP:dD P w K mg base "is_whole" (k) ["thing"] aZ):dD P w K mg base "is_source" (k+1) ["row","a","thing"] (fnU 3 3 (ba aZ)):=
 d.pure jn fun f cdv A outer s H E hr=>(by
  have hu:=eL hr;have nd:=jn.nd;exact(aI (aS (eR (aH dP hr rfl (ae (ah (wpv 2)) av)) (iV (EE (iA ox Ax (ah (wpv 2)) (aA (mI rfl C_AT_FIRST)) (a9 _)) (iV (eR (JP hu (ah (wpv 2)) (ah (wpv 0)) (by with_unfolding_all rfl)) (iV (iA jA tP (ah (wpv 2)) (ah (wpv 1)) (a9 _)))))))))))
theorem lZ:a5 ["many","writers","thing"] ["many","writers","thing"] (aE ki):=⟨rfl,rfl,rfl,by decide +kernel,rfl,by decide +kernel,by decide +kernel⟩
def cM(ax cg:Fn):CS:=
 (bu (jD (cOr (gZ (aK (jP .tuple (ao 2)))) (aK (cOp fNe (cCB gY (ag (ao 2) aB)) (cC (.int 3))))) (eA (cC (.bl false))) dC)
  (bu (jD (cOr (gZ (aK (cCB ax (ag (cOp fIx (ao 2) (cC (.int 0))) (ag (cC (.int 0)) (ag (cOp wI (ao 0) (cC (.int 1))) aB)))))) (gZ (aK (cCB ax (ag (cOp fIx (ao 2) (cC (.int 1))) (ag (cC (.int 0)) (ag (cOp wI (cCB gY (ag (ao 1) aB)) (cC (.int 1))) aB))))))) (eA (cC (.bl false))) dC)
  (eA (cCB cg (ag (cOp fIx (ao 1) (cOp fIx (ao 2) (cC (.int 1)))) (ag (cOp fIx (ao 2) (cC (.int 0))) (ag (cOp fIx (ao 2) (cC (.int 2))) aB)))))))
theorem wQ{ax cg:Fn}{a0 a1 a2:U}{S:Sto}:fnU 3 3 (cM ax cg) [a0,a1,a2] S=((cM ax cg) [some a0,some a1,some a2] S).bind kFn:=lT rfl
theorem wD{k:Nat}{ax cg:Fn}(d:Def K mg "is_look" ki ["many","writers","thing"])(B:Blt mg)(aN:dD P w K mg base "is_within" (k) ["thing","least","most"] ax)(gT:dD P w K mg base "is_source" (k) ["row","a","thing"] cg):dD P w K mg base "is_look" (k+1) ["many","writers","thing"] (fnU 3 3 (cM ax cg)):=
 d.pure lZ fun f cdv A outer s H E hr=>(by
  have hu:=eL hr;have nd:=lZ.nd;exact(ay (ej (mV (jH (bq (bz (fv (T:=.tuple) (by intro z;cases z) (ah (wpv 2)) (cU rfl B.tuple OG.aV) rfl B.isinstance))) (fu (bY jA tP (aM fh fg rfl B.len PySem.boot_len (ae (ah (wpv 2)) av)) (aA ak) (a9 _))))) (aI (aS (iW br))) bW)
   (ay (ej (mV (jH (bq (bz (aH aN hr rfl (ae (fJ hu (ah (wpv 2)) (aA ak) (fun _ _=>rfl) (fun _ _=>rfl)) (ae (aA ak) (ae (cD mq sO (ah (wpv 0)) (aA ak)) av)))))) (fu (bq (bz (aH aN hr rfl (ae (fJ hu (ah (wpv 2)) (aA ak) (fun _ _=>rfl) (fun _ _=>rfl)) (ae (aA ak) (ae (cD mq sO (aM fh fg rfl B.len PySem.boot_len (ae (ah (wpv 1)) av)) (aA ak)) av))))))))) (aI (aS (iW br))) bW)
   (aI (aS (aH gT hr rfl (ae (fJ hu (ah (wpv 1)) (fJ hu (ah (wpv 2)) (aA ak) (fun _ _=>rfl) (fun _ _=>rfl)) (fun _ _=>rfl) (fun _ _=>rfl)) (ae (fJ hu (ah (wpv 2)) (aA ak) (fun _ _=>rfl) (fun _ _=>rfl)) (ae (fJ hu (ah (wpv 2)) (aA ak) (fun _ _=>rfl) (fun _ _=>rfl)) av)))))))))
theorem j9:a5 ["many","writers","thing"] ["many","writers","thing"] (aE iS):=⟨rfl,rfl,rfl,by decide +kernel,rfl,by decide +kernel,by decide +kernel⟩
def cY(dW aQ:Fn):CS:=
 (bu (jD (cOr (gZ (aK (jP .tuple (ao 2)))) (gZ (aK (cCB o9 (ag (cP (iTp (ao 2)) (gNm 0) (cCB dW (ag (ao 1) (ag (ao 2) (ag (ao 0) aB)))) 1 [0,1]) aB))))) (eA (cC (.bl false))) dC)
  (eA (cCB aQ (ag (cP (iTp (ao 2)) (gNm 0) (kZ (ao 0) none (some (cC (.int 2)))) 1 []) aB))))
theorem tF{dW aQ:Fn}{a0 a1 a2:U}{S:Sto}:fnU 3 3 (cY dW aQ) [a0,a1,a2] S=((cY dW aQ) [some a0,some a1,some a2] S).bind kFn:=lT rfl
theorem sV{k:Nat}{dW aQ:Fn}(d:Def K mg "is_looks" iS ["many","writers","thing"])(B:Blt mg)(lE:dD P w K mg base "is_look" (k) ["many","writers","thing"] dW)(c6:dD P w K mg base "is_rising" (k) ["parts"] aQ):dD P w K mg base "is_looks" (k+1) ["many","writers","thing"] (fnU 3 3 (cY dW aQ)):=
 d.pure j9 fun f cdv A outer s H E hr=>(by
  have hu:=eL hr;have nd:=j9.nd;exact(ay (ej (mV (jH (bq (bz (fv (T:=.tuple) (by intro z;cases z) (ah (wpv 2)) (cU rfl B.tuple OG.aV) rfl B.isinstance))) (fu (bq (bz (aM (c8 rfl) lK rfl B.all OG.de (ae (eC (Nc:=["part","many","writers"]) (tn:=["part"]) (capN:=["many","writers"]) (caps:=[0,1]) rfl (cq (ah (wpv 2))) (fun _ _ _=>(aY (aF (i:=0) (show(["part","many","writers"]:List Str).Nodup by decide +kernel) rfl (by trivial)))) (fun _ _ _=>(aH lE hr rfl (ae (ah (wpv 1)) (ae (ah (wpv 2)) (ae (ah (wpv 0)) av))))) rfl rfl (by decide +kernel) (by decide +kernel) ⟨rfl,rfl,trivial⟩ rfl (.cons ⟨rfl,rfl,rfl,_,rfl⟩ (.cons ⟨rfl,rfl,rfl,_,rfl⟩ .nil)) rfl rfl) av))))))) (aI (aS (iW br))) bW)
   (aI (aS (aH c6 hr rfl (ae (eC (Nc:=["part"]) (tn:=["part"]) (capN:=[]) (caps:=[]) rfl (cq (ah (wpv 2))) (fun _ _ _=>(aY (aF (i:=0) (show(["part"]:List Str).Nodup by decide +kernel) rfl (by trivial)))) (fun _ _ _=>(ko (ah (wpv 0)) dz (dw (aA ak)))) rfl rfl (by decide +kernel) (by decide +kernel) trivial rfl .nil rfl rfl) av))))))
theorem lY:a5 ["thing","many"] ["thing"] (aE kh):=⟨rfl,rfl,rfl,by decide +kernel,rfl,by decide +kernel,by decide +kernel⟩
def bZ(ax cV bJ cW:Fn):CS:=
 (bu (jD (cOr (gZ (aK (jP .tuple (ao 0)))) (cOr (aK (cOp fNe (cCB gY (ag (ao 0) aB)) (cC (.int 4)))) (gZ (aK (cCB ax (ag (cOp fIx (ao 0) (cC (.int 0))) (ag (cC (.int 1)) (ag (cC (.int 30)) aB)))))))) (eA (cC (.bl false))) dC)
  (bu (da 1 (cOp fIx (ao 0) (cC (.int 0))))
  (eA (fS (cCB cV (ag (ao 1) (ag (cOp fIx (ao 0) (cC (.int 1))) aB))) (fS (cCB bJ (ag (ao 1) (ag (cOp fIx (ao 0) (cC (.int 2))) aB))) (cCB cW (ag (ao 1) (ag (cOp fIx (ao 0) (cC (.int 2))) (ag (cOp fIx (ao 0) (cC (.int 3))) aB)))))))))
theorem wO{ax cV bJ cW:Fn}{a0:U}{S:Sto}:fnU 2 1 (bZ ax cV bJ cW) [a0] S=((bZ ax cV bJ cW) [some a0,none] S).bind kFn:=lT rfl
theorem wB{k:Nat}{ax cV bJ cW:Fn}(d:Def K mg "is_tale" kh ["thing"])(B:Blt mg)(C_MOST_ATTEMPTS:∃t,mg "MOST_ATTEMPTS"=some (.int (30) t))(aN:dD P w K mg base "is_within" (k) ["thing","least","most"] ax)(jd:dD P w K mg base "is_times" (k) ["many","thing"] cV)(fT:dD P w K mg base "is_writers" (k) ["many","thing"] bJ)(jg:dD P w K mg base "is_looks" (k) ["many","writers","thing"] cW):dD P w K mg base "is_tale" (k+1) ["thing"] (fnU 2 1 (bZ ax cV bJ cW)):=
 d.pure lY fun f cdv A outer s H E hr=>(by
  have hu:=eL hr;have nd:=lY.nd;exact(ay (ej (mV (jH (bq (bz (fv (T:=.tuple) (by intro z;cases z) (ah (wpv 0)) (cU rfl B.tuple OG.aV) rfl B.isinstance))) (jH (bY jA tP (aM fh fg rfl B.len PySem.boot_len (ae (ah (wpv 0)) av)) (aA ak) (a9 _)) (fu (bq (bz (aH aN hr rfl (ae (fJ hu (ah (wpv 0)) (aA ak) (fun _ _=>rfl) (fun _ _=>rfl)) (ae (aA ak) (ae (aA (mI rfl C_MOST_ATTEMPTS)) av)))))))))) (aI (aS (iW br))) bW)
   (ay (aR (i:=1) nd rfl (by trivial) (fJ hu (ah (wpv 0)) (aA ak) (fun _ _=>rfl) (fun _ _=>rfl)))
   (aI (aS (eR (aH jd hr rfl (ae (ah (wpv 1)) (ae (fJ hu (ah (wpv 0)) (aA ak) (fun _ _=>rfl) (fun _ _=>rfl)) av))) (eR (aH fT hr rfl (ae (ah (wpv 1)) (ae (fJ hu (ah (wpv 0)) (aA ak) (fun _ _=>rfl) (fun _ _=>rfl)) av))) (iV (aH jg hr rfl (ae (ah (wpv 1)) (ae (fJ hu (ah (wpv 0)) (aA ak) (fun _ _=>rfl) (fun _ _=>rfl)) (ae (fJ hu (ah (wpv 0)) (aA ak) (fun _ _=>rfl) (fun _ _=>rfl)) av))))))))))))
theorem js:a5 ["script","k","number","stir","found","turn"] ["script","k"] (aE gE):=⟨rfl,rfl,rfl,by decide +kernel,rfl,by decide +kernel,by decide +kernel⟩
theorem pX{k:Nat}(d:Def K mg "_law_well" gE ["script","k"])(B:Blt mg):dD P w K mg base "_law_well" (k+1) ["script","k"] (fnU 6 2 (cZ )):=
 d.pure js fun f cdv A outer s H E hr=>(by
  have hu:=eL hr;have nd:=js.nd;exact(ay (aR (i:=2) nd rfl (by trivial) (cD bI bH (cD gq m9 (aA ak) (ah (wpv 1))) (aA ak)))
   (ay (ej (bY ni y6 (ah (wpv 1)) (aM fh fg rfl B.len PySem.boot_len (ae (ah (wpv 0)) av)) (a9 _)) (aI (aR (i:=2) nd rfl (by trivial) (fJ hu (ah (wpv 0)) (ah (wpv 1)) (fun _ _=>rfl) (fun _ _=>rfl)))) bW)
   (ay (ej (bY ox Ax (cD rb y4 (ah (wpv 2)) (aA ak)) (aA ak) (a9 _)) (aI (aS (ff (ae (cD rh Fe (ah (wpv 2)) (aA ak)) av)))) bW)
   (ay (aR (i:=3) nd rfl (by trivial) (cD rb y4 (cD bI bH (cD bI bH (cD gq m9 (ah (wpv 2)) (aA ak)) (cD gq m9 (aA ak) (ah (wpv 1)))) (aA ak)) (aA ak)))
   (ay (aR (i:=4) nd rfl (by trivial) (aA ak))
   (ay (jx PassesOwn.never rfl (eQ rfl B.range (ae (aA ak) av)) (aY (aF (i:=5) nd rfl (by trivial))) (ay (aR (i:=3) nd rfl (by trivial) (cD rb y4 (cD bI bH (cD bI bH (cD bI bH (cD gq m9 (ah (wpv 3)) (ah (wpv 3))) (cD gq m9 (aA ak) (ah (wpv 3)))) (cD gq m9 (aA ak) (ah (wpv 5)))) (aA ak)) (aA ak)))
   (aI (aR (i:=4) nd rfl (by trivial) (cD bI bH (cD gq m9 (ah (wpv 4)) (aA ak)) (ah (wpv 3)))))))
   (aI (aS (ff (ae (ah (wpv 4)) av)))))))))))
theorem kb:a5 ["well","many","digit"] ["well","many"] (aE iT):=⟨rfl,rfl,rfl,by decide +kernel,rfl,by decide +kernel,by decide +kernel⟩
theorem sW{k:Nat}(d:Def K mg "_law_sip" iT ["well","many"])(B:Blt mg):dD P w K mg base "_law_sip" (k+1) ["well","many"] (fnU 3 2 (eY )):=
 d.pure kb fun f cdv A outer s H E hr=>(by
  have hu:=eL hr;have nd:=kb.nd;exact(ay (aR (i:=2) nd rfl (by trivial) (cD rb y4 (fJ hu (ah (wpv 0)) (aA ak) (fun _ _=>rfl) (fun _ _=>rfl)) (ah (wpv 1))))
   (ay (yH hu (ah (wpv 0)) (aA ak) (cD rh Fe (fJ hu (ah (wpv 0)) (aA ak) (fun _ _=>rfl) (fun _ _=>rfl)) (ah (wpv 1))))
   (aI (aS (ah (wpv 2)))))))
theorem hU:a5 ["thing"] ["thing"] (aE fG):=⟨rfl,rfl,rfl,by decide +kernel,rfl,by decide +kernel,by decide +kernel⟩
theorem oE{k:Nat}(d:Def K mg "_law_whole" fG ["thing"])(B:Blt mg):dD P w K mg base "_law_whole" (k+1) ["thing"] (fnU 1 1 (dj )):=
 d.pure hU fun f cdv A outer s H E hr=>(by
  have hu:=eL hr;have nd:=hU.nd;exact(aI (aS (eR (fv (T:=.int) (by intro z;cases z) (ah (wpv 0)) (cU rfl B.int OG.jQ) rfl B.isinstance) (iV (Av (fv (T:=.bool) (by intro z;cases z) (ah (wpv 0)) (cU rfl B.bool OG.lu) rfl B.isinstance)))))))
theorem ie:a5 ["well","many","left","found","at"] ["well","many"] (aE fH):=⟨rfl,rfl,rfl,by decide +kernel,rfl,by decide +kernel,by decide +kernel⟩
theorem oF{k:Nat}{aw:Fn}{fuel:Nat}(d:Def K mg "_law_mixed" fH ["well","many"])(B:Blt mg)(aG:dD P w K mg base "_law_sip" (k) ["well","many"] aw):dD P w K mg base "_law_mixed" (k+1) ["well","many"] (fnU 5 2 (dn aw fuel)):=
 d.pure ie fun f cdv A outer s H E hr=>(by
  have hu:=eL hr;have nd:=ie.nd;exact(ay (aR (i:=2) nd rfl (by trivial) (pK rfl rfl B.list rfl B.range (ae (ah (wpv 1)) av) rfl rfl))
   (ay (aR (i:=3) nd rfl (by trivial) (ff av))
   (ay (yG fuel PassesOwn.never (bY (Fh hr.units) Cp (ah (wpv 2)) (ff av) (a9 _)) (ay (aR (i:=4) nd rfl (by trivial) (aH aG hr rfl (ae (ah (wpv 0)) (ae (aM fh fg rfl B.len PySem.boot_len (ae (ah (wpv 2)) av)) av))))
   (aI (vb (qU (ah (wpv 3)) (ae (BY (ah (wpv 2)) (ae (ah (wpv 4)) av)) av))))))
   (aI (aS (ah (wpv 3))))))))
theorem ju:a5 ["well","most","many","hidden","writers","box","row","looks","k","a","earlier","times","b"] ["well","most"] (aE gF):=⟨rfl,rfl,rfl,by decide +kernel,rfl,by decide +kernel,by decide +kernel⟩
theorem pY{k:Nat}{aw aU:Fn}(d:Def K mg "_law_tale" gF ["well","most"])(B:Blt mg)(aG:dD P w K mg base "_law_sip" (k) ["well","many"] aw)(fV:dD P w K mg base "_law_mixed" (k) ["well","many"] aU):dD P w K mg base "_law_tale" (k+1) ["well","most"] (fnU 13 2 (dZ aw aU)):=
 d.pure ju fun f cdv A outer s H E hr=>(by
  have hu:=eL hr;have nd:=ju.nd;exact(ay (aR (i:=2) nd rfl (by trivial) (cD bI bH (aA ak) (aH aG hr rfl (ae (ah (wpv 0)) (ae (ah (wpv 1)) av)))))
   (ay (aR (i:=3) nd rfl (by trivial) (aH fV hr rfl (ae (ah (wpv 0)) (ae (ah (wpv 2)) av))))
   (ay (aR (i:=4) nd rfl (by trivial) (ff av))
   (ay (jx PassesOwn.never rfl (eQ rfl B.range (ae (cD bI bH (aA ak) (aH aG hr rfl (ae (ah (wpv 0)) (ae (fJ hu (ff (ae (aA ak) (ae (aA ak) (ae (aA ak) av)))) (aH aG hr rfl (ae (ah (wpv 0)) (ae (aA ak) av))) (fun _ _=>rfl) (fun _ _=>rfl)) av)))) av)) (aY (aF (i:=5) nd rfl (by trivial))) (ay (oa (Nc:=["a","well"]) (tn:=["a"]) (capN:=["well"]) (caps:=[0]) rfl (cq (ah (wpv 3))) (fun _ _ _=>(aY (aF (i:=0) (show(["a","well"]:List Str).Nodup by decide +kernel) rfl (by trivial)))) (fun _ _ _=>(bY ni y6 (aH aG hr rfl (ae (ah (wpv 1)) (ae (aA ak) av))) (aA ak) (a9 _))) (fun _ _ _=>(ah (wpv 0))) rfl rfl (by decide +kernel) (by decide +kernel) ⟨rfl,trivial⟩ rfl (.cons ⟨rfl,rfl,rfl,_,rfl⟩ .nil) rfl rfl nd rfl rfl rfl)
   (aI (vb (qU (ah (wpv 4)) (ae (b6 dG m8 rfl B.tuple OG.aV (ae (Ie (ah (wpv 6)) (cD mq sO (aA ak) (cD gq m9 (aA ak) (b6 oS Fd rfl B.int OG.jQ (ae (iA ox Ax (aH aG hr rfl (ae (ah (wpv 0)) (ae (aA ak) av))) (aA ak) (a9 _)) av))))) av)) av))))))
   (ay (aR (i:=7) nd rfl (by trivial) vg)
   (ay (jx PassesOwn.never rfl (eQ rfl B.range (ae (aH aG hr rfl (ae (ah (wpv 0)) (ae (cD bI bH (cD gq m9 (aA ak) (ah (wpv 2))) (aA ak)) av))) av)) (aY (aF (i:=8) nd rfl (by trivial))) (ay (aR (i:=9) nd rfl (by trivial) (aH aG hr rfl (ae (ah (wpv 0)) (ae (ah (wpv 2)) av))))
   (ay (aR (i:=5) nd rfl (by trivial) (aH aG hr rfl (ae (ah (wpv 0)) (ae (aM fh fg rfl B.len PySem.boot_len (ae (ah (wpv 4)) av)) av))))
   (ay (aR (i:=6) nd rfl (by trivial) (cD bI bH (ff (ae (gH (aA ak)) av)) (qT (Nc:=["one","a"]) (tn:=["one"]) (capN:=["a"]) (caps:=[9]) rfl (cq (fJ hu (ah (wpv 4)) (ah (wpv 5)) (fun _ _=>rfl) (fun _ _=>rfl))) (fun _ _ _=>(aY (aF (i:=0) (show(["one","a"]:List Str).Nodup by decide +kernel) rfl (by trivial)))) (fun _ _ _=>(bY jA tP (ah (wpv 0)) (ah (wpv 1)) (a9 _))) (fun _ _ _=>(ah (wpv 0))) rfl rfl (by decide +kernel) (by decide +kernel) ⟨rfl,trivial⟩ rfl (.cons ⟨rfl,rfl,rfl,_,rfl⟩ .nil) rfl rfl)))
   (ay (aR (i:=10) nd rfl (by trivial) (cD bI bH (ff (ae (gH (aA ak)) av)) (qT (Nc:=["one","a","hidden"]) (tn:=["one"]) (capN:=["a","hidden"]) (caps:=[9,3]) rfl (cq (Ky (ah (wpv 6)) (dw (aA ak)) dz)) (fun _ _ _=>(aY (aF (i:=0) (show(["one","a","hidden"]:List Str).Nodup by decide +kernel) rfl (by trivial)))) (fun _ _ _=>(bY ni y6 (mW (ah (wpv 2)) (ae (ah (wpv 0)) av)) (mW (ah (wpv 2)) (ae (ah (wpv 1)) av)) (a9 _))) (fun _ _ _=>(ah (wpv 0))) rfl rfl (by decide +kernel) (by decide +kernel) ⟨rfl,rfl,trivial⟩ rfl (.cons ⟨rfl,rfl,rfl,_,rfl⟩ (.cons ⟨rfl,rfl,rfl,_,rfl⟩ .nil)) rfl rfl)))
   (aI (n9 hu (ah (wpv 7)) (ae (ah (wpv 9)) (ae (ah (wpv 5)) av)) (fJ hu (ff (ae (fJ hu (ah (wpv 10)) (gH (aA ak)) (fun _ _=>rfl) (fun _ _=>rfl)) (ae (fJ hu (ah (wpv 6)) (aH aG hr rfl (ae (ah (wpv 0)) (ae (aM fh fg rfl B.len PySem.boot_len (ae (ah (wpv 6)) av)) av))) (fun _ _=>rfl) (fun _ _=>rfl)) av))) (b6 oS Fd rfl B.int OG.jQ (ae (iA ox Ax (aH aG hr rfl (ae (ah (wpv 0)) (ae (aA ak) av))) (aA ak) (a9 _)) av)) (fun _ _=>rfl) (fun _ _=>rfl)))))))))
   (ay (aR (i:=11) nd rfl (by trivial) vg)
   (ay (jx PassesOwn.never rfl (eQ rfl B.range (ae (aH aG hr rfl (ae (ah (wpv 0)) (ae (cD bI bH (ah (wpv 2)) (aA ak)) av))) av)) (aY (aF (i:=8) nd rfl (by trivial))) (ay (aR (i:=9) nd rfl (by trivial) (aH aG hr rfl (ae (ah (wpv 0)) (ae (ah (wpv 2)) av))))
   (ay (aR (i:=12) nd rfl (by trivial) (aH aG hr rfl (ae (ah (wpv 0)) (ae (ah (wpv 2)) av))))
   (aI (ej (mV (Ik (bY jA tP (ah (wpv 9)) (ah (wpv 12)) (a9 _)) (EF (mV (jH (bY ni y6 (mW (ah (wpv 3)) (ae (ah (wpv 9)) av)) (mW (ah (wpv 3)) (ae (ah (wpv 12)) av)) (a9 _)) (fu (bY ox Ax (aH aG hr rfl (ae (ah (wpv 0)) (ae (aA ak) av))) (aA ak) (a9 _)))))))) (aI (n9 hu (ah (wpv 11)) (ae (ah (wpv 9)) (ae (ah (wpv 12)) av)) (iW br))) bW)))))
   (aI (aS (aX (ae (ah (wpv 2)) (ae (b6 dG m8 rfl B.tuple OG.aV (ae (aM (mr rfl) om rfl B.sorted OG.fi (ae (ah (wpv 11)) av)) av)) (ae (b6 dG m8 rfl B.tuple OG.aV (ae (ah (wpv 4)) av)) (ae (b6 dG m8 rfl B.tuple OG.aV (ae (aM (mr rfl) om rfl B.sorted OG.fi (ae (B0 (Nc:=["one","looks"]) (tn:=["one"]) (capN:=["looks"]) (caps:=[7]) rfl (ah (wpv 7)) (fun _ _ _=>(aY (aF (i:=0) (show(["one","looks"]:List Str).Nodup by decide +kernel) rfl (by trivial)))) (fun _ _ _=>(cD bI bH (ah (wpv 0)) (aX (ae (Ig hu (ah (wpv 1)) (ah (wpv 0)) (fun _ _=>rfl)) av)))) rfl rfl (by decide +kernel) (by decide +kernel) ⟨rfl,trivial⟩ rfl (.cons ⟨rfl,rfl,rfl,_,rfl⟩ .nil) rfl rfl) av)) av)) av))))))))))))))))
theorem gm:a5 ["many","thing","one"] ["many","thing"] (aE fe):=⟨rfl,rfl,rfl,by decide +kernel,rfl,by decide +kernel,by decide +kernel⟩
def aJ(aC:Fn):CS:=
 (jD (cOr (gZ (aK (cCB aC (ag (ao 2) aB)))) (cOr (aK (cOp fLt (ao 2) (cC (.int 0)))) (aK (cOp fGe (ao 2) (ao 0))))) (eA (cC (.bl false))) dC)
def bD(aC:Fn):CS:=
 (bu (jD (gZ (aK (jP .tuple (ao 1)))) (eA (cC (.bl false))) dC)
  (bu (lR (iTp (ao 1)) (gNm 2) (aJ aC))
  (eA (cCB o9 (ag (cP (iTp (ao 1)) (gNm 0) (cOp fEq (oT (ao 1) (ao 0)) (cC (.int 1))) 1 [1]) aB)))))
theorem ny{aC:Fn}{a0 a1:U}{S:Sto}:fnU 3 2 (bD aC) [a0,a1] S=((bD aC) [some a0,some a1,none] S).bind kFn:=lT rfl
theorem nq{k:Nat}{aC:Fn}(d:Def K mg "_law_is_row" fe ["many","thing"])(B:Blt mg)(bo:dD P w K mg base "_law_whole" (k) ["thing"] aC):dD P w K mg base "_law_is_row" (k+1) ["many","thing"] (fnU 3 2 (bD aC)):=
 d.pure gm fun f cdv A outer s H E hr=>(by
  have hu:=eL hr;have nd:=gm.nd;exact(ay (ej (bq (bz (fv (T:=.tuple) (by intro z;cases z) (ah (wpv 1)) (cU rfl B.tuple OG.aV) rfl B.isinstance))) (aI (aS (iW br))) bW)
   (ay (jx PassesOwn.never rfl (cq (ah (wpv 1))) (aY (aF (i:=2) nd rfl (by trivial))) (aI (ej (mV (jH (bq (bz (aH bo hr rfl (ae (ah (wpv 2)) av)))) (jH (bY ni y6 (ah (wpv 2)) (aA ak) (a9 _)) (fu (bY IF Kz (ah (wpv 2)) (ah (wpv 0)) (a9 _)))))) (aI (aS (iW br))) bW)))
   (aI (aS (aM (c8 rfl) lK rfl B.all OG.de (ae (eC (Nc:=["one","thing"]) (tn:=["one"]) (capN:=["thing"]) (caps:=[1]) rfl (cq (ah (wpv 1))) (fun _ _ _=>(aY (aF (i:=0) (show(["one","thing"]:List Str).Nodup by decide +kernel) rfl (by trivial)))) (fun _ _ _=>(iA ox Ax (Ih (ah (wpv 1)) (ah (wpv 0))) (aA ak) (a9 _))) rfl rfl (by decide +kernel) (by decide +kernel) ⟨rfl,trivial⟩ rfl (.cons ⟨rfl,rfl,rfl,_,rfl⟩ .nil) rfl rfl) av)))))))
theorem fC:a5 ["many","writers","thing"] ["many","writers","thing"] (aE eK):=⟨rfl,rfl,rfl,by decide +kernel,rfl,by decide +kernel,by decide +kernel⟩
def aL(aC:Fn):CS:=
 (bu (jD (cOr (gZ (aK (jP .tuple (ao 2)))) (cOr (aK (cOp fNe (cCB gY (ag (ao 2) aB)) (cC (.int 3)))) (gZ (aK (cCB o9 (ag (cP (iTp (ao 2)) (gNm 0) (cCB aC (ag (ao 0) aB)) 1 []) aB)))))) (eA (cC (.bl false))) dC)
  (bu (jD (cOr (aK (Dg (cOp fIx (ao 2) (cC (.int 0))) (ao 0))) (aK (Dg (cOp fIx (ao 2) (cC (.int 1))) (cCB gY (ag (ao 1) aB))))) (eA (cC (.bl false))) dC)
  (eA (F9 (cOp fEq (cOp fIx (ao 2) (cC (.int 2))) (jN (cC (.int 1)))) (fS (cOp fNe (cOp fIx (ao 2) (cC (.int 2))) (cOp fIx (ao 2) (cC (.int 0)))) (cOp (fIn false) (cOp fIx (ao 2) (cC (.int 2))) (cOp fIx (ao 1) (cOp fIx (ao 2) (cC (.int 1))))))))))
theorem lO{aC:Fn}{a0 a1 a2:U}{S:Sto}:fnU 3 3 (aL aC) [a0,a1,a2] S=((aL aC) [some a0,some a1,some a2] S).bind kFn:=lT rfl
theorem lM{k:Nat}{aC:Fn}(d:Def K mg "_law_is_look" eK ["many","writers","thing"])(B:Blt mg)(bo:dD P w K mg base "_law_whole" (k) ["thing"] aC):dD P w K mg base "_law_is_look" (k+1) ["many","writers","thing"] (fnU 3 3 (aL aC)):=
 d.pure fC fun f cdv A outer s H E hr=>(by
  have hu:=eL hr;have nd:=fC.nd;exact(ay (ej (mV (jH (bq (bz (fv (T:=.tuple) (by intro z;cases z) (ah (wpv 2)) (cU rfl B.tuple OG.aV) rfl B.isinstance))) (jH (bY jA tP (aM fh fg rfl B.len PySem.boot_len (ae (ah (wpv 2)) av)) (aA ak) (a9 _)) (fu (bq (bz (aM (c8 rfl) lK rfl B.all OG.de (ae (eC (Nc:=["one"]) (tn:=["one"]) (capN:=[]) (caps:=[]) rfl (cq (ah (wpv 2))) (fun _ _ _=>(aY (aF (i:=0) (show(["one"]:List Str).Nodup by decide +kernel) rfl (by trivial)))) (fun _ _ _=>(aH bo hr rfl (ae (ah (wpv 0)) av))) rfl rfl (by decide +kernel) (by decide +kernel) trivial rfl .nil rfl rfl) av)))))))) (aI (aS (iW br))) bW)
   (ay (ej (mV (jH (Au rfl B.range (fJ hu (ah (wpv 2)) (aA ak) (fun _ _=>rfl) (fun _ _=>rfl)) (ah (wpv 0)) rfl rfl (by with_unfolding_all rfl)) (fu (Au rfl B.range (fJ hu (ah (wpv 2)) (aA ak) (fun _ _=>rfl) (fun _ _=>rfl)) (aM fh fg rfl B.len PySem.boot_len (ae (ah (wpv 1)) av)) rfl rfl (by with_unfolding_all rfl))))) (aI (aS (iW br))) bW)
   (aI (aS (EE (iA ox Ax (fJ hu (ah (wpv 2)) (aA ak) (fun _ _=>rfl) (fun _ _=>rfl)) (gH (aA ak)) (a9 _)) (iV (eR (iA jA tP (fJ hu (ah (wpv 2)) (aA ak) (fun _ _=>rfl) (fun _ _=>rfl)) (fJ hu (ah (wpv 2)) (aA ak) (fun _ _=>rfl) (fun _ _=>rfl)) (a9 _)) (iV (JP hu (fJ hu (ah (wpv 2)) (aA ak) (fun _ _=>rfl) (fun _ _=>rfl)) (fJ hu (ah (wpv 1)) (fJ hu (ah (wpv 2)) (aA ak) (fun _ _=>rfl) (fun _ _=>rfl)) (fun _ _=>rfl) (fun _ _=>rfl)) (by with_unfolding_all rfl)))))))))))
theorem ke:a5 ["thing","many","times","writers","looks","one","firsts"] ["thing"] (aE iU):=⟨rfl,rfl,rfl,by decide +kernel,rfl,by decide +kernel,by decide +kernel⟩
def dq(aC a6 a8:Fn):CS:=
 (jD (cOr (gZ (aK (cCB a6 (ag (ao 1) (ag (ao 5) aB))))) (aK (cOp fNe (cCB gY (ag (ao 5) aB)) (cC (.int 2))))) (eA (cC (.bl false))) dC)
def aW(aC a6 a8:Fn):CS:=
 (bu (jD (cOr (gZ (aK (jP .tuple (ao 0)))) (cOr (aK (cOp fNe (cCB gY (ag (ao 0) aB)) (cC (.int 4)))) (cOr (gZ (aK (cCB aC (ag (cOp fIx (ao 0) (cC (.int 0))) aB)))) (gZ (aK (gw fLt fLt (cC (.int 0)) (cOp fIx (ao 0) (cC (.int 0))) (cC (.int 31)))))))) (eA (cC (.bl false))) dC)
  (bu (Ge (ao 0) (gTp [1,2,3,4]))
  (bu (jD (cOr (gZ (aK (jP .tuple (ao 2)))) (cOr (gZ (aK (jP .tuple (ao 3)))) (gZ (aK (jP .tuple (ao 4)))))) (eA (cC (.bl false))) dC)
  (bu (jD (cOr (gZ (aK (gw fLt fLt (cC (.int 0)) (cCB gY (ag (ao 3) aB)) (cC (.int 7))))) (gZ (aK (cCB o9 (ag (cP (iTp (ao 3)) (gNm 0) (cCB a6 (ag (ao 1) (ag (ao 0) aB))) 1 [1]) aB))))) (eA (cC (.bl false))) dC)
  (bu (lR (iTp (ao 2)) (gNm 5) (dq aC a6 a8))
  (bu (jD (gZ (aK (cCB o9 (ag (cP (iTp (ao 4)) (gNm 0) (cCB a8 (ag (ao 1) (ag (ao 2) (ag (ao 0) aB)))) 1 [1,3]) aB)))) (eA (cC (.bl false))) dC)
  (bu (da 6 (cP (iTp (ao 4)) (gNm 0) (kZ (ao 0) none (some (cC (.int 2)))) 1 []))
  (eA (fS (cOp (rN false) (cCB iK (ag (ao 2) aB)) (fR (ao 2))) (cOp (rN false) (ao 6) (eZ (ao 6))))))))))))
theorem eW{aC a6 a8:Fn}{a0:U}{S:Sto}:fnU 7 1 (aW aC a6 a8) [a0] S=((aW aC a6 a8) [some a0,none,none,none,none,none,none] S).bind kFn:=lT rfl
theorem sX{k:Nat}{aC a6 a8:Fn}(d:Def K mg "_law_due" iU ["thing"])(B:Blt mg)(bo:dD P w K mg base "_law_whole" (k) ["thing"] aC)(dM:dD P w K mg base "_law_is_row" (k) ["many","thing"] a6)(eO:dD P w K mg base "_law_is_look" (k) ["many","writers","thing"] a8):dD P w K mg base "_law_due" (k+1) ["thing"] (fnU 7 1 (aW aC a6 a8)):=
 d.pure ke fun f cdv A outer s H E hr=>(by
  have hu:=eL hr;have nd:=ke.nd;exact(ay (ej (mV (jH (bq (bz (fv (T:=.tuple) (by intro z;cases z) (ah (wpv 0)) (cU rfl B.tuple OG.aV) rfl B.isinstance))) (jH (bY jA tP (aM fh fg rfl B.len PySem.boot_len (ae (ah (wpv 0)) av)) (aA ak) (a9 _)) (jH (bq (bz (aH bo hr rfl (ae (fJ hu (ah (wpv 0)) (aA ak) (fun _ _=>rfl) (fun _ _=>rfl)) av)))) (fu (bq (qS ni y6 ni y6 (aA ak) (fJ hu (ah (wpv 0)) (aA ak) (fun _ _=>rfl) (fun _ _=>rfl)) (aA ak)))))))) (aI (aS (iW br))) bW)
   (ay (As (ah (wpv 0)) (vc rfl (c7 (aF (i:=1) nd rfl (by trivial)) (c7 (aF (i:=2) nd rfl (by trivial)) (c7 (aF (i:=3) nd rfl (by trivial)) (c7 (aF (i:=4) nd rfl (by trivial)) pI))))))
   (ay (ej (mV (jH (bq (bz (fv (T:=.tuple) (by intro z;cases z) (ah (wpv 2)) (cU rfl B.tuple OG.aV) rfl B.isinstance))) (jH (bq (bz (fv (T:=.tuple) (by intro z;cases z) (ah (wpv 3)) (cU rfl B.tuple OG.aV) rfl B.isinstance))) (fu (bq (bz (fv (T:=.tuple) (by intro z;cases z) (ah (wpv 4)) (cU rfl B.tuple OG.aV) rfl B.isinstance))))))) (aI (aS (iW br))) bW)
   (ay (ej (mV (jH (bq (qS ni y6 ni y6 (aA ak) (aM fh fg rfl B.len PySem.boot_len (ae (ah (wpv 3)) av)) (aA ak))) (fu (bq (bz (aM (c8 rfl) lK rfl B.all OG.de (ae (eC (Nc:=["row","many"]) (tn:=["row"]) (capN:=["many"]) (caps:=[1]) rfl (cq (ah (wpv 3))) (fun _ _ _=>(aY (aF (i:=0) (show(["row","many"]:List Str).Nodup by decide +kernel) rfl (by trivial)))) (fun _ _ _=>(aH dM hr rfl (ae (ah (wpv 1)) (ae (ah (wpv 0)) av)))) rfl rfl (by decide +kernel) (by decide +kernel) ⟨rfl,trivial⟩ rfl (.cons ⟨rfl,rfl,rfl,_,rfl⟩ .nil) rfl rfl) av))))))) (aI (aS (iW br))) bW)
   (ay (jx PassesOwn.never rfl (cq (ah (wpv 2))) (aY (aF (i:=5) nd rfl (by trivial))) (aI (ej (mV (jH (bq (bz (aH dM hr rfl (ae (ah (wpv 1)) (ae (ah (wpv 5)) av))))) (fu (bY jA tP (aM fh fg rfl B.len PySem.boot_len (ae (ah (wpv 5)) av)) (aA ak) (a9 _))))) (aI (aS (iW br))) bW)))
   (ay (ej (bq (bz (aM (c8 rfl) lK rfl B.all OG.de (ae (eC (Nc:=["one","many","writers"]) (tn:=["one"]) (capN:=["many","writers"]) (caps:=[1,3]) rfl (cq (ah (wpv 4))) (fun _ _ _=>(aY (aF (i:=0) (show(["one","many","writers"]:List Str).Nodup by decide +kernel) rfl (by trivial)))) (fun _ _ _=>(aH eO hr rfl (ae (ah (wpv 1)) (ae (ah (wpv 2)) (ae (ah (wpv 0)) av))))) rfl rfl (by decide +kernel) (by decide +kernel) ⟨rfl,rfl,trivial⟩ rfl (.cons ⟨rfl,rfl,rfl,_,rfl⟩ (.cons ⟨rfl,rfl,rfl,_,rfl⟩ .nil)) rfl rfl) av)))) (aI (aS (iW br))) bW)
   (ay (mj (Nc:=["one"]) (tn:=["one"]) (capN:=[]) (caps:=[]) rfl (cq (ah (wpv 4))) (fun _ _ _=>(aY (aF (i:=0) (show(["one"]:List Str).Nodup by decide +kernel) rfl (by trivial)))) (fun _ _ _=>(ko (ah (wpv 0)) dz (dw (aA ak)))) rfl rfl (by decide +kernel) (by decide +kernel) trivial rfl .nil rfl rfl nd rfl rfl rfl)
   (aI (aS (eR (iA (Ay hr.units) Cp (b6 cy mn rfl B.list OG.d7 (ae (ah (wpv 2)) av)) (sI rfl hr.units rfl B.sorted rfl B.set (ah (wpv 2))) (a9 _)) (iV (iA (Ay hr.units) Cp (ah (wpv 6)) (pJ rfl hr.units rfl B.sorted rfl B.set (ah (wpv 6))) (a9 _))))))))))))))
theorem jv:a5 ["well","tale","many","times","writers","looks","a","box","row","strange","rows","some","pairs","tales"] ["well","tale"] (aE gG):=⟨rfl,rfl,rfl,by decide +kernel,rfl,by decide +kernel,by decide +kernel⟩
def d5(aw:Fn):CS:=
 (bu (Ge (ao 1) (gTp [2,3,4,5]))
  (bu (da 6 (cCB aw (ag (ao 0) (ag (ao 2) aB))))
  (bu (da 7 (cCB aw (ag (ao 0) (ag (cCB gY (ag (ao 4) aB)) aB))))
  (bu (da 8 (cOp fIx (ao 4) (ao 7)))
  (bu (da 9 (cOp fIx (iM (ag (ao 2) (ag (jN (cC (.int 1))) (ag (cC (.bl true)) (ag (cC (.bl false)) (ag (cC .non) (ag (cC (.str "0")) (ag (bw (ag (cC (.int 0)) aB)) (ag (cOp F1 (cC (.int 10)) (cC (.int 30))) aB))))))))) (cCB aw (ag (ao 0) (ag (cC (.int 8)) aB)))))
  (bu (da 10 (iM (ag (cOp cT (bw (ag (ao 9) aB)) (ao 8)) (ag (cOp cT (ao 8) (kZ (ao 8) none (some (cC (.int 1))))) (ag (cCB iK (ag (ao 8) aB)) (ag (kZ (ao 8) (some (cC (.int 1))) none) (ag (cOp cT (ao 8) (bw (ag (ao 6) aB))) (ag (cC .non) (ag (cOp tj (ao 8) (jN (cC (.int 1)))) aB)))))))))
  (bu (da 11 (cP (iTp (iM (ag (cOp wI (ao 2) (cC (.int 1))) (ag (cOp cT (ao 2) (cC (.int 1))) (ag (cC (.int 0)) (ag (cC (.int 31)) (ag (ao 9) (ag (jN (ao 2)) aB)))))))) (gNm 0) (bw (ag (ao 0) (ag (ao 1) (ag (ao 2) (ag (ao 3) aB))))) 1 [3,4,5]))
  (bu (da 11 (cOp cT (ao 11) (cP (iTp (ao 10)) (gNm 0) (bw (ag (ao 1) (ag (ao 2) (ag (cOp cT (cOp cT (kZ (ao 4) none (some (ao 5))) (bw (ag (ao 0) aB))) (kZ (ao 4) (some (cOp cT (ao 5) (cC (.int 1)))) none)) (ag (ao 3) aB))))) 1 [2,3,5,4,7])))
  (bu (da 12 (iM (ag (bw (ag (ao 6) (ag (ao 6) aB))) (ag (bw (ag (ao 6) (ag (ao 9) aB))) (ag (bw (ag (ao 6) aB)) (ag (iM (ag (ao 6) (ag (cC (.int 0)) aB))) (ag (bw (ag (cC (.int 0)) (ag (ao 6) (ag (ao 6) aB)))) (ag (bw (ag (ao 2) (ag (ao 6) aB))) (ag (bw (ag (ao 6) (ag (jN (cC (.int 1))) aB))) aB)))))))))
  (bu (da 11 (cOp cT (ao 11) (cP (iTp (ao 12)) (gNm 0) (bw (ag (ao 1) (ag (cOp cT (bw (ag (ao 0) aB)) (ao 4)) (ag (ao 2) (ag (ao 3) aB))))) 1 [2,4,5,3])))
  (bu (da 11 (cOp cT (ao 11) (iM (ag (bw (ag (ao 2) (ag (cOp tj (ao 3) (jN (cC (.int 1)))) (ag (ao 4) (ag (ao 5) aB))))) (ag (bw (ag (ao 2) (ag (cOp cT (ao 3) (kZ (ao 3) none (some (cC (.int 1))))) (ag (ao 4) (ag (ao 5) aB))))) aB)))))
  (bu (da 13 (iM (ag (bw (ag (ao 6) (ag (ao 7) (ag (ao 6) aB)))) (ag (bw (ag (ao 6) (ag (cCB gY (ag (ao 4) aB)) (ag (jN (cC (.int 1))) aB)))) (ag (bw (ag (ao 6) (ag (ao 7) (ag (ao 9) aB)))) (ag (bw (ag (ao 9) (ag (ao 7) (ag (jN (cC (.int 1))) aB)))) (ag (bw (ag (ao 6) (ag (ao 7) aB))) (ag (bw (ag (ao 6) (ag (ao 7) (ag (jN (cC (.int 2))) aB)))) aB))))))))
  (bu (da 11 (cOp cT (ao 11) (cP (iTp (ao 13)) (gNm 0) (bw (ag (ao 1) (ag (ao 2) (ag (ao 3) (ag (cOp cT (ao 4) (bw (ag (ao 0) aB))) aB))))) 1 [2,3,4,5])))
  (bu (da 11 (cOp cT (ao 11) (iM (ag (bw (ag (ao 2) (ag (ao 3) (ag (ao 4) (ag (cOp tj (ao 5) (jN (cC (.int 1)))) aB))))) (ag (bw (ag (ao 2) (ag (ao 3) (ag (ao 4) (ag (cOp cT (ao 5) (kZ (ao 5) (some (jN (cC (.int 1)))) none)) aB))))) aB)))))
  (bu (da 11 (cOp cT (ao 11) (iM (ag (bw (ag (ao 2) (ag (cCB iK (ag (ao 3) aB)) (ag (ao 4) (ag (ao 5) aB))))) (ag (bw (ag (ao 2) (ag (ao 3) (ag (cCB iK (ag (ao 4) aB)) (ag (ao 5) aB))))) (ag (bw (ag (ao 2) (ag (ao 3) (ag (bw aB) (ag (bw aB) aB))))) aB))))))
  (bu (da 11 (cOp cT (ao 11) (iM (ag (bw (ag (ao 2) (ag (ao 3) (ag (ao 4) (ag (cCB iK (ag (ao 5) aB)) aB))))) (ag (bw (ag (ao 2) (ag (ao 3) (ag (ao 4) aB)))) (ag (cOp cT (ao 1) (bw (ag (bw aB) aB))) (ag (cCB iK (ag (ao 1) aB)) (ag (cC .non) aB))))))))
  (eA (cOp fIx (ao 11) (cCB aw (ag (ao 0) (ag (cCB gY (ag (ao 11) aB)) aB)))))))))))))))))))))
theorem qg{aw:Fn}{a0 a1:U}{S:Sto}:fnU 14 2 (d5 aw) [a0,a1] S=((d5 aw) [some a0,some a1,none,none,none,none,none,none,none,none,none,none,none,none] S).bind kFn:=lT rfl
theorem pZ{k:Nat}{aw:Fn}(d:Def K mg "_law_bent" gG ["well","tale"])(B:Blt mg)(aG:dD P w K mg base "_law_sip" (k) ["well","many"] aw):dD P w K mg base "_law_bent" (k+1) ["well","tale"] (fnU 14 2 (d5 aw)):=
 d.pure jv fun f cdv A outer s H E hr=>(by
  have hu:=eL hr;have nd:=jv.nd;exact(ay (As (ah (wpv 1)) (vc rfl (c7 (aF (i:=2) nd rfl (by trivial)) (c7 (aF (i:=3) nd rfl (by trivial)) (c7 (aF (i:=4) nd rfl (by trivial)) (c7 (aF (i:=5) nd rfl (by trivial)) pI))))))
   (ay (aR (i:=6) nd rfl (by trivial) (aH aG hr rfl (ae (ah (wpv 0)) (ae (ah (wpv 2)) av))))
   (ay (aR (i:=7) nd rfl (by trivial) (aH aG hr rfl (ae (ah (wpv 0)) (ae (aM fh fg rfl B.len PySem.boot_len (ae (ah (wpv 4)) av)) av))))
   (ay (aR (i:=8) nd rfl (by trivial) (fJ hu (ah (wpv 4)) (ah (wpv 7)) (fun _ _=>rfl) (fun _ _=>rfl)))
   (ay (aR (i:=9) nd rfl (by trivial) (fJ hu (ff (ae (ah (wpv 2)) (ae (gH (aA ak)) (ae (iW br) (ae (iW br) (ae (BZ pB) (ae (Ib Br) (ae (aX (ae (aA ak) av)) (ae (cD Fg IB (aA ak) (aA ak)) av))))))))) (aH aG hr rfl (ae (ah (wpv 0)) (ae (aA ak) av))) (fun _ _=>rfl) (fun _ _=>rfl)))
   (ay (aR (i:=10) nd rfl (by trivial) (ff (ae (cD bI bH (aX (ae (ah (wpv 9)) av)) (ah (wpv 8))) (ae (cD bI bH (ah (wpv 8)) (ko (ah (wpv 8)) dz (dw (aA ak)))) (ae (b6 cy mn rfl B.list OG.d7 (ae (ah (wpv 8)) av)) (ae (ko (ah (wpv 8)) (dw (aA ak)) dz) (ae (cD bI bH (ah (wpv 8)) (aX (ae (ah (wpv 6)) av))) (ae (BZ pB) (ae (vd (ah (wpv 8)) (gH (aA ak))) av)))))))))
   (ay (mj (Nc:=["n","times","writers","looks"]) (tn:=["n"]) (capN:=["times","writers","looks"]) (caps:=[3,4,5]) rfl (cq (ff (ae (cD mq sO (ah (wpv 2)) (aA ak)) (ae (cD bI bH (ah (wpv 2)) (aA ak)) (ae (aA ak) (ae (aA ak) (ae (ah (wpv 9)) (ae (gH (ah (wpv 2))) av)))))))) (fun _ _ _=>(aY (aF (i:=0) (show(["n","times","writers","looks"]:List Str).Nodup by decide +kernel) rfl (by trivial)))) (fun _ _ _=>(aX (ae (ah (wpv 0)) (ae (ah (wpv 1)) (ae (ah (wpv 2)) (ae (ah (wpv 3)) av)))))) rfl rfl (by decide +kernel) (by decide +kernel) ⟨rfl,rfl,rfl,trivial⟩ rfl (.cons ⟨rfl,rfl,rfl,_,rfl⟩ (.cons ⟨rfl,rfl,rfl,_,rfl⟩ (.cons ⟨rfl,rfl,rfl,_,rfl⟩ .nil))) rfl rfl nd rfl rfl rfl)
   (ay (aR (i:=11) nd rfl (by trivial) (cD bI bH (ah (wpv 11)) (eC (Nc:=["one","many","times","looks","writers","box"]) (tn:=["one"]) (capN:=["many","times","looks","writers","box"]) (caps:=[2,3,5,4,7]) rfl (cq (ah (wpv 10))) (fun _ _ _=>(aY (aF (i:=0) (show(["one","many","times","looks","writers","box"]:List Str).Nodup by decide +kernel) rfl (by trivial)))) (fun _ _ _=>(aX (ae (ah (wpv 1)) (ae (ah (wpv 2)) (ae (cD bI bH (cD bI bH (ko (ah (wpv 4)) dz (dw (ah (wpv 5)))) (aX (ae (ah (wpv 0)) av))) (ko (ah (wpv 4)) (dw (cD bI bH (ah (wpv 5)) (aA ak))) dz)) (ae (ah (wpv 3)) av)))))) rfl rfl (by decide +kernel) (by decide +kernel) ⟨rfl,rfl,rfl,rfl,rfl,trivial⟩ rfl (.cons ⟨rfl,rfl,rfl,_,rfl⟩ (.cons ⟨rfl,rfl,rfl,_,rfl⟩ (.cons ⟨rfl,rfl,rfl,_,rfl⟩ (.cons ⟨rfl,rfl,rfl,_,rfl⟩ (.cons ⟨rfl,rfl,rfl,_,rfl⟩ .nil))))) rfl rfl)))
   (ay (aR (i:=12) nd rfl (by trivial) (ff (ae (aX (ae (ah (wpv 6)) (ae (ah (wpv 6)) av))) (ae (aX (ae (ah (wpv 6)) (ae (ah (wpv 9)) av))) (ae (aX (ae (ah (wpv 6)) av)) (ae (ff (ae (ah (wpv 6)) (ae (aA ak) av))) (ae (aX (ae (aA ak) (ae (ah (wpv 6)) (ae (ah (wpv 6)) av)))) (ae (aX (ae (ah (wpv 2)) (ae (ah (wpv 6)) av))) (ae (aX (ae (ah (wpv 6)) (ae (gH (aA ak)) av))) av)))))))))
   (ay (aR (i:=11) nd rfl (by trivial) (cD bI bH (ah (wpv 11)) (eC (Nc:=["one","many","writers","looks","times"]) (tn:=["one"]) (capN:=["many","writers","looks","times"]) (caps:=[2,4,5,3]) rfl (cq (ah (wpv 12))) (fun _ _ _=>(aY (aF (i:=0) (show(["one","many","writers","looks","times"]:List Str).Nodup by decide +kernel) rfl (by trivial)))) (fun _ _ _=>(aX (ae (ah (wpv 1)) (ae (cD bI bH (aX (ae (ah (wpv 0)) av)) (ah (wpv 4))) (ae (ah (wpv 2)) (ae (ah (wpv 3)) av)))))) rfl rfl (by decide +kernel) (by decide +kernel) ⟨rfl,rfl,rfl,rfl,trivial⟩ rfl (.cons ⟨rfl,rfl,rfl,_,rfl⟩ (.cons ⟨rfl,rfl,rfl,_,rfl⟩ (.cons ⟨rfl,rfl,rfl,_,rfl⟩ (.cons ⟨rfl,rfl,rfl,_,rfl⟩ .nil)))) rfl rfl)))
   (ay (aR (i:=11) nd rfl (by trivial) (cD bI bH (ah (wpv 11)) (ff (ae (aX (ae (ah (wpv 2)) (ae (vd (ah (wpv 3)) (gH (aA ak))) (ae (ah (wpv 4)) (ae (ah (wpv 5)) av))))) (ae (aX (ae (ah (wpv 2)) (ae (cD bI bH (ah (wpv 3)) (ko (ah (wpv 3)) dz (dw (aA ak)))) (ae (ah (wpv 4)) (ae (ah (wpv 5)) av))))) av)))))
   (ay (aR (i:=13) nd rfl (by trivial) (ff (ae (aX (ae (ah (wpv 6)) (ae (ah (wpv 7)) (ae (ah (wpv 6)) av)))) (ae (aX (ae (ah (wpv 6)) (ae (aM fh fg rfl B.len PySem.boot_len (ae (ah (wpv 4)) av)) (ae (gH (aA ak)) av)))) (ae (aX (ae (ah (wpv 6)) (ae (ah (wpv 7)) (ae (ah (wpv 9)) av)))) (ae (aX (ae (ah (wpv 9)) (ae (ah (wpv 7)) (ae (gH (aA ak)) av)))) (ae (aX (ae (ah (wpv 6)) (ae (ah (wpv 7)) av))) (ae (aX (ae (ah (wpv 6)) (ae (ah (wpv 7)) (ae (gH (aA ak)) av)))) av))))))))
   (ay (aR (i:=11) nd rfl (by trivial) (cD bI bH (ah (wpv 11)) (eC (Nc:=["one","many","times","writers","looks"]) (tn:=["one"]) (capN:=["many","times","writers","looks"]) (caps:=[2,3,4,5]) rfl (cq (ah (wpv 13))) (fun _ _ _=>(aY (aF (i:=0) (show(["one","many","times","writers","looks"]:List Str).Nodup by decide +kernel) rfl (by trivial)))) (fun _ _ _=>(aX (ae (ah (wpv 1)) (ae (ah (wpv 2)) (ae (ah (wpv 3)) (ae (cD bI bH (ah (wpv 4)) (aX (ae (ah (wpv 0)) av))) av)))))) rfl rfl (by decide +kernel) (by decide +kernel) ⟨rfl,rfl,rfl,rfl,trivial⟩ rfl (.cons ⟨rfl,rfl,rfl,_,rfl⟩ (.cons ⟨rfl,rfl,rfl,_,rfl⟩ (.cons ⟨rfl,rfl,rfl,_,rfl⟩ (.cons ⟨rfl,rfl,rfl,_,rfl⟩ .nil)))) rfl rfl)))
   (ay (aR (i:=11) nd rfl (by trivial) (cD bI bH (ah (wpv 11)) (ff (ae (aX (ae (ah (wpv 2)) (ae (ah (wpv 3)) (ae (ah (wpv 4)) (ae (vd (ah (wpv 5)) (gH (aA ak))) av))))) (ae (aX (ae (ah (wpv 2)) (ae (ah (wpv 3)) (ae (ah (wpv 4)) (ae (cD bI bH (ah (wpv 5)) (ko (ah (wpv 5)) (dw (gH (aA ak))) dz)) av))))) av)))))
   (ay (aR (i:=11) nd rfl (by trivial) (cD bI bH (ah (wpv 11)) (ff (ae (aX (ae (ah (wpv 2)) (ae (b6 cy mn rfl B.list OG.d7 (ae (ah (wpv 3)) av)) (ae (ah (wpv 4)) (ae (ah (wpv 5)) av))))) (ae (aX (ae (ah (wpv 2)) (ae (ah (wpv 3)) (ae (b6 cy mn rfl B.list OG.d7 (ae (ah (wpv 4)) av)) (ae (ah (wpv 5)) av))))) (ae (aX (ae (ah (wpv 2)) (ae (ah (wpv 3)) (ae (aX av) (ae (aX av) av))))) av))))))
   (ay (aR (i:=11) nd rfl (by trivial) (cD bI bH (ah (wpv 11)) (ff (ae (aX (ae (ah (wpv 2)) (ae (ah (wpv 3)) (ae (ah (wpv 4)) (ae (b6 cy mn rfl B.list OG.d7 (ae (ah (wpv 5)) av)) av))))) (ae (aX (ae (ah (wpv 2)) (ae (ah (wpv 3)) (ae (ah (wpv 4)) av)))) (ae (cD bI bH (ah (wpv 1)) (aX (ae (aX av) av))) (ae (b6 cy mn rfl B.list OG.d7 (ae (ah (wpv 1)) av)) (ae (BZ pB) av))))))))
   (aI (aS (fJ hu (ah (wpv 11)) (aH aG hr rfl (ae (ah (wpv 0)) (ae (aM fh fg rfl B.len PySem.boot_len (ae (ah (wpv 11)) av)) av))) (fun _ _=>rfl) (fun _ _=>rfl)))))))))))))))))))))
theorem Am:a5 ["script","k","well","tale","turn","thing","found","whole"] ["script"] (aE BQ):=⟨rfl,rfl,rfl,by decide +kernel,rfl,by decide +kernel,by decide +kernel⟩
def qm(bL bM bt bV bN:Fn):CS:=
 (bu (da 5 (cCB bN (ag (ao 2) (ag (ao 3) aB))))
  (bu (da 6 (cCB bt (ag (ao 5) aB)))
  (jD (cOr (gZ (aK (jP .bool (ao 6)))) (aK (cOp fNe (ao 6) (cCB bV (ag (ao 5) aB))))) (eA (cC (.bl false))) dC)))
def ql(bL bM bt bV bN:Fn):CS:=
 (bu (da 2 (cCB bL (ag (ao 0) (ag (ao 1) aB))))
  (bu (da 3 (cCB bM (ag (ao 2) (ag (cC (.int 9)) aB))))
  (bu (jD (cOr (aK (cOp gK (cCB bt (ag (ao 3) aB)) (cC (.bl true)))) (gZ (aK (cCB bV (ag (ao 3) aB))))) (eA (cC (.bl false))) dC)
  (lR (cK (ag (cC (.int 5)) aB)) (gNm 4) (qm bL bM bt bV bN)))))
def C6(bL bM bt bV bN:Fn):CS:=
 (bu (lR (cK (ag (cCB GH (ag (cC (.int 3)) (ag (cCB GG (ag (cC (.int 12)) (ag (cCB gY (ag (ao 0) aB)) aB))) aB))) aB)) (gNm 1) (ql bL bM bt bV bN))
  (bu (da 7 (bw (ag (cC (.int 30)) (ag (bw (ag (bw (ag (cC (.int 0)) (ag (cC (.int 29)) aB))) aB)) (ag (cOp cT (bw (ag (bw (ag (cC (.int 29)) (ag (cC (.int 0)) aB))) aB)) (cOp tq (bw (ag (bw aB) aB)) (cC (.int 5)))) (ag (bw (ag (bw (ag (cC (.int 29)) (ag (cC (.int 0)) (ag (jN (cC (.int 1))) aB)))) aB)) aB))))))
  (bu (jD (cOr (aK (cOp gK (cCB bt (ag (ao 7) aB)) (cC (.bl true)))) (aK (cOp gK (cCB bt (ag (bw (ag (cC (.int 1)) (ag (bw aB) (ag (bw (ag (bw aB) aB)) (ag (bw aB) aB))))) aB)) (cC (.bl true))))) (eA (cC (.bl false))) dC)
  (eA (fS (cOp F2 (cCB bt (ag (cOp cT (bw (ag (cC (.int 31)) aB)) (kZ (ao 7) (some (cC (.int 1))) none)) aB)) (cC (.bl false))) (cOp F2 (cCB bt (ag (cOp cT (kZ (ao 7) none (some (cC (.int 2)))) (bw (ag (cOp tq (bw (ag (bw aB) aB)) (cC (.int 7))) (ag (bw aB) aB)))) aB)) (cC (.bl false))))))))
theorem Ji{k:Nat}{bL bM bt bV bN:Fn}{fa:Addr}{fd:Zp}(F:Fun K "law" "law" BQ fa fd)(B:Blt mg)(gU:dD P w K mg base "_law_well" (k) ["script","k"] bL)(gW:dD P w K mg base "_law_tale" (k) ["well","most"] bM)(du:dD P w K mg base "is_tale" (k) ["thing"] bt)(fZ:dD P w K mg base "_law_due" (k) ["thing"] bV)(gX:dD P w K mg base "_law_bent" (k) ["well","tale"] bN)
  (ok:∀(ns:List Int),ns.length<=63->∃ρ' S',C6 bL bM bt bV bN [some (.kl ns),none,none,none,none,none,none,none] []=some (.rt (.bl true),ρ',S')):pf P w K mg base CX0 (k+1) fa fd ["script"] (qH K):=by
 refine Fun.okW F Am (fun vs H Q E h=>(by obtain⟨a,ns,rfl,_⟩:=h;rfl)) fun cdv A outer s H vs Q E hr h=>?_;obtain⟨a,ns,rfl,hS,hlen,q⟩:=h;have hu:=eL hr;have nd:=Am.nd;exact⟨_,(ay (jx PassesOwn.never rfl (eQ rfl B.range (ae (aM (xk rfl) ID rfl B.max OG.zT (ae (aA ak) (ae (aM (xj rfl) IC rfl B.min OG.zS (ae (aA ak) (ae (aM fh fg rfl B.len PySem.boot_len (ae (ah (wpv 0)) av)) av))) av))) av)) (aY (aF (i:=1) nd rfl (by trivial))) (ay (aR (i:=2) nd rfl (by trivial) (aH gU hr rfl (ae (ah (wpv 0)) (ae (ah (wpv 1)) av))))
   (ay (aR (i:=3) nd rfl (by trivial) (aH gW hr rfl (ae (ah (wpv 2)) (ae (aA ak) av))))
   (ay (ej (mV (jH (bY gI ng (aH du hr rfl (ae (ah (wpv 3)) av)) (iW br) (a9 _)) (fu (bq (bz (aH fZ hr rfl (ae (ah (wpv 3)) av))))))) (aI (aS (iW br))) bW)
   (aI (jx PassesOwn.never rfl (eQ rfl B.range (ae (aA ak) av)) (aY (aF (i:=4) nd rfl (by trivial))) (ay (aR (i:=5) nd rfl (by trivial) (aH gX hr rfl (ae (ah (wpv 2)) (ae (ah (wpv 3)) av))))
   (ay (aR (i:=6) nd rfl (by trivial) (aH du hr rfl (ae (ah (wpv 5)) av)))
   (aI (ej (mV (jH (bq (bz (fv (T:=.bool) (by intro z;cases z) (ah (wpv 6)) (cU rfl B.bool OG.lu) rfl B.isinstance))) (fu (bY jA tP (ah (wpv 6)) (aH fZ hr rfl (ae (ah (wpv 5)) av)) (a9 _))))) (aI (aS (iW br))) bW))))))))))
   (ay (aR (i:=7) nd rfl (by trivial) (aX (ae (aA ak) (ae (aX (ae (aX (ae (aA ak) (ae (aA ak) av))) av)) (ae (cD bI bH (aX (ae (aX (ae (aA ak) (ae (aA ak) av))) av)) (cD Az Aw (aX (ae (aX av) av)) (aA ak))) (ae (aX (ae (aX (ae (aA ak) (ae (aA ak) (ae (gH (aA ak)) av)))) av)) av))))))
   (ay (ej (mV (jH (bY gI ng (aH du hr rfl (ae (ah (wpv 7)) av)) (iW br) (a9 _)) (fu (bY gI ng (aH du hr rfl (ae (aX (ae (aA ak) (ae (aX av) (ae (aX (ae (aX av) av)) (ae (aX av) av))))) av)) (iW br) (a9 _))))) (aI (aS (iW br))) bW)
   (aI (aS (eR (iA rg Fc (aH du hr rfl (ae (cD bI bH (aX (ae (aA ak) av)) (ko (ah (wpv 7)) (dw (aA ak)) dz)) av)) (iW br) (a9 _)) (iV (iA rg Fc (aH du hr rfl (ae (cD bI bH (ko (ah (wpv 7)) dz (dw (aA ak))) (aX (ae (cD Az Aw (aX (ae (aX av) av)) (aA ak)) (ae (aX av) av)))) av)) (iW br) (a9 _))))))))),zm hS (ok ns hlen) q⟩
end
end OL
namespace OQ
open PySem PySem.Spec PyProof.Rows L2 OG OP
inductive Gd(S:Sto):U->Prop
 |non:Gd S .non
 |bl (b:Bool):Gd S (.bl b)
 |int (i:Int):Gd S (.int i)
 |str (x:Str):Gd S (.str x)
 |lst {l:Nat} {us:List U} (h:S[l]?=some (.lst us)):Gd S (.ref l)
 |tup {us:List U} (h:∀u∈us,Gd S u):Gd S (.tup us)
def aT(lo hi:Int):U->Bool
 |.int i=>decide (lo<=i)&&decide (i<=hi)
 |_=>false
section
variable{lo hi:Int}{S:Sto}{u:U}{us:List U}
def jS:Fn:=fnU 1 1 eX
def isI:U->Bool
 |.int _=>true
 |_=>false
theorem nK(h:Gd S u):jS [u] S=some (.bl (isI u),S):=by
 unfold jS;rw[tx];cases h with
 |non=>rfl
 |bl b=>rfl
 |int i=>rfl
 |str x=>rfl
 |tup _=>rfl
 |lst h=>rwa[eX,tyU,h,xM,isI]
def cR:Fn:=fnU 3 3 (bp jS)
theorem zO{ρ:Rho}{c1 c2 c3:CE}{i:Int}(h1:c1 ρ S=some (.int lo,S))(h2:c2 ρ S=some (.int i,S))(h3:c3 ρ S=some (.int hi,S)):gw fLe fLe c1 c2 c3 ρ S=some (.bl (decide (lo<=i)&&decide (i<=hi)),S):=by
 unfold gw;rw[h1,Q3];dsimp only;rw[h2,Q3];dsimp only;rw[Hg,Q3];cases hd:decide (lo<=i)with
 |true=>
  dsimp only;rw[h3,Q3,Hg,Qi]
 |false=>rfl
theorem uy(h:Gd S u):cR [u,.int lo,.int hi] S=some (.bl (aT lo hi u),S):=by
 have e:=nK h;unfold cR;rw[p9];cases u with
 |int i=>
  have hc:=zO (S:=S) (lo:=lo) (hi:=hi) (i:=i) (ρ:=[some (.int i),some (.int lo),some (.int hi)]) (c1:=ao 1) (c2:=ao 0) (c3:=ao 2) rfl rfl rfl;simp only[isI]at e;rwa[bp,e,hc,aT]
 |non=>simp only[isI]at e;rwa[bp,e,aT]
 |bl b=>simp only[isI]at e;rwa[bp,e,aT]
 |str x=>simp only[isI]at e;rwa[bp,e,aT]
 |tup x=>simp only[isI]at e;rwa[bp,e,aT]
 |ref x=>simp only[isI]at e;rwa[bp,e,aT]
 |kl x=>cases h
theorem dB{i:Nat}{ρ:Rho}(hv:ρ[i]?=some (some u))(h:Gd S u)(hn:∀us,u≠.tup us):aK (jP .tuple (ao i)) ρ S=some (false,S):=by
 have e:ao i ρ S=some (u,S):=by unfold ao;rw[hv]
 rw[jU,xX,e,Q3,qv];cases h with
 |tup _=>exact absurd rfl (hn _)
 |lst h=>simp only[tyU,h,Q3,xM,mE]
 |_=>rfl
theorem bT{i:Nat}{ρ:Rho}(hv:ρ[i]?=some (some (.tup us))):aK (jP .tuple (ao i)) ρ S=some (true,S):=by
 have e:ao i ρ S=some (.tup us,S):=by unfold ao;rw[hv]
 rw[jU,xX,e,Q3,qv];rfl
end
end OQ
namespace OL
open PySem PySem.Spec PyProof PyProof.Rows L2 OG OP OQ
inductive Gs(S:Sto):U->Prop
 |non:Gs S .non
 |bl (b:Bool):Gs S (.bl b)
 |int (i:Int):Gs S (.int i)
 |str (x:Str):Gs S (.str x)
 |lst {l:Nat} {us:List U} (h:S[l]?=some (.lst us)):Gs S (.ref l)
 |tup {us:List U} (h:∀u∈us,Gs S u) (hl:us.length<64):Gs S (.tup us)
section
variable{S:Sto}{u:U}{us:List U}{m lo hi:Int}
theorem Gs.app(h:Gs S u)(X:Sto):Gs (S++X) u:=by
 induction h with
 |non=>exact .non
 |bl b=>exact .bl b
 |int i=>exact .int i
 |str x=>exact .str x
 |lst h=>exact .lst (aD h)
 |tup _ hl ih=>exact .tup ih hl
theorem Gs.gd(h:Gs S u):Gd S u:=by
 induction h with
 |non=>exact .non
 |bl b=>exact .bl b
 |int i=>exact .int i
 |str x=>exact .str x
 |lst h=>exact .lst h
 |tup _ _ ih=>exact .tup ih
theorem Gs.mem(h:Gs S (.tup us)):∀u∈us,Gs S u:=by
 cases h with
 |tup h=>exact h
theorem Gs.len(h:Gs S (.tup us)):us.length<64:=by
 cases h with
 |tup _ h=>exact h
def iv:U->Int
 |.int i=>i
 |_=>0
def prv:U->Int×Int
 |.tup (x::y::_)=>(iv x,iv y)
 |_=>(0,0)
def lG:List (Int×Int)->Bool
 |a::b::r=>ltP a b&&lG (b::r)
 |_=>true
def fc(m:Int):U->Bool
 |.tup [x,y]=>(aT 0 (m-1) x&&aT 0 (m-1) y)&&!decide (iv x=iv y)
 |_=>false
def mf(m:Int):U->Bool
 |.tup us=>us.all (aT 0 (m-1))&&decide ((us.map iv).Nodup)
 |_=>false
def sC(row:List U)(a:Int):U->Bool
 |.int v=>decide (v=-1)||(decide (v∈row.map iv)&&!decide (v=a))
 |_=>false
def jX:U->List U
 |.tup us=>us
 |_=>[]
def gc(ws:List U)(i:Int):List U:=jX (ws.getD i.toNat .non)
def fN(m:Int)(ws:List U):U->Bool
 |.tup [x,y,z]=>aT 0 (m-1) x&&(aT 0 ((ws.length:Int)-1) y&&sC (gc ws (iv y)) (iv x) z)
 |_=>false
def fk(m:Int):U->Bool
 |.tup us=>us.all (fc m)&&lG (us.map prv)
 |_=>false
def uh(m:Int):U->Bool
 |.tup ws=>(decide (1<=ws.length)&&decide (ws.length<=6))&&ws.all (mf m)
 |_=>false
def fM(m:Int)(ws:List U):U->Bool
 |.tup ls=>ls.all (fN m ws)&&lG (ls.map prv)
 |_=>false
def iO:U->Bool
 |.tup [n,t,w,l]=>aT 1 30 n&&(fk (iv n) t&&(uh (iv n) w&&fM (iv n) (jX w) l))
 |_=>false
theorem cf(h:aT lo hi u=true):u=.int (iv u)/\lo<=iv u/\iv u<=hi:=by
 cases u with
 |int i=>
  have:(decide (lo<=i)&&decide (i<=hi))=true:=h;simp at this;exact⟨rfl,this⟩
 |_=>cases h
theorem BF(h:fc m u=true):u=pP (prv u):=by
 unfold fc at h;split at h
 ·rename_i x y;rw[Z0,Z0]at h;have h1:=(cf h.1.1).1;have h2:=(cf h.1.2).1;show U.tup [x,y]=.tup [.int (iv x),.int (iv y)];rw[<-h1,<-h2]
 ·cases h
theorem mR(h:us.all (aT lo hi)=true):us=(us.map iv).map U.int:=by
 rw[Z8]at h;rw[Qs];conv=>lhs;rw[<-List.map_id us]
 exact Zw fun x hx=>(cf (h x hx)).1
def Tb(x:Option (U×Sto))(S:Sto)(b:Bool):Prop:=∃G,x=some (.bl b,S++G)
theorem Tb.of{x:Option (U×Sto)}{b:Bool}(h:x=some (.bl b,S)):Tb x S b:=⟨[],by rw[Qd];exact h⟩
theorem zV{ci:CI}{ce:CE}{caps:List Nat}{ρ cs:Rho}{b:U->Bool}(hi:ci ρ S=some (us,fun _=>True,S))(hn:us.length<64)(hr:mh 1 caps ρ=none::cs)
  (hb:∀x∈us,∀G,Tb (ce (some x::cs) (S++G)) (S++G) (b x)):Tb (cCB o9 (ag (cP ci (gNm 0) ce 1 caps) aB) ρ S) S (us.all b):=by
 suffices h:Wp (cCB o9 (ag (cP ci (gNm 0) ce 1 caps) aB) ρ S) fun r=>r.1=.bl (us.all b)/\∃G,r.2=S++G by
  obtain⟨⟨u,S'⟩,e,e1,G,e2⟩:=h;dsimp only at e1 e2;subst e1 e2;exact⟨G,e⟩
 refine JB (Ef (xs:=us) (f:=fun x=>x) (v:=fun x=>.bl (b x)) (S1:=S) (by rw[List.map_id'];exact hi) (fun _=>trivial) (by omega) hr (fun x hx G=>?_) fun G=>?_)
 ·obtain⟨G',e⟩:=hb x hx G;exact .of e ⟨rfl,G',rfl⟩
 ·refine JC (bs:=us.map b) (by rw[ga0,Qs];rfl) ⟨by rw[List.all_map];rfl,_,rfl⟩
theorem KC{i:Nat}{ρ:Rho}(hv:ρ[i]?=some (some u))(h:Gs S u):jP .tuple (ao i) ρ S=some (.bl (match u with|.tup _=>true|_=>false),S):=by
 have e:ao i ρ S=some (u,S):=by unfold ao;rw[hv]
 rw[xX,e,Q3,qv];cases h with
 |lst h=>simp only[tyU,h,Q3,xM]
 |_=>rfl
def sf:Fn:=fnU 2 2 (dh cR)
theorem fB(h:Gs S u):cR [u,.int lo,.int hi] S=some (.bl (aT lo hi u),S):=uy h.gd
theorem uz{ρ:Rho}(hm:ρ[1]?=some (some (.int m)))(h:Gs S u)(hu:ρ[0]?=some (some u)):cCB cR (ag (ao 0) (ag (cC (.int 0)) (ag (cOp wI (ao 1) (cC (.int 1))) aB))) ρ S=some (.bl (aT 0 (m-1) u),S):=by
 have e:=fB (lo:=0) (hi:=m-1) h;have e0:ao 0 ρ S=some (u,S):=by unfold ao;rw[hu]
 have e1:ao 1 ρ S=some (.int m,S):=by unfold ao;rw[hm]
 rw[Ae,fw,e0,Q3,eI,fw,x_c,Q3,eI,fw,xK,e1,Q3,lH,x_c,Q3,mG,Du,Q3,eI,px,Q3,eG,Q3,eG,Q3,eG,Q3,pA];exact e
theorem qD(h:us.length≠2):fc m (.tup us)=false:=by
 match us,h with
 |[],_=>rfl
 |[_],_=>rfl
 |_::_::_::_,_=>rfl
theorem BG(h:Gs S u):Tb (sf [.int m,u] S) S (fc m u):=by
 unfold sf;rw[wN];by_cases hu:∃us,u=.tup us
 ·obtain⟨us,rfl⟩:=hu;have e1:=bT (i:=1) (S:=S) (us:=us) (ρ:=[some (.int m),some (.tup us)]) rfl;by_cases hl:us.length=2
  ·match us,hl with
   |[x,y],_=>
    obtain⟨G,ea⟩:=zV (S:=S) (us:=[x,y]) (ci:=iTp (ao 1)) (caps:=[0]) (ρ:=[some (.int m),some (.tup [x,y])]) (cs:=[some (.int m)]) (b:=aT 0 (m-1)) (ce:=cCB cR (ag (ao 0) (ag (cC (.int 0)) (ag (cOp wI (ao 1) (cC (.int 1))) aB)))) (jC rfl) (by simp) rfl (fun z hz G=>.of (uz rfl ((h.mem z hz).app G) rfl));have d1:decide (((0+1+1:Nat):Int)=2)=true:=rfl;have et:fc m (.tup [x,y])=([x,y].all (aT 0 (m-1))&&!decide (iv x=iv y)):=by show((aT 0 (m-1) x&&aT 0 (m-1) y)&&!decide (iv x=iv y))=_;simp
    rw[et];cases hx:[x,y].all (aT 0 (m-1))with
    |false=>
     rw[hx]at ea;refine⟨G,?_⟩;rwa[dh,e1,d1,ea,Qg]
    |true=>
     have hx':=Z8.mp hx;have x1:=(cf (hx' x (by simp))).1;have y1:=(cf (hx' y (by simp))).1;rw[hx]at ea;refine⟨G,?_⟩;generalize iv x=p at x1;generalize iv y=q at y1;subst x1 y1;rwa[dh,e1,d1,ea,Qi]
  ·have d1:decide ((us.length:Int)=2)=false:=decide_eq_false (by omega);rw[qD hl];exact .of (by rwa[dh,e1,d1])
 ·have e1:=dB (i:=1) (S:=S) (u:=u) (ρ:=[some (.int m),some u]) rfl h.gd fun us z=>hu ⟨us,z⟩;have er:fc m u=false:=by
   cases u with
   |tup us=>exact absurd ⟨us,rfl⟩ hu
   |_=>rfl
  rw[er];exact .of (by rwa[dh,e1])
def fj:Fn:=fnU 1 1 dY
theorem tX:∀ps:List (Int×Int),((ps.zip (ps.drop 1)).all fun p=>ltP p.1 p.2)=lG ps
 |[]=>rfl
 |[a]=>rfl
 |a::b::r=>by
  show(ltP a b&&(((b::r).zip r).all fun p=>ltP p.1 p.2))=(ltP a b&&lG (b::r));rw[<-tX (b::r)];rfl
theorem Aa:∀ps qs:List (Int×Int),sN (ps.map pP) (qs.map pP)=(ps.zip qs).map fun p=>U.tup [pP p.1,pP p.2]
 |[],_=>rfl
 |_::_,[]=>rfl
 |p::ps,q::qs=>by
  show U.tup [pP p,pP q]::sN (ps.map pP) (qs.map pP)=_;rw[Aa ps qs];rfl
theorem u6{v:U}{ps:List (Int×Int)}{ok:Sto->Prop}{G0:Sto}(hn:ps.length<64)(hi:FU (ao 0) (kZ (ao 0) (some (cC (.int 1))) none) [some v] S=some (sN (ps.map pP) ((ps.drop 1).map pP),ok,S++G0))(hok:∀G,ok (S++G0++G)):Tb (fj [v] S) S (lG ps):=by
 suffices h:Wp (fj [v] S) fun r=>r.1=.bl (lG ps)/\∃G,r.2=S++G by
  obtain⟨⟨u,S'⟩,e,e1,G,e2⟩:=h;dsimp only at e1 e2;subst e1 e2;exact⟨G,e⟩
 unfold fj;rw[qd];unfold dY;refine Wp.bind ?_;rw[DC];refine Wp.bind ?_;refine JB (Ee (xs:=ps.zip (ps.drop 1)) (f:=fun p=>U.tup [pP p.1,pP p.2]) (g:=fun p=>pP p.1) (v:=fun p=>pP p.2) (w:=fun p=>.bl (ltP p.1 p.2)) (cs:=[]) (S1:=S++G0) (fun _=>rfl) (by rw[<-Aa];exact hi) hok (by rw[List.length_zip];omega) rfl (fun p hp G=>.of (r:=(.bl (ltP p.1 p.2),S++G0++G)) rfl ⟨rfl,[],by rw[Qd]⟩) fun G=>?_);refine JC (bs:=(ps.zip (ps.drop 1)).map fun p=>ltP p.1 p.2) (by rw[ga0,Qs];rfl) ?_;rwa[eJ];refine⟨by rw[<-tX,List.all_map];rfl,G0++(.lst ((ps.zip (ps.drop 1)).map fun p=>U.bl (ltP p.1 p.2))::G),?_⟩;simp
theorem F7{α:Type}(us:List U):jM us (some 1) none=us.drop 1:=by
 unfold jM;rw[show(1:Int)=((1:Nat):Int)from rfl,HT.sIx_nat,HT.sIx_none];cases us with
 |nil=>rfl
 |cons x r=>
  rw[QD,Nat.min_eq_left (by omega)];rw[Zt (by simp)]
theorem yB{ps:List (Int×Int)}(hn:ps.length<64):Tb (fj [.tup (ps.map pP)] S) S (lG ps):=by
 refine u6 (G0:=[]) (ok:=fun S=>True/\True) hn ?_ fun _=>⟨trivial,trivial⟩;have e:kZ (ao 0) (some (cC (.int 1))) none [some (.tup (ps.map pP))] S=some (.tup ((ps.drop 1).map pP),S):=by
  show some (U.tup (jM (ps.map pP) (some 1) none),S)=_;rw[F7 (α:=U),List.map_drop]
 have ev:ao 0 [some (.tup (ps.map pP))] S=some (.tup (ps.map pP),S):=rfl;rw[Qd];unfold FU;rw[ev,Q3];dsimp only;rw[e];rfl
theorem yC{ps:List (Int×Int)}{l:Nat}(hn:ps.length<64)(hl:S[l]?=some (.lst (ps.map pP))):Tb (fj [.ref l] S) S (lG ps):=by
 refine u6 (G0:=[.lst ((ps.drop 1).map pP)]) (ok:=fun S'=>S'[l]?=some (.lst (ps.map pP))/\S'[S.length]?=some (.lst ((ps.drop 1).map pP))) hn ?_ fun G=>⟨by rw[QB];exact aD hl,by rw[QB,ga0];rfl⟩;have e:kZ (ao 0) (some (cC (.int 1))) none [some (.ref l)] S=some (.ref S.length,S++[.lst ((ps.drop 1).map pP)]):=by
  show De (.ref l) (some 1) none S=_;simp only[De,hl,F7 (α:=U),List.map_drop]
 have ev:ao 0 [some (.ref l)] S=some (.ref l,S):=rfl;unfold FU;rw[ev,Q3];dsimp only;rw[e,Q3];have s1:yz (.ref l) (S++[.lst ((ps.drop 1).map pP)])=some (ps.map pP,fun S=>S[l]?=some (.lst (ps.map pP))):=by simp only[yz,aD hl]
 have s2:yz (.ref S.length) (S++[.lst ((ps.drop 1).map pP)])=some ((ps.drop 1).map pP,fun S'=>S'[S.length]?=some (.lst ((ps.drop 1).map pP))):=by simp only[yz,ga0,ZU]
 simp only[s1,s2,Q3]
def qr:Fn:=fnU 2 2 (cX sf fj)
theorem qC(h:us.all (fc m)=true):us=(us.map prv).map pP:=by
 rw[Z8]at h;rw[Qs];conv=>lhs;rw[<-List.map_id us]
 exact Zw fun x hx=>BF (h x hx)
theorem yp(h:Gs S u):Tb (qr [.int m,u] S) S (fk m u):=by
 unfold qr;rw[tD];have e1:=KC (i:=1) (S:=S) (u:=u) (ρ:=[some (.int m),some u]) rfl h;by_cases hu:∃us,u=.tup us
 ·obtain⟨us,rfl⟩:=hu;dsimp only at e1;obtain⟨G,ea⟩:=zV (S:=S) (us:=us) (ci:=iTp (ao 1)) (caps:=[0]) (ρ:=[some (.int m),some (.tup us)]) (cs:=[some (.int m)]) (b:=fc m) (ce:=cCB sf (ag (ao 1) (ag (ao 0) aB))) (jC rfl) h.len rfl (fun z hz G=>by
   obtain⟨G',e⟩:=BG (m:=m) ((h.mem z hz).app G);exact⟨G',by rwa[e]⟩)
  have et:fk m (.tup us)=(us.all (fc m)&&lG (us.map prv)):=rfl;rw[et];cases hx:us.all (fc m)with
  |false=>
   rw[hx]at ea;refine⟨G,?_⟩;rwa[cX,e1,ea,Qg]
  |true=>
   rw[hx]at ea;obtain⟨G2,er⟩:=yB (S:=S++G) (ps:=us.map prv) (by rw[QZ];exact h.len);rw[<-qC hx,QB]at er;refine⟨G++G2,?_⟩;rwa[cX,e1,ea,er,Qi]
 ·have er:fk m u=false:=by
   cases u with
   |tup us=>exact absurd ⟨us,rfl⟩ hu
   |_=>rfl
  have e2:jP .tuple (ao 1) [some (.int m),some u] S=some (.bl false,S):=by
   rw[e1];cases u with
   |tup us=>exact absurd ⟨us,rfl⟩ hu
   |_=>rfl
  rw[er];exact .of (by rwa[cX,e2])
end
section
variable{S:Sto}{u x y z:U}{us ws:List U}{m lo hi:Int}
theorem zI{xs:List Int}:zJ xs=xs.length↔xs.Nodup:=by
 have key:∀i,i<=xs.length->((firstMet (fun i=>xs.getD i 0) i).length=i↔(xs.take i).Nodup):=by
  intro i;induction i with
  |zero=>intro _;exact⟨fun _=>by rw[List.take_zero];exact Zm,fun _=>rfl⟩
  |succ i ih=>
   intro hi;have ih:=ih (by omega);have hle:=firstMet_length_le (fun i=>xs.getD i 0) i;have hx:xs.getD i 0=xs[i]'(by omega):=by rw[QX,Q7 (by omega)];rfl
   have tk:xs.take (i+1)=xs.take i++[xs.getD i 0]:=by rw[hx,List.take_append_getElem]
   have any:(firstMet (fun i=>xs.getD i 0) i).any (· == xs.getD i 0)=decide (xs.getD i 0∈xs.take i):=by
    rw[firstMet_any,List.any_map,ZE,List.any_eq_true,decide_eq_true_iff];constructor
    ·rintro⟨j,hj,e⟩;have hj':=Ql.mp hj;have e':xs.getD j 0=xs.getD i 0:=by simpa using e
     rw[<-e',QX,Q7 (by omega)];exact List.mem_take_iff_getElem.mpr ⟨j,by omega,rfl⟩
    ·intro h;obtain⟨j,hj,e⟩:=List.mem_take_iff_getElem.mp h;refine⟨j,Ql.mpr (by omega),?_⟩;have:xs.getD j 0=xs[j]'(by omega):=by rw[QX,Q7 (by omega)];rfl
     show(xs.getD j 0 == xs.getD i 0)=true;rw[this,e];simp
   rw[firstMet_succ];unfold step_dedup;try dsimp only
   rw[any,tk];by_cases hm:xs.getD i 0∈xs.take i
   ·rw[decide_eq_true hm,if_pos rfl];refine⟨fun e=>by omega,fun nd=>?_⟩;rw[List.nodup_append]at nd;exact absurd rfl (nd.2.2 _ hm _ (ZH.mpr rfl))
   ·rw[decide_eq_false hm,if_neg (by decide),Qz,List.nodup_append];constructor
    ·intro e;have:(firstMet (fun i=>xs.getD i 0) i).length=i:=by simpa using e
     exact⟨ih.mp this,ZS.mpr ⟨fun h=>(by cases h),Zm⟩,fun a ha b hb e=>by rw[ZH.mp hb]at e;rw[e]at ha;exact hm ha⟩
    ·intro nd;rw[ih.mpr nd.1];rfl
 have:=key xs.length (QJ _);rw[List.take_length]at this;exact this
def jT:Fn:=fnU 2 2 (bQ cR)
theorem qO(hu:¬∃us,u=.tup us):mf m u=false:=by
 cases u with
 |tup us=>exact absurd ⟨us,rfl⟩ hu
 |_=>rfl
theorem uE(h:Gs S u):Tb (jT [.int m,u] S) S (mf m u):=by
 unfold jT;rw[oI];by_cases hu:∃us,u=.tup us
 ·obtain⟨us,rfl⟩:=hu;have e1:=bT (i:=1) (S:=S) (us:=us) (ρ:=[some (.int m),some (.tup us)]) rfl;obtain⟨G,ea⟩:=zV (S:=S) (us:=us) (ci:=iTp (ao 1)) (caps:=[0]) (ρ:=[some (.int m),some (.tup us)]) (cs:=[some (.int m)]) (b:=aT 0 (m-1)) (ce:=cCB cR (ag (ao 0) (ag (cC (.int 0)) (ag (cOp wI (ao 1) (cC (.int 1))) aB)))) (jC rfl) h.len rfl (fun z hz G=>.of (uz rfl ((h.mem z hz).app G) rfl));have et:mf m (.tup us)=(us.all (aT 0 (m-1))&&decide ((us.map iv).Nodup)):=rfl;rw[et];cases hx:us.all (aT 0 (m-1))with
  |false=>
   rw[hx]at ea;refine⟨G,?_⟩;rwa[bQ,e1,ea,Qg]
  |true=>
   rw[hx]at ea;have hl:=h.len;have es:jO (ao 1) [some (.int m),some (.tup us)] (S++G)=some (.int (zJ (us.map iv):Nat),S++G):=by
    have ev:ao 1 [some (.int m),some (.tup us)] (S++G)=some (.tup us,S++G):=rfl;have ei:ja us=some (us.map iv):=(congrArg ja (mR hx)).trans (fP _);unfold jO;rw[ev,Q3];dsimp only;rw[ei,Q3,if_pos (by rw[QZ];omega)]
   have ed:decide (((zJ (us.map iv):Nat):Int)=(us.length:Int))=decide ((us.map iv).Nodup):=by
    have:=zI (xs:=us.map iv);rw[QZ]at this;rw[decide_eq_decide,<-this];omega
   refine⟨G,?_⟩;rwa[bQ,e1,ea,es,ed,Qi]
 ·have e1:=dB (i:=1) (S:=S) (u:=u) (ρ:=[some (.int m),some u]) rfl h.gd fun us z=>hu ⟨us,z⟩;rw[qO hu];exact .of (by rwa[bQ,e1])
def lB:Fn:=fnU 2 2 (bP cR jT)
theorem ug(hu:¬∃us,u=.tup us):uh m u=false:=by
 cases u with
 |tup us=>exact absurd ⟨us,rfl⟩ hu
 |_=>rfl
theorem sk(h:Gs S u):Tb (lB [.int m,u] S) S (uh m u):=by
 unfold lB;rw[oH];by_cases hu:∃us,u=.tup us
 ·obtain⟨us,rfl⟩:=hu;have e1:=bT (i:=1) (S:=S) (us:=us) (ρ:=[some (.int m),some (.tup us)]) rfl;have ew:=fB (S:=S) (lo:=1) (hi:=6) (u:=.int us.length) (.int _);have ep:aT 1 6 (.int us.length)=(decide (1<=us.length)&&decide (us.length<=6)):=by
   show(decide ((1:Int)<=(us.length:Int))&&decide ((us.length:Int)<=6))=_;congr 1<;>rw[decide_eq_decide]<;>omega
  rw[ep]at ew;obtain⟨G,ea⟩:=zV (S:=S) (us:=us) (ci:=iTp (ao 1)) (caps:=[0]) (ρ:=[some (.int m),some (.tup us)]) (cs:=[some (.int m)]) (b:=mf m) (ce:=cCB jT (ag (ao 1) (ag (ao 0) aB))) (jC rfl) h.len rfl (fun z hz G=>by
   obtain⟨G',e⟩:=uE (m:=m) ((h.mem z hz).app G);exact⟨G',by rwa[e]⟩)
  have et:uh m (.tup us)=((decide (1<=us.length)&&decide (us.length<=6))&&us.all (mf m)):=rfl;rw[et];cases hx:(decide (1<=us.length)&&decide (us.length<=6))with
  |false=>
   rw[hx]at ew;exact .of (by rwa[bP,e1,ew,Qg])
  |true=>
   rw[hx]at ew;refine⟨G,?_⟩;rwa[bP,e1,ew,ea,Qi]
 ·have e1:=dB (i:=1) (S:=S) (u:=u) (ρ:=[some (.int m),some u]) rfl h.gd fun us z=>hu ⟨us,z⟩;rw[ug hu];exact .of (by rwa[bP,e1])
def nE:Fn:=fnU 3 3 (ba jS)
theorem inI(v:Int)(ns:List Int)(T:Sto):fIn false (.int v) (.tup (ns.map U.int)) T=some (.bl (decide (v∈ns)),T):=by
 have h1:(ns.map U.int).all fQ=true:=by rw[List.all_map,Z8];intro x _;rfl
 have h2:inU (.int v) (ns.map U.int)=decide (v∈ns):=by
  unfold inU;rw[List.any_map,ZE,List.any_eq_true,decide_eq_true_iff];constructor
  ·rintro⟨x,hx,e⟩;have e':(x == v)=true:=e;rw[<-(by simpa using e':x=v)];exact hx
  ·intro hx;exact⟨v,hx,(by show(v == v)=true;simp)⟩
 simp only[fIn,h1,h2,fQ,and_self,if_true];rfl
theorem uL{a:Int}(h:Gs S z)(hr:us=(us.map iv).map U.int):nE [.tup us,.int a,z] S=some (.bl (sC us a z),S):=by
 have ew:=nK h.gd;unfold nE;rw[qb];cases z with
 |int v=>
  have ei:=inI v (us.map iv) S;rw[<-hr]at ei;have es:sC us a (.int v)=(decide (v=-1)||(decide (v∈us.map iv)&&!decide (v=a))):=rfl;rw[es];simp only[isI]at ew;cases h1:decide (v=-1)with
  |true=>rwa[ba,ew,h1,Bool.true_or]
  |false=>
   cases h2:decide (v∈us.map iv)with
   |true=>rw[h2]at ei;rwa[ba,ew,h1,ei,Bool.false_or,Qi]
   |false=>rw[h2]at ei;rwa[ba,ew,h1,ei,Bool.false_or,Qg]
 |non=>simp only[isI]at ew;rwa[ba,ew,sC]
 |bl b=>simp only[isI]at ew;rwa[ba,ew,sC]
 |str b=>simp only[isI]at ew;rwa[ba,ew,sC]
 |tup b=>simp only[isI]at ew;rwa[ba,ew,sC]
 |ref b=>simp only[isI]at ew;rwa[ba,ew,sC]
 |kl b=>cases h
theorem Ap(hw:ws.all (mf m)=true){i:Int}(h0:0<=i)(h1:i<=(ws.length:Int)-1):atI ws i=some (.tup (gc ws i))/\gc ws i=((gc ws i).map iv).map U.int:=by
 have hi:i.toNat<ws.length:=by omega
 have e:atI ws i=some ws[i.toNat]:=by
  have:=d9 (Q7 hi);rw[Int.toNat_of_nonneg h0]at this;exact this
 have hm:=(Z8.mp hw) _ (ZK hi);have er:gc ws i=jX ws[i.toNat]:=by unfold gc;rw[QX,Q7 hi];rfl
 rw[e,er];generalize ws[i.toNat]=w at hm;cases w with
 |tup us=>
  have:(us.all (aT 0 (m-1))&&decide ((us.map iv).Nodup))=true:=hm;rw[Z0]at this;exact⟨rfl,mR this.1⟩
 |_=>cases hm
def sh:Fn:=fnU 3 3 (cM cR nE)
theorem rl(h:us.length≠3):fN m ws (.tup us)=false:=by
 match us,h with
 |[],_=>rfl
 |[_],_=>rfl
 |[_,_],_=>rfl
 |_::_::_::_::_,_=>rfl
theorem vZ(hu:¬∃us,u=.tup us):fN m ws u=false:=by
 cases u with
 |tup us=>exact absurd ⟨us,rfl⟩ hu
 |_=>rfl
theorem Cz(hw:ws.all (mf m)=true)(h:Gs S u):sh [.int m,.tup ws,u] S=some (.bl (fN m ws u),S):=by
 unfold sh;rw[wQ];by_cases hu:∃us,u=.tup us
 ·obtain⟨us,rfl⟩:=hu;have e1:=bT (i:=2) (S:=S) (us:=us) (ρ:=[some (.int m),some (.tup ws),some (.tup us)]) rfl;by_cases hl:us.length=3
  ·match us,hl with
   |[x,y,z],_=>
    have d1:decide (((0+1+1+1:Nat):Int)=3)=true:=rfl;have ex:=fB (S:=S) (lo:=0) (hi:=m-1) (h.mem x (by simp));have ey:=fB (S:=S) (lo:=0) (hi:=(ws.length:Int)-1) (h.mem y (by simp));have et:fN m ws (.tup [x,y,z])=(aT 0 (m-1) x&&(aT 0 ((ws.length:Int)-1) y&&sC (gc ws (iv y)) (iv x) z)):=rfl;rw[et];cases h1:aT 0 (m-1) x with
    |false=>rw[h1]at ex;rwa[cM,e1,d1,ex,Qg]
    |true=>
     rw[h1]at ex;cases h2:aT 0 ((ws.length:Int)-1) y with
     |false=>rw[h2]at ey;rwa[cM,e1,d1,ex,ey,Qi,Qg]
     |true=>
      rw[h2]at ey;obtain⟨x1,_⟩:=cf h1;obtain⟨y1,y2,y3⟩:=cf h2;obtain⟨ea,er⟩:=Ap hw y2 y3;have es:=uL (S:=S) (a:=iv x) (h.mem z (by simp)) er;generalize iv x=p at x1 es;generalize iv y=q at y1 ea es;subst x1 y1;rwa[cM,e1,d1,ex,ey,ea,es,Qi]
  ·have d1:decide ((us.length:Int)=3)=false:=decide_eq_false (by omega);rw[rl hl];rwa[cM,e1,d1]
 ·have e1:=dB (i:=2) (S:=S) (u:=u) (ρ:=[some (.int m),some (.tup ws),some u]) rfl h.gd fun us z=>hu ⟨us,z⟩;rw[vZ hu];rwa[cM,e1]
theorem Cy(h:fN m ws u=true):jM (jX u) none (some 2)=[.int (prv u).1,.int (prv u).2]/\u=.tup (jX u):=by
 unfold fN at h;split at h
 ·rename_i x y z;rw[Z0,Z0]at h;have h1:=(cf h.1).1;have h2:=(cf h.2.1).1;refine⟨?_,rfl⟩;show[x,y]=[.int (iv x),.int (iv y)];rw[<-h1,<-h2]
 ·cases h
def qt:Fn:=fnU 3 3 (cY sh fj)
theorem rk(hu:¬∃us,u=.tup us):fM m ws u=false:=by
 cases u with
 |tup us=>exact absurd ⟨us,rfl⟩ hu
 |_=>rfl
theorem oG{i:Nat}{ρ:Rho}{T:Sto}(hv:ρ[i]?=some (some (.tup us)))(hn:us.length<64)(hx:us.all (fN m ws)=true):∃G,cP (iTp (ao i)) (gNm 0) (kZ (ao 0) none (some (cC (.int 2)))) 1 [] ρ T=some (.ref T.length,T++(.lst ((us.map prv).map pP)::G)):=by
 have e:ao i ρ T=some (.tup us,T):=by unfold ao;rw[hv]
 suffices h:Wp (cP (iTp (ao i)) (gNm 0) (kZ (ao 0) none (some (cC (.int 2)))) 1 [] ρ T) fun r=>∃G,r=(.ref T.length,T++(.lst ((us.map prv).map pP)::G))by
  obtain⟨r,e,G,rfl⟩:=h;exact⟨G,e⟩
 refine Ef (xs:=us) (f:=fun x=>x) (v:=fun x=>pP (prv x)) (cs:=[]) (S1:=T) (by rw[List.map_id'];exact jC e) (fun _=>trivial) (by omega) rfl (fun x hx' G=>?_) fun G=>⟨G,by rw[Qs];rfl⟩;obtain⟨c1,c2⟩:=Cy ((Z8.mp hx) x hx');refine .of (r:=(pP (prv x),T++G)) ?_ ⟨rfl,[],by rw[Qd]⟩;rw[c2];show some (U.tup (jM (jX x) none (some 2)),T++G)=_;rw[c1,<-c2];rfl
theorem zj(hw:ws.all (mf m)=true)(h:Gs S u):Tb (qt [.int m,.tup ws,u] S) S (fM m ws u):=by
 unfold qt;rw[tF];by_cases hu:∃us,u=.tup us
 ·obtain⟨us,rfl⟩:=hu;have e1:=bT (i:=2) (S:=S) (us:=us) (ρ:=[some (.int m),some (.tup ws),some (.tup us)]) rfl;obtain⟨G,ea⟩:=zV (S:=S) (us:=us) (ci:=iTp (ao 2)) (caps:=[0,1]) (ρ:=[some (.int m),some (.tup ws),some (.tup us)]) (cs:=[some (.int m),some (.tup ws)]) (b:=fN m ws) (ce:=cCB sh (ag (ao 1) (ag (ao 2) (ag (ao 0) aB)))) (jC rfl) h.len rfl (fun z hz G=>.of (by
   have e:=Cz hw ((h.mem z hz).app G);rwa[e]))
  have et:fM m ws (.tup us)=(us.all (fN m ws)&&lG (us.map prv)):=rfl;rw[et];cases hx:us.all (fN m ws)with
  |false=>
   rw[hx]at ea;refine⟨G,?_⟩;rwa[cY,e1,ea,Qg]
  |true=>
   rw[hx]at ea;obtain⟨G2,ef⟩:=oG (i:=2) (ρ:=[some (.int m),some (.tup ws),some (.tup us)]) (T:=S++G) rfl h.len hx;obtain⟨T,hT⟩:∃T,T=S++G++(.lst ((us.map prv).map pP)::G2):=⟨_,rfl⟩;rw[<-hT]at ef;obtain⟨G3,er⟩:=yC (S:=T) (ps:=us.map prv) (l:=(S++G).length) (by rw[QZ];exact h.len) (by rw[hT,ga0];rfl);refine⟨G++(.lst ((us.map prv).map pP)::G2)++G3,?_⟩;rw[hT]at er;rw[hT]at ef;simp only[QB,ZZ]at er ef ⊢;rwa[cY,e1,ea,ef,er,Qi]
 ·have e1:=dB (i:=2) (S:=S) (u:=u) (ρ:=[some (.int m),some (.tup ws),some u]) rfl h.gd fun us z=>hu ⟨us,z⟩;rw[rk hu];exact .of (by rwa[cY,e1])
def nF:Fn:=fnU 2 1 (bZ cR qr lB qt)
theorem qE(h:us.length≠4):iO (.tup us)=false:=by
 match us,h with
 |[],_=>rfl
 |[_],_=>rfl
 |[_,_],_=>rfl
 |[_,_,_],_=>rfl
 |_::_::_::_::_::_,_=>rfl
theorem uH(hu:¬∃us,u=.tup us):iO u=false:=by
 cases u with
 |tup us=>exact absurd ⟨us,rfl⟩ hu
 |_=>rfl
theorem eV(h:Gs S u):Tb (nF [u] S) S (iO u):=by
 unfold nF;rw[wO];by_cases hu:∃us,u=.tup us
 ·obtain⟨us,rfl⟩:=hu;have e1:=bT (i:=0) (S:=S) (us:=us) (ρ:=[some (.tup us),none]) rfl;by_cases hl:us.length=4
  ·match us,hl with
   |[n,t,w,l],_=>
    have d1:decide (((0+1+1+1+1:Nat):Int)=4)=true:=rfl;have en:=fB (S:=S) (lo:=1) (hi:=30) (h.mem n (by simp));have et:iO (.tup [n,t,w,l])=(aT 1 30 n&&(fk (iv n) t&&(uh (iv n) w&&fM (iv n) (jX w) l))):=rfl;rw[et];cases h1:aT 1 30 n with
    |false=>rw[h1]at en;exact .of (by rwa[bZ,e1,d1,en,Qg])
    |true=>
     rw[h1]at en;obtain⟨n1,_⟩:=cf h1;have ht:=h.mem t (by simp);have hw:=h.mem w (by simp);have hk:=h.mem l (by simp);generalize iv n=p at n1;subst n1;obtain⟨G1,eti⟩:=yp (m:=p) ht;cases h2:fk p t with
     |false=>
      rw[h2]at eti;exact⟨G1,by rwa[bZ,e1,d1,en,eti,Qi,Qg]⟩
     |true=>
      rw[h2]at eti;obtain⟨G2,ew⟩:=sk (m:=p) (hw.app G1);rw[QB]at ew;cases h3:uh p w with
      |false=>
       rw[h3]at ew;exact⟨G1++G2,by rwa[bZ,e1,d1,en,eti,ew,Qi,Qg]⟩
      |true=>
       rw[h3]at ew;by_cases hc:∃ws,w=.tup ws
       ·obtain⟨ws,rfl⟩:=hc;have h4:ws.all (mf p)=true:=by
         have:((decide (1<=ws.length)&&decide (ws.length<=6))&&ws.all (mf p))=true:=h3;rw[Z0]at this;exact this.2
        obtain⟨G3,el⟩:=zj h4 (hk.app (G1++G2));rw[QB,QB]at el;refine⟨G1++(G2++G3),?_⟩;show _=some (U.bl (true&&(true&&(true&&fM p ws l))),S++(G1++(G2++G3)));rwa[bZ,e1,d1,en,eti,ew,el,Qi]
       ·rw[ug hc]at h3;cases h3
  ·have d1:decide ((us.length:Int)=4)=false:=decide_eq_false (by omega);rw[qE hl];exact .of (by rwa[bZ,e1,d1])
 ·have e1:=dB (i:=0) (S:=S) (u:=u) (ρ:=[some u,none]) rfl h.gd fun us z=>hu ⟨us,z⟩;rw[uH hu];exact .of (by rwa[bZ,e1])
end
section
variable{S:Sto}{u x y z:U}{us ws:List U}{m hi:Int}
def dg:Fn:=fnU 1 1 dj
theorem iE(h:Gs S u):dg [u] S=some (.bl (isI u),S):=by
 unfold dg;rw[oJ];cases h with
 |non=>rfl
 |bl b=>rfl
 |int i=>rfl
 |str x=>rfl
 |tup _=>rfl
 |lst h=>rwa[dj,tyU,h,xM,isI]
def o5:Fn:=fnU 3 2 (bD dg)
theorem E9:aT 0 (m-1) u=(isI u&&(!decide (iv u<0)&&!decide (iv u≥m))):=by
 cases u with
 |int i=>
  show(decide (0<=i)&&decide (i<=m-1))=(true&&(!decide (i<0)&&!decide (i≥m)));rw[Qi,<-decide_not,<-decide_not];congr 1<;>rw[decide_eq_decide]<;>omega
 |_=>rfl
theorem qP(v:U):∀(us:List U) (r2:Option U),(∀u∈us,Gs S u)->∃r2',dA (fun _=>True) (gNm 2) (aJ dg) us [some (.int m),some v,r2] S=some (if us.all (aT 0 (m-1))then .nx else .rt (.bl false),[some (.int m),some v,r2'],S)
 |[],r2,_=>⟨r2,eD trivial⟩
 |u::us,r2,h=>by
  have ew:=iE (h u QY);have e:aJ dg [some (.int m),some v,some u] S=some (if aT 0 (m-1) u then .nx else .rt (.bl false),[some (.int m),some v,some u],S):=by
   rw[E9];cases u with
   |int i=>
    simp only[isI]at ew;show _=some (if (true&&(!decide (i<0)&&!decide (i≥m)))then _ else _,_,_);have eg:decide (i≥m)=decide (m<=i):=rfl;rw[eg];cases h1:decide (i<0)with
    |true=>rwa[aJ,ew,h1];rfl
    |false=>
     cases h2:decide (m<=i)with
     |true=>rwa[aJ,ew,h1,h2];rfl
     |false=>rwa[aJ,ew,h1,h2];rfl
   |non=>simp only[isI]at ew;rwa[aJ,ew,isI];rfl
   |bl b=>simp only[isI]at ew;rwa[aJ,ew,isI];rfl
   |str b=>simp only[isI]at ew;rwa[aJ,ew,isI];rfl
   |tup b=>simp only[isI]at ew;rwa[aJ,ew,isI];rfl
   |ref b=>simp only[isI]at ew;rwa[aJ,ew,isI];rfl
   |kl b=>cases h (.kl b) QY
  rw[List.all_cons];cases hp:aT 0 (m-1) u with
  |true=>
   rw[hp]at e;obtain⟨r,ih⟩:=qP v us (some u) fun w hw=>h w (QU _ hw);exact⟨r,(fK trivial rfl e).trans ih⟩
  |false=>
   rw[hp]at e;exact⟨some u,vY trivial rfl e⟩
theorem zM{ns:List Int}:(ns.all fun z=>decide ((ns.count z:Int)=1))=decide ns.Nodup:=by
 rw[ZE,Z8,decide_eq_true_iff];constructor
 ·intro h;rw[List.nodup_iff_count];intro a;by_cases ha:a∈ns
  ·have:=h a ha;rw[decide_eq_true_iff]at this;omega
  ·rw[List.count_eq_zero_of_not_mem ha];omega
 ·intro nd a ha;rw[decide_eq_true_iff,nd.count,if_pos ha];rfl
theorem vQ(h:Gs S u):Tb (o5 [.int m,u] S) S (mf m u):=by
 unfold o5;rw[ny];by_cases hu:∃us,u=.tup us
 ·obtain⟨us,rfl⟩:=hu;have e1:=bT (i:=1) (S:=S) (us:=us) (ρ:=[some (.int m),some (.tup us),none]) rfl;obtain⟨r,el⟩:=qP (S:=S) (m:=m) (.tup us) us none h.mem;have ef:lR (iTp (ao 1)) (gNm 2) (aJ dg) [some (.int m),some (.tup us),none] S=some (if us.all (aT 0 (m-1))then .nx else .rt (.bl false),[some (.int m),some (.tup us),r],S):=by
   unfold lR;rw[jC (us:=us) (S1:=S) rfl];exact el
  have et:mf m (.tup us)=(us.all (aT 0 (m-1))&&decide ((us.map iv).Nodup)):=rfl;rw[et];cases hx:us.all (aT 0 (m-1))with
  |false=>
   rw[hx]at ef;exact .of (by rwa[bD,e1,ef,if_neg QC,Qg])
  |true=>
   rw[hx,if_pos rfl]at ef;have hi:=mR hx;obtain⟨G,ea⟩:=zV (S:=S) (us:=us) (ci:=iTp (ao 1)) (caps:=[1]) (ρ:=[some (.int m),some (.tup us),r]) (cs:=[some (.tup us)]) (b:=fun z=>decide (((us.map iv).count (iv z):Int)=1)) (ce:=cOp fEq (oT (ao 1) (ao 0)) (cC (.int 1))) (jC rfl) h.len rfl (fun z hz G=>.of (by
    have hz':=(cf ((Z8.mp hx) z hz)).1;have ec:oT (ao 1) (ao 0) [some z,some (.tup us)] (S++G)=some (.int ((us.map iv).count (iv z):Nat),S++G):=by
     have v1:ao 1 [some z,some (.tup us)] (S++G)=some (.tup us,S++G):=rfl;have v0:ao 0 [some z,some (.tup us)] (S++G)=some (z,S++G):=rfl;have ei:ja us=some (us.map iv):=(congrArg ja (hi)).trans (fP _);unfold oT;rw[v1,Q3];dsimp only;rw[v0,Q3];dsimp only;rw[hz'];dsimp only;rw[ei];rfl
    rwa[ec]))
   have eq:(us.all fun z=>decide (((us.map iv).count (iv z):Int)=1))=decide ((us.map iv).Nodup):=by rw[<-zM,List.all_map];rfl
   rw[eq]at ea;refine⟨G,?_⟩;rwa[bD,e1,ef,ea,Qi]
 ·have e1:=dB (i:=1) (S:=S) (u:=u) (ρ:=[some (.int m),some u,none]) rfl h.gd fun us z=>hu ⟨us,z⟩;rw[qO hu];exact .of (by rwa[bD,e1])
def lC:Fn:=fnU 3 3 (aL dg)
theorem JS{ρ:Rho}{ca cb:CE}{i j:Int}(ha:ca ρ S=some (.int i,S))(hb:cb ρ S=some (.int j,S)):aK (Dg ca cb) ρ S=some (!decide (0<=i/\i<j),S):=by
 rw[jU];unfold Dg;rw[ha,Q3];dsimp only;rw[hb,Q3];rfl
theorem zk(hw:ws.all (mf m)=true)(h:Gs S u):Tb (lC [.int m,.tup ws,u] S) S (fN m ws u):=by
 unfold lC;rw[lO];by_cases hu:∃us,u=.tup us
 ·obtain⟨us,rfl⟩:=hu;have e1:=bT (i:=2) (S:=S) (us:=us) (ρ:=[some (.int m),some (.tup ws),some (.tup us)]) rfl;by_cases hl:us.length=3
  ·obtain⟨G,ea⟩:=zV (S:=S) (us:=us) (ci:=iTp (ao 2)) (caps:=[]) (ρ:=[some (.int m),some (.tup ws),some (.tup us)]) (cs:=[]) (b:=isI) (ce:=cCB dg (ag (ao 0) aB)) (jC rfl) h.len rfl (fun z hz G=>.of (by
    have e:=iE ((h.mem z hz).app G);rwa[e]))
   match us,hl with
   |[x,y,z],_=>
    have d1:decide (((0+1+1+1:Nat):Int)=3)=true:=rfl;have et:fN m ws (.tup [x,y,z])=(aT 0 (m-1) x&&(aT 0 ((ws.length:Int)-1) y&&sC (gc ws (iv y)) (iv x) z)):=rfl;rw[et];cases hx:[x,y,z].all isI with
    |false=>
     rw[hx]at ea;have:(aT 0 (m-1) x&&(aT 0 ((ws.length:Int)-1) y&&sC (gc ws (iv y)) (iv x) z))=false:=by
      cases x with
      |int a=>
       cases y with
       |int b=>
        cases z with
        |int c=>cases hx
        |_=>show(_&&(_&&false))=false;simp
       |_=>show(_&&(false&&_))=false;simp
      |_=>rfl
     rw[this];exact⟨G,by rwa[aL,e1,d1,ea]⟩
    |true=>
     rw[hx]at ea;have hx':=Z8.mp hx;cases x with
     |int a=>
      cases y with
      |int b=>
       cases z with
       |int v=>
        have p1:aT 0 (m-1) (.int a)=decide (0<=a/\a<m):=by
         show(decide (0<=a)&&decide (a<=m-1))=_;rw[<-Bool.decide_and,decide_eq_decide];omega
        have p2:aT 0 ((ws.length:Int)-1) (.int b)=decide (0<=b/\b<(ws.length:Int)):=by
         show(decide (0<=b)&&decide (b<=(ws.length:Int)-1))=_;rw[<-Bool.decide_and,decide_eq_decide];omega
        have n1:=JS (S:=S++G) (ρ:=[some (.int m),some (.tup ws),some (.tup [.int a,.int b,.int v])]) (ca:=cOp fIx (ao 2) (cC (.int 0))) (cb:=ao 0) (i:=a) (j:=m) rfl rfl;have n2:=JS (S:=S++G) (ρ:=[some (.int m),some (.tup ws),some (.tup [.int a,.int b,.int v])]) (ca:=cOp fIx (ao 2) (cC (.int 1))) (cb:=cCB gY (ag (ao 1) aB)) (i:=b) (j:=ws.length) rfl rfl;rw[<-p1]at n1;rw[<-p2]at n2;cases h1:aT 0 (m-1) (.int a)with
        |false=>
         rw[h1]at n1;exact⟨G,by rwa[aL,e1,d1,ea,n1,Qg]⟩
        |true=>
         rw[h1]at n1;cases h2:aT 0 ((ws.length:Int)-1) (.int b)with
         |false=>
          rw[h2]at n2;exact⟨G,by rwa[aL,e1,d1,ea,n1,n2,Qi,Qg]⟩
         |true=>
          rw[h2]at n2;obtain⟨_,y2,y3⟩:=cf h2;have er:=Ap hw y2 y3;simp only[iv]at er;obtain⟨ea2,er⟩:=er;have ei:=inI v ((gc ws b).map iv) (S++G);rw[<-er]at ei;have es:(true&&(true&&sC (gc ws (iv (.int b))) (iv (.int a)) (.int v)))=(decide (v=-1)||(decide (v∈(gc ws b).map iv)&&!decide (v=a))):=rfl;rw[es];refine⟨G,?_⟩;cases k1:decide (v=-1)with
          |true=>rwa[aL,e1,d1,ea,n1,n2,k1,nH,ji,Bool.true_or]
          |false=>
           cases k2:decide (v=a)with
           |true=>rwa[aL,e1,d1,ea,n1,n2,k1,k2,nH,ji,Bool.false_or,ZO]
           |false=>rwa[aL,e1,d1,ea,n1,n2,k1,k2,ea2,ei,nH,ji,Bool.false_or,Bool.and_true]
       |_=>exact absurd (hx' _ (QU _ (QU _ QY))) (by simp[isI])
      |_=>exact absurd (hx' _ (QU _ QY)) (by simp[isI])
     |_=>exact absurd (hx' _ QY) (by simp[isI])
  ·have d1:decide ((us.length:Int)=3)=false:=decide_eq_false (by omega);rw[rl hl];exact .of (by rwa[aL,e1,d1])
 ·have e1:=dB (i:=2) (S:=S) (u:=u) (ρ:=[some (.int m),some (.tup ws),some u]) rfl h.gd fun us z=>hu ⟨us,z⟩;rw[vZ hu];exact .of (by rwa[aL,e1])
end
def qDt(p:Int×Int):PyData:=.tuple [.int p.1,.int p.2]
theorem vj{S:Sto}:∀ts:List (Int×Int),DtL S (ts.map pP) (ts.map qDt)
 |[]=>.nil
 |p::ts=>.cons (.tup (.cons (.int _) (.cons (.int _) .nil))) (vj ts)
theorem vh(ts:List (Int×Int)):xI (.list (ts.map qDt)):=by
 have h:∀ts:List (Int×Int),PyData.canLayAll0 (ts.map qDt)=true/\PyData.depthAll (ts.map qDt)<=2:=fun ts=>by
  induction ts with
  |nil=>exact⟨rfl,ZN _⟩
  |cons n r ih=>
   have h1:(qDt n).canLay0=true:=by simp[qDt,PyData.canLay0,PyData.canLayAll0]
   have h2:(qDt n).depth<=2:=by simp[qDt,PyData.depth,PyData.depthAll]
   refine⟨?_,?_⟩
   ·rw[Qk];unfold PyData.canLayAll0;rw[h1,ih.1];rfl
   ·rw[Qk];unfold PyData.depthAll;exact Nat.max_le.mpr ⟨h2,ih.2⟩
 refine⟨by unfold PyData.canLay0;exact(h ts).1,?_⟩;unfold PyData.depth;have:=(h ts).2;omega
theorem vi:∀ps qs:List (Int×Int),PyData.eqvAll (ps.map qDt) (qs.map qDt)=decide (ps=qs)
 |[],[]=>by simp[PyData.eqvAll]
 |[],_::_=>by simp[PyData.eqvAll]
 |_::_,[]=>by simp[PyData.eqvAll]
 |p::ps,q::qs=>by
  have e:(qDt p).eqv (qDt q)=((p.1 == q.1)&&((p.2 == q.2)&&true)):=rfl;rw[Qk,Qk];unfold PyData.eqvAll;rw[vi ps qs,e];obtain⟨a,b⟩:=p;obtain⟨c,d⟩:=q;rw[ZE];simp[and_assoc]
theorem oj{S:Sto}{l l':Nat}{ps qs:List (Int×Int)}(h:S[l]?=some (.lst (ps.map pP)))(h':S[l']?=some (.lst (qs.map pP))):rN false (.ref l) (.ref l') S=some (.bl (decide (ps=qs)),S):=
 p8 false (.inl ⟨_,_,.lst h (vj ps),.lst h' (vj qs),vh ps,vh qs,(vi ps qs).symm⟩)
theorem sd:∀{ps:List (Int×Int)},lG ps=true↔ps.Pairwise fun a b=>ltP a b=true
 |[]=>⟨fun _=>.nil,fun _=>rfl⟩
 |[a]=>⟨fun _=>List.pairwise_singleton _ _,fun _=>rfl⟩
 |a::b::r=>by
  have e:lG (a::b::r)=(ltP a b&&lG (b::r)):=rfl;rw[e,Z0,sd (ps:=b::r),Zb (a:=a)];constructor
  ·rintro⟨h1,h2⟩;refine⟨fun c hc=>?_,h2⟩;rcases QL.mp hc with rfl|hc
   ·exact h1
   ·have h3:=(Zb.mp h2).1 c hc;unfold ltP at *;rw[decide_eq_true_iff]at *;omega
  ·rintro⟨h1,h2⟩;exact⟨h1 b QY,h2⟩
theorem qI{ps:List (Int×Int)}:decide (ps=dR ps)=lG ps:=by
 rw[ZE,decide_eq_true_iff,sd];constructor
 ·intro e;rw[e];unfold dR;split
  ·rename_i hx;exact hx.choose_spec.1
  ·exact .nil
 ·intro h;exact(jG h fun _=>Iff.rfl).symm
section
variable{S:Sto}{u x y z:U}{us ws:List U}{m lo hi:Int}
theorem nB{ρ:Rho}{c1 c2 c3:CE}{i:Int}(h1:c1 ρ S=some (.int lo,S))(h2:c2 ρ S=some (.int i,S))(h3:c3 ρ S=some (.int hi,S)):aK (gw fLt fLt c1 c2 c3) ρ S=some (decide (lo<i)&&decide (i<hi),S):=by
 rw[jU];unfold gw;rw[h1,Q3];dsimp only;rw[h2,Q3];dsimp only;rw[DK,Q3];cases hd:decide (lo<i)with
 |true=>
  dsimp only;rw[h3,Q3,DK,Qi];rfl
 |false=>rfl
theorem yq:fc m u=(mf m u&&decide ((jX u).length=2)):=by
 by_cases hu:∃us,u=.tup us
 ·obtain⟨us,rfl⟩:=hu;by_cases hl:us.length=2
  ·match us,hl with
   |[x,y],_=>
    show((aT 0 (m-1) x&&aT 0 (m-1) y)&&!decide (iv x=iv y))=(((aT 0 (m-1) x&&(aT 0 (m-1) y&&true))&&decide ([iv x,iv y].Nodup))&&true);rw[Bool.and_true,Bool.and_true];congr 1;rw[<-decide_not,decide_eq_decide];simp
  ·rw[qD hl];show false=(_&&decide (us.length=2));rw[decide_eq_false hl,ZO]
 ·rw[qO hu,Qg];cases u with
  |tup us=>exact absurd ⟨us,rfl⟩ hu
  |_=>rfl
abbrev fD(f:Fn->Fn->Fn->CS):CS:=f dg o5 lC
theorem lU(r0:Option U)(r2 r3 r4:Option U):∀(us:List U) (T:Sto) (r5:Option U),(∀u∈us,Gs T u)->∃r5' G,dA (fun _=>True) (gNm 5) (fD dq) us [r0,some (.int m),r2,r3,r4,r5,none] T=some (if us.all (fc m)then .nx else .rt (.bl false),[r0,some (.int m),r2,r3,r4,r5',none],T++G)
 |[],T,r5,_=>⟨r5,[],by rw[Qd];exact eD trivial⟩
 |u::us,T,r5,h=>by
  obtain⟨G,er⟩:=vQ (m:=m) (h u QY);have e:fD dq [r0,some (.int m),r2,r3,r4,some u,none] T=some (if fc m u then .nx else .rt (.bl false),[r0,some (.int m),r2,r3,r4,some u,none],T++G):=by
   rw[yq];unfold fD dq;cases hr:mf m u with
   |false=>
    rw[hr]at er;rwa[er,Qg,if_neg QC]
   |true=>
    rw[hr]at er;by_cases hu:∃vs,u=.tup vs
    ·obtain⟨vs,rfl⟩:=hu;show _=some (if (true&&decide (vs.length=2))then _ else _,_,_);have ed:decide ((vs.length:Int)=2)=decide (vs.length=2):=by rw[decide_eq_decide];omega
     cases hd:decide (vs.length=2)with
     |true=>rw[hd]at ed;rwa[er,ed];rfl
     |false=>rw[hd]at ed;rwa[er,ed];rfl
    ·rw[qO hu]at hr;cases hr
  rw[List.all_cons];cases hp:fc m u with
  |true=>
   rw[hp]at e;obtain⟨r,G',ih⟩:=lU r0 r2 r3 r4 us (T++G) (some u) fun w hw=>(h w (QU _ hw)).app G;refine⟨r,G++G',?_⟩;rw[QB]at ih;exact(fK trivial rfl e).trans ih
  |false=>
   rw[hp]at e;exact⟨some u,G,vY trivial rfl e⟩
def o6:Fn:=fnU 7 1 (fD aW)
theorem CC{ps qs:List (Int×Int)}{ρ:Rho}{k:Nat}(h2:ρ[2]?=some (some (.tup (ps.map pP))))(h6:ρ[6]?=some (some (.ref k)))(hk:S[k]?=some (.lst (qs.map pP)))(l1:ps.length<64)(l2:qs.length<64) :
  Tb (fS (cOp (rN false) (cCB iK (ag (ao 2) aB)) (fR (ao 2))) (cOp (rN false) (ao 6) (eZ (ao 6))) ρ S) S (lG ps&&lG qs):=by
 have v2:∀T,ao 2 ρ T=some (.tup (ps.map pP),T):=fun T=>by unfold ao;rw[h2]
 have v6:∀T,ao 6 ρ T=some (.ref k,T):=fun T=>by unfold ao;rw[h6]
 have e1:fR (ao 2) ρ (S++[.lst (ps.map pP)])=some (.ref (S.length+1),S++[.lst (ps.map pP),.lst ((dR ps).map pP)]):=by
  unfold fR;rw[v2,Q3];dsimp only;rw[iZ,Q3,if_pos l1];simp
 have c1:=oj (S:=S++[.lst (ps.map pP),.lst ((dR ps).map pP)]) (l:=S.length) (l':=S.length+1) (ps:=ps) (qs:=dR ps) (by rw[ga0];rfl) (by rw[ga];rfl);rw[qI]at c1;have e2:eZ (ao 6) ρ (S++[.lst (ps.map pP),.lst ((dR ps).map pP)])=some (.ref (S.length+2),S++[.lst (ps.map pP),.lst ((dR ps).map pP),.lst ((dR qs).map pP)]):=by
  unfold eZ;rw[v6,Q3];dsimp only;rw[aD hk];dsimp only;rw[iZ,Q3,if_pos ⟨by omega,qs,l2,fun _ h=>h⟩];simp
 have c2:=oj (S:=S++[.lst (ps.map pP),.lst ((dR ps).map pP),.lst ((dR qs).map pP)]) (l:=k) (l':=S.length+2) (ps:=qs) (qs:=dR qs) (aD hk) (by rw[ga];rfl);rw[qI]at c2;have l3:iK [.tup (ps.map pP)] S=some (.ref S.length,S++[.lst (ps.map pP)]):=rfl;cases hp:lG ps with
 |false=>
  rw[hp]at c1;refine⟨[.lst (ps.map pP),.lst ((dR ps).map pP)],?_⟩;rw[uf,xK,Ae,fw,v2,Q3,eI,px,Q3,eG,Q3,pA,l3,Q3,lH,e1,Q3,mG,c1,Q3,ud,Qg]
 |true=>
  rw[hp]at c1;refine⟨[.lst (ps.map pP),.lst ((dR ps).map pP),.lst ((dR qs).map pP)],?_⟩;rw[uf,xK,Ae,fw,v2,Q3,eI,px,Q3,eG,Q3,pA,l3,Q3,lH,e1,Q3,mG,c1,Q3,ue,xK,v6,Q3,lH,e2,Q3,mG,c2,Qi]
theorem C2{p:Int}{t w l:U}(hp:(decide (0<p)&&decide (p<31))=true)(ht:Gs S t)(hw:Gs S w)(hk:Gs S l):Tb (o6 [.tup [.int p,t,w,l]] S) S (fk p t&&(uh p w&&fM p (jX w) l)):=by
 unfold o6;rw[eW];have e1:=bT (i:=0) (S:=S) (us:=[.int p,t,w,l]) (ρ:=[some (.tup [.int p,t,w,l]),none,none,none,none,none,none]) rfl;have d1:decide (((0+1+1+1+1:Nat):Int)=4)=true:=rfl;have ew:=iE (S:=S) (u:=.int p) (.int p);simp only[isI]at ew;have ec:=nB (S:=S) (ρ:=[some (.tup [.int p,t,w,l]),none,none,none,none,none,none]) (c1:=cC (.int 0)) (c2:=cOp fIx (ao 0) (cC (.int 0))) (c3:=cC (.int 31)) (lo:=0) (hi:=31) (i:=p) rfl rfl rfl;rw[hp]at ec;have ρ5:eP [1,2,3,4] [.int p,t,w,l] [some (.tup [.int p,t,w,l]),none,none,none,none,none,none]=some [some (.tup [.int p,t,w,l]),some (.int p),some t,some w,some l,none,none]:=rfl;by_cases ct:∃ts,t=.tup ts;case neg=>
  have e2:=dB (i:=2) (S:=S) (u:=t) (ρ:=[some (.tup [.int p,t,w,l]),some (.int p),some t,some w,some l,none,none]) rfl ht.gd fun us z=>ct ⟨us,z⟩;have:fk p t=false:=by
   cases t with
   |tup us=>exact absurd ⟨us,rfl⟩ ct
   |_=>rfl
  rw[this,Qg];exact .of (by rwa[fD,aW,e1,d1,ew,ec,e2])
 obtain⟨ts,rfl⟩:=ct;have e2:=bT (i:=2) (S:=S) (us:=ts) (ρ:=[some (.tup [.int p,.tup ts,w,l]),some (.int p),some (.tup ts),some w,some l,none,none]) rfl;by_cases cw:∃ws,w=.tup ws;case neg=>
  have e3:=dB (i:=3) (S:=S) (u:=w) (ρ:=[some (.tup [.int p,.tup ts,w,l]),some (.int p),some (.tup ts),some w,some l,none,none]) rfl hw.gd fun us z=>cw ⟨us,z⟩;rw[ug cw,Qg,ZO];exact .of (by rwa[fD,aW,e1,d1,ew,ec,e2,e3])
 obtain⟨ws,rfl⟩:=cw;have e3:=bT (i:=3) (S:=S) (us:=ws) (ρ:=[some (.tup [.int p,.tup ts,.tup ws,l]),some (.int p),some (.tup ts),some (.tup ws),some l,none,none]) rfl;by_cases cl:∃ls,l=.tup ls;case neg=>
  have e4:=dB (i:=4) (S:=S) (u:=l) (ρ:=[some (.tup [.int p,.tup ts,.tup ws,l]),some (.int p),some (.tup ts),some (.tup ws),some l,none,none]) rfl hk.gd fun us z=>cl ⟨us,z⟩;rw[rk cl,ZO,ZO];exact .of (by rwa[fD,aW,e1,d1,ew,ec,e2,e3,e4])
 obtain⟨ls,rfl⟩:=cl;obtain⟨v,hv⟩:∃v:U,v=.tup [.int p,.tup ts,.tup ws,.tup ls]:=⟨_,rfl⟩;have e4:=bT (i:=4) (S:=S) (us:=ls) (ρ:=[some v,some (.int p),some (.tup ts),some (.tup ws),some (.tup ls),none,none]) rfl;rw[<-hv]at e1 ec e2 e3 ρ5 ⊢;have ex:fIx v (.int 0) S=some (.int p,S):=by rw[hv];rfl
 have eln:gY [v] S=some (.int 4,S):=by rw[hv];rfl
 have eg:gTp [1,2,3,4] v [some v,none,none,none,none,none,none] S=some ([some v,some (.int p),some (.tup ts),some (.tup ws),some (.tup ls),none,none],S):=by
  conv=>lhs;rw[hv]
  rw[DS,<-hv,ρ5];rfl
 have d4:decide ((4:Int)=4)=true:=rfl;have c3:=nB (S:=S) (ρ:=[some v,some (.int p),some (.tup ts),some (.tup ws),some (.tup ls),none,none]) (c1:=cC (.int 0)) (c2:=cCB gY (ag (ao 3) aB)) (c3:=cC (.int 7)) (lo:=0) (hi:=7) (i:=ws.length) rfl rfl rfl;have ec3:(decide ((0:Int)<(ws.length:Int))&&decide ((ws.length:Int)<7))=(decide (1<=ws.length)&&decide (ws.length<=6)):=by congr 1<;>rw[decide_eq_decide]<;>omega
 rw[ec3]at c3;obtain⟨G1,ea⟩:=zV (S:=S) (us:=ws) (ci:=iTp (ao 3)) (caps:=[1]) (ρ:=[some v,some (.int p),some (.tup ts),some (.tup ws),some (.tup ls),none,none]) (cs:=[some (.int p)]) (b:=mf p) (ce:=cCB o5 (ag (ao 1) (ag (ao 0) aB))) (jC rfl) hw.len rfl (fun z hz G=>by
  obtain⟨G',e⟩:=vQ (m:=p) ((hw.mem z hz).app G);exact⟨G',by rwa[e]⟩)
 have etw:uh p (.tup ws)=((decide (1<=ws.length)&&decide (ws.length<=6))&&ws.all (mf p)):=rfl;cases h1:(decide (1<=ws.length)&&decide (ws.length<=6))with
 |false=>
  rw[h1]at c3 etw;rw[etw,Qg,Qg,ZO];exact .of (by rwa[fD,aW,e1,eln,d4,ex,ew,ec,eg,e2,e3,e4,c3])
 |true=>
  rw[h1]at c3 etw;cases h2:ws.all (mf p)with
  |false=>
   rw[h2]at ea etw;rw[etw,ZO,Qg,ZO];exact⟨G1,by rwa[fD,aW,e1,eln,d4,ex,ew,ec,eg,e2,e3,e4,c3,ea]⟩
  |true=>
   rw[h2]at ea etw;rw[etw,Bool.and_true,Qi];obtain⟨r5,G2,el⟩:=lU (m:=p) (some v) (some (.tup ts)) (some (.tup ws)) (some (.tup ls)) ts (S++G1) none fun u hu=>(ht.mem u hu).app G1;have ef:lR (iTp (ao 2)) (gNm 5) (dq dg o5 lC) [some v,some (.int p),some (.tup ts),some (.tup ws),some (.tup ls),none,none] (S++G1)=some (if ts.all (fc p)then .nx else .rt (.bl false),[some v,some (.int p),some (.tup ts),some (.tup ws),some (.tup ls),r5,none],S++G1++G2):=by
    unfold lR;rw[jC (us:=ts) (S1:=S++G1) rfl];exact el
   have ett:fk p (.tup ts)=(ts.all (fc p)&&lG (ts.map prv)):=rfl;cases h3:ts.all (fc p)with
   |false=>
    rw[h3,if_neg QC]at ef;rw[ett,h3,Qg,Qg];rw[QB]at ef;exact⟨G1++G2,by rwa[fD,aW,e1,eln,d4,ex,ew,ec,eg,e2,e3,e4,c3,ea,ef]⟩
   |true=>
    rw[h3,if_pos rfl]at ef;rw[ett,h3,Qi];obtain⟨T,hT⟩:∃T,T=S++G1++G2:=⟨_,rfl⟩;rw[<-hT]at ef;have hkT:Gs T (.tup ls):=by rw[hT];exact(hk.app G1).app G2
    obtain⟨G3,el3⟩:=zV (S:=T) (us:=ls) (ci:=iTp (ao 4)) (caps:=[1,3]) (ρ:=[some v,some (.int p),some (.tup ts),some (.tup ws),some (.tup ls),r5,none]) (cs:=[some (.int p),some (.tup ws)]) (b:=fN p ws) (ce:=cCB lC (ag (ao 1) (ag (ao 2) (ag (ao 0) aB)))) (jC rfl) hkT.len rfl (fun z hz G=>by
     obtain⟨G',e⟩:=zk h2 ((hkT.mem z hz).app G);exact⟨G',by rwa[e]⟩)
    have etl:fM p (jX (.tup ws)) (.tup ls)=(ls.all (fN p ws)&&lG (ls.map prv)):=rfl;cases h4:ls.all (fN p ws)with
    |false=>
     rw[h4]at el3;rw[etl,h4,Qg,ZO];refine⟨G1++G2++G3,?_⟩;have:S++(G1++G2++G3)=T++G3:=by rw[hT];simp only[QB]
     rw[this];rwa[fD,aW,e1,eln,d4,ex,ew,ec,eg,e2,e3,e4,c3,ea,ef,el3]
    |true=>
     rw[h4]at el3;rw[etl,h4,Qi];obtain⟨G4,ef4⟩:=oG (i:=4) (ρ:=[some v,some (.int p),some (.tup ts),some (.tup ws),some (.tup ls),r5,none]) (T:=T++G3) rfl hk.len h4;obtain⟨T2,hT2⟩:∃T2,T2=T++G3++(.lst ((ls.map prv).map pP)::G4):=⟨_,rfl⟩;rw[<-hT2]at ef4;obtain⟨G5,e5⟩:=CC (S:=T2) (ps:=ts.map prv) (qs:=ls.map prv) (k:=(T++G3).length) (ρ:=[some v,some (.int p),some (.tup ts),some (.tup ws),some (.tup ls),r5,some (.ref (T++G3).length)]) (by rw[<-qC h3];rfl) rfl (by rw[hT2,ga0];rfl) (by rw[QZ];exact ht.len) (by rw[QZ];exact hk.len);refine⟨G1++G2++G3++(.lst ((ls.map prv).map pP)::G4)++G5,?_⟩;have:S++(G1++G2++G3++(.lst ((ls.map prv).map pP)::G4)++G5)=T2++G5:=by rw[hT2,hT];simp only[QB]
     rw[this];rwa[fD,aW,e1,eln,d4,ex,ew,ec,eg,e2,e3,e4,c3,ea,ef,el3,ef4,e5]
theorem AN(h:Gs S u):Tb (o6 [u] S) S (iO u):=by
 by_cases hu:∃us,u=.tup us
 ·obtain⟨us,rfl⟩:=hu;have e1:=bT (i:=0) (S:=S) (us:=us) (ρ:=[some (.tup us),none,none,none,none,none,none]) rfl;by_cases hl:us.length=4
  ·match us,hl with
   |[n,t,w,l],_=>
    have d1:decide (((0+1+1+1+1:Nat):Int)=4)=true:=rfl;have ew:=iE (h.mem n (by simp));have et:iO (.tup [n,t,w,l])=(aT 1 30 n&&(fk (iv n) t&&(uh (iv n) w&&fM (iv n) (jX w) l))):=rfl;cases n with
    |int p=>
     have pe:aT 1 30 (.int p)=(decide (0<p)&&decide (p<31)):=by
      show(decide (1<=p)&&decide (p<=30))=_;congr 1<;>rw[decide_eq_decide]<;>omega
     cases hp:(decide (0<p)&&decide (p<31))with
     |true=>
      rw[et,pe,hp,Qi];exact C2 hp (h.mem t (by simp)) (h.mem w (by simp)) (h.mem l (by simp))
     |false=>
      rw[et,pe,hp,Qg];unfold o6;rw[eW];have ec:=nB (S:=S) (ρ:=[some (.tup [.int p,t,w,l]),none,none,none,none,none,none]) (c1:=cC (.int 0)) (c2:=cOp fIx (ao 0) (cC (.int 0))) (c3:=cC (.int 31)) (lo:=0) (hi:=31) (i:=p) rfl rfl rfl;rw[hp]at ec;simp only[isI]at ew;exact .of (by rwa[fD,aW,e1,d1,ew,ec])
    |kl b=>cases h.mem (.kl b) (by simp)
    |_=>
     rw[et];unfold o6;rw[eW];simp only[isI]at ew;exact .of (by rwa[fD,aW,e1,d1,ew,aT,Qg])
  ·have d1:decide ((us.length:Int)=4)=false:=decide_eq_false (by omega);rw[qE hl];unfold o6;rw[eW];exact .of (by rwa[fD,aW,e1,d1])
 ·have e1:=dB (i:=0) (S:=S) (u:=u) (ρ:=[some u,none,none,none,none,none,none]) rfl h.gd fun us z=>hu ⟨us,z⟩;rw[uH hu];unfold o6;rw[eW];exact .of (by rwa[fD,aW,e1])
end
def GE(B:Sto)(ρ:Rho)(c:CE):Prop:=∀G,Wp (c ρ (B++G)) fun r=>Gs r.2 r.1/\∃G',r.2=B++G++G'
def TT(B:Sto)(ρ:Rho)(c:CE)(n:Nat):Prop:=∀G,Wp (c ρ (B++G)) fun r=>∃us,r.1=.tup us/\us.length<=n/\(∀u∈us,Gs r.2 u)/\∃G',r.2=B++G++G'
def GA(B:Sto)(ρ:Rho)(c:CA)(n:Nat):Prop:=∀G,Wp (c ρ (B++G)) fun r=>r.1.length=n/\(∀u∈r.1,Gs r.2 u)/\∃G',r.2=B++G++G'
def LL(B:Sto)(l n:Nat):Prop:=∃us,B[l]?=some (.lst us)/\us.length=n/\∀u∈us,Gs B u
def LE(B:Sto)(ρ:Rho)(c:CE)(n:Nat):Prop:=∀G,Wp (c ρ (B++G)) fun r=>∃l,r.1=.ref l/\LL r.2 l n/\∃G',r.2=B++G++G'
section
variable{B:Sto}{ρ cs:Rho}{c d ce:CE}{cr:CA}{i n k l:Nat}{u:U}{us:List U}{cl ch:Option CE}{lo hi:Option Int}{caps:List Nat}
theorem LL.app(h:LL B l n)(G:Sto):LL (B++G) l n:=let ⟨us,a,b,c⟩:=h;⟨us,aD a,b,fun u hu=>(c u hu).app G⟩
theorem GE.of(h:∀T,c ρ T=some (u,T))(g:∀S,Gs S u):GE B ρ c:=fun G=>.of (h _) ⟨g _,[],by rw[Qd]⟩
theorem GE.var(h:ρ[i]?=some (some u))(g:Gs B u):GE B ρ (ao i):=fun G=>.of (r:=(u,B++G)) (by unfold ao;rw[h]) ⟨g.app G,[],by rw[Qd]⟩
theorem GA.nil:GA B ρ aB 0:=fun G=>.of (r:=([],B++G)) rfl ⟨rfl,(fun u hu=>by cases hu),[],by rw[Qd]⟩
theorem GA.cons(hc:GE B ρ c)(hr:GA B ρ cr n):GA B ρ (ag c cr) (n+1):=fun G=>by
 obtain⟨⟨u,S1⟩,e1,g1,G1,h1⟩:=hc G;dsimp only at g1 h1;subst h1;obtain⟨⟨us,S2⟩,e2,l2,g2,G2,h2⟩:=hr (G++G1);dsimp only at l2 g2 h2;rw[<-QB]at e2 h2;subst h2;refine .of (r:=(u::us,B++G++G1++G2)) ?_ ⟨by rw[QD,l2],fun v hv=>?_,G1++G2,by simp only[QB]⟩
 ·rw[fw,e1,Q3,eI,e2,Q3,eG]
 ·rcases QL.mp hv with rfl|hv
  ·exact g1.app _
  ·exact g2 v hv
theorem TT.tup(h:GA B ρ cr n):TT B ρ (bw cr) n:=fun G=>by
 obtain⟨⟨us,S1⟩,e1,l1,g1,G1,h1⟩:=h G;exact .of (r:=(.tup us,S1)) (by rw[Ds,e1,Q3,Ab]) ⟨us,rfl,Nat.le_of_eq l1,g1,G1,h1⟩
theorem TT.var(h:ρ[i]?=some (some (.tup us)))(hl:us.length<=n)(g:∀S,∀u∈us,Gs S u):TT B ρ (ao i) n:=fun G=>.of (r:=(.tup us,B++G)) (by unfold ao;rw[h]) ⟨us,rfl,hl,g _,[],by rw[Qd]⟩
theorem C4:(jM us lo hi).length<=us.length:=by unfold jM;rw[ZP,List.length_drop];omega
theorem xc(h:u∈jM us lo hi):u∈us:=List.mem_of_mem_drop (List.mem_of_mem_take h)
theorem TT.cut(h:TT B ρ c n)(hl:∀T,lQ cl ρ T=some (lo,T))(hh:∀T,lQ ch ρ T=some (hi,T)):TT B ρ (kZ c cl ch) n:=fun G=>by
 obtain⟨⟨v,S1⟩,e1,us,h0,l1,g1,G1,h1⟩:=h G;dsimp only at h0 h1;subst h0;refine .of (r:=(.tup (jM us lo hi),S1)) ?_ ⟨_,rfl,Qo C4 l1,fun u hu=>g1 u (xc hu),G1,h1⟩;unfold kZ;rw[e1,Q3];dsimp only;rw[hl,Q3];dsimp only;rw[hh];rfl
theorem TT.rev(h:TT B ρ c n):TT B ρ (cOp tj c (jN (cC (.int 1)))) n:=fun G=>by
 obtain⟨⟨v,S1⟩,e1,us,h0,l1,g1,G1,h1⟩:=h G;dsimp only at h0 h1;subst h0;refine .of (r:=(.tup us.reverse,S1)) ?_ ⟨_,rfl,by rw[List.length_reverse];exact l1,fun u hu=>g1 u (List.mem_reverse.mp hu),G1,h1⟩;rw[xK,e1,Q3,lH];rfl
theorem TT.add(h:TT B ρ c n)(h':TT B ρ d k)(hn:n+k<=200):TT B ρ (cOp cT c d) (n+k):=fun G=>by
 obtain⟨⟨v,S1⟩,e1,us,h0,l1,g1,G1,h1⟩:=h G;dsimp only at h0 h1 g1;subst h0 h1;obtain⟨⟨v,S2⟩,e2,ws,h0,l2,g2,G2,h2⟩:=h' (G++G1);dsimp only at h0 h2 g2;rw[<-QB]at e2 h2;subst h0 h2;refine .of (r:=(.tup (us++ws),B++G++G1++G2)) ?_ ⟨_,rfl,by rw[Qz];omega,fun u hu=>?_,G1++G2,by simp only[QB]⟩
 ·rw[xK,e1,Q3,lH,e2,Q3,mG];exact if_pos (by unfold LIM;omega)
 ·rcases Zq.mp hu with hu|hu
  ·exact(g1 u hu).app _
  ·exact g2 u hu
theorem TT.ge(h:TT B ρ c n)(hn:n<64):GE B ρ c:=fun G=>by
 obtain⟨⟨v,S1⟩,e1,us,h0,l1,g1,G1,h1⟩:=h G;dsimp only at h0 h1;subst h0;exact .of e1 ⟨.tup g1 (by omega),G1,h1⟩
theorem LE.lst(h:GA B ρ cr n):LE B ρ (iM cr) n:=fun G=>by
 obtain⟨⟨us,S1⟩,e1,l1,g1,G1,h1⟩:=h G;dsimp only at l1 g1 h1;subst h1;exact .of (r:=(.ref (B++G++G1).length,B++G++G1++[.lst us])) (by rw[DL,e1,Q3,Ad]) ⟨_,rfl,⟨us,by rw[ga0];rfl,l1,fun u hu=>(g1 u hu).app _⟩,G1++[.lst us],by simp only[QB]⟩
theorem LE.ge(h:LE B ρ c n):GE B ρ c:=fun G=>by
 obtain⟨⟨v,S1⟩,e1,l,h0,⟨us,a,_,_⟩,G1,h1⟩:=h G;dsimp only at h0 h1 a;subst h0;exact .of e1 ⟨.lst a,G1,h1⟩
theorem GE.list(h:TT B ρ c n):GE B ρ (cCB iK (ag c aB)):=fun G=>by
 obtain⟨⟨v,S1⟩,e1,us,h0,l1,g1,G1,h1⟩:=h G;dsimp only at h0 h1;subst h0 h1;refine .of (r:=(.ref (B++G++G1).length,B++G++G1++[.lst us])) ?_ ⟨.lst (us:=us) (by rw[ga0];rfl),G1++[.lst us],by simp only[QB]⟩;rw[Ae,fw,e1,Q3,eI,px,Q3,eG,Q3,pA,tZ]
theorem LE.var(h:ρ[i]?=some (some (.ref l)))(g:LL B l n):LE B ρ (ao i) n:=fun G=>.of (r:=(.ref l,B++G)) (by unfold ao;rw[h]) ⟨l,rfl,g.app G,[],by rw[Qd]⟩
theorem LE.add(h:LE B ρ c n)(h':LE B ρ d k)(hn:n+k<=200):LE B ρ (cOp cT c d) (n+k):=fun G=>by
 obtain⟨⟨v,S1⟩,e1,l1,h0,⟨us,a1,b1,c1⟩,G1,h1⟩:=h G;dsimp only at h0 h1 a1 c1;subst h0 h1;obtain⟨⟨v,S2⟩,e2,l2,h0,⟨ws,a2,b2,c2⟩,G2,h2⟩:=h' (G++G1);dsimp only at h0 h2 a2 c2;rw[<-QB]at e2 h2;subst h0 h2;have a1':(B++G++G1++G2)[l1]?=some (.lst us):=aD a1;refine .of (r:=(.ref (B++G++G1++G2).length,B++G++G1++G2++[.lst (us++ws)])) ?_ ⟨_,rfl,⟨us++ws,by rw[ga0];rfl,by rw[Qz,b1,b2],fun u hu=>?_⟩,G1++G2++[.lst (us++ws)],by simp only[QB]⟩
 ·rw[xK,e1,Q3,lH,e2,Q3,mG];have hle:us.length+ws.length<=LIM:=by unfold LIM;omega
  simp only[cT,kR,a1',a2,hle,if_true]
 ·rcases Zq.mp hu with hu|hu
  ·exact((c1 u hu).app _).app _
  ·exact(c2 u hu).app _
theorem LE.comp(h:LE B ρ c n)(hn:n<=200)(hr:mh 1 caps ρ=none::cs)(he:∀B' x,Gs B' x->GE B' (some x::cs) ce):LE B ρ (cP (iTp c) (gNm 0) ce 1 caps) n:=fun G=>by
 obtain⟨⟨v,S1⟩,e1,l1,h0,⟨us,a1,b1,c1⟩,G1,h1⟩:=h G;dsimp only at h0 h1 a1 c1;subst h0 h1;have key:∀x∈us,∀G2,∃v:U,(Wp (ce (some x::cs) (B++G++G1++G2)) fun t=>t.1=v/\∃G3,t.2=B++G++G1++G2++G3):=fun x hx G2=>by
  obtain⟨⟨v,S3⟩,e3,_,G3,h3⟩:=he (B++G++G1) x (c1 x hx) G2;exact⟨v,.of e3 ⟨rfl,G3,h3⟩⟩
 have run:∀(xs:List U),(∀x∈xs,Gs (B++G++G1) x)->∀(ys:List U) (G2:Sto) (r0:Option U),ys.length+xs.length<=9999->(∀u∈ys,Gs (B++G++G1++(.lst ys::G2)) u)->∃zs G3,zs.length=ys.length+xs.length/\gP (fun S=>S[l1]?=some (.lst us)) (gNm 0) ce (B++G++G1).length xs (r0::cs) (B++G++G1++(.lst ys::G2))=some (B++G++G1++(.lst zs::G3))/\∀u∈zs,Gs (B++G++G1++(.lst zs::G3)) u:=by
  intro xs;induction xs with
  |nil=>exact fun _ ys G2 r0 _ hy=>⟨ys,G2,rfl,nA (aD a1),hy⟩
  |cons x xs ih=>
   intro hx ys G2 r0 hl hy;rw[QD]at hl;obtain⟨⟨v,S3⟩,e3,gv,G3,h3⟩:=he (B++G++G1) x (hx x QY) (.lst ys::G2);dsimp only at gv h3;rw[QB,ZZ]at h3;subst h3;have up:∀{w:U},Gs (B++G++G1++(.lst ys::(G2++G3))) w->Gs (B++G++G1++(.lst (ys++[v])::(G2++G3))) w:=fun{w} hw=>by
    induction hw with
    |non=>exact .non
    |bl b=>exact .bl b
    |int i=>exact .int i
    |str x=>exact .str x
    |tup _ hl ih=>exact .tup ih hl
    |@lst l ws hw=>
     by_cases hc:l=(B++G++G1).length
     ·subst hc;exact .lst (us:=ys++[v]) (by rw[ga0];rfl)
     ·refine .lst (us:=ws) ?_;rw[<-hw];by_cases hc2:l<(B++G++G1).length
      ·rw[Qv hc2,Qv hc2]
      ·rw[Qw (by omega),Qw (by omega)];obtain⟨j,hj⟩:∃j,l-(B++G++G1).length=j+1:=⟨l-(B++G++G1).length-1,by omega⟩;rw[hj];rfl
   obtain⟨zs,G4,lz,ez,gz⟩:=ih (fun w hw=>hx w (QU _ hw)) (ys++[v]) (G2++G3) (some x) (by rw[Qz,QD,List.length_nil];omega) (fun w hw=>by
    refine up ?_;rcases Zq.mp hw with hw|hw
    ·have:=(hy w hw).app G3;rw[QB,ZZ]at this;exact this
    ·rw[ZH.mp hw];exact gv)
   refine⟨zs,G4,by rw[lz,Qz,QD,QD,List.length_nil];omega,?_,gz⟩;have hs:(B++G++G1++(O.lst ys::(G2++G3))).set (B++G++G1).length (.lst (ys++[v]))=B++G++G1++(.lst (ys++[v])::(G2++G3)):=by rw[gs0];rfl
   rw[<-hs]at ez;exact(kY (aD a1) rfl e3 (by rw[ga0];rfl) (by unfold LIM;omega)).trans ez
 obtain⟨zs,G3,lz,ez,gz⟩:=run us c1 [] [] none (by rw[b1];simp;omega) (fun u hu=>by cases hu);refine .of (r:=(.ref (B++G++G1).length,B++G++G1++(.lst zs::G3))) ?_ ⟨_,rfl,⟨zs,by rw[ga0];rfl,by rw[lz,b1];simp,gz⟩,G1++(.lst zs::G3),by simp only[QB]⟩;unfold cP;rw[Jg e1 a1,Q3,hr];dsimp only;rw[ez];rfl
theorem Ed{i:Nat}{c2:CS}{S:Sto}{Q:Out×Rho×Sto->Prop}(h:Wp (c ρ S) fun r=>Wp (c2 (ρ.set i (some r.1)) r.2) Q):Wp (bu (da i c) c2 ρ S) Q:=by
 obtain⟨⟨u,S1⟩,e1,r,e2,q⟩:=h;refine⟨r,?_,q⟩;rw[pq,nG,e1,Q3,jV,Q3,jW];exact e2
theorem wLE{i:Nat}{c2:CS}{f:Nat->Rho}{Q:Out×Rho×Sto->Prop}(hf:∀l,ρ.set i (some (.ref l))=f l)(h:LE B ρ c n)(k:∀l G,LL (B++G) l n->Wp (c2 (f l) (B++G)) Q):Wp (bu (da i c) c2 ρ B) Q:=by
 obtain⟨⟨v,S1⟩,e1,l,h0,ll,G1,h1⟩:=h [];rw[Qd]at e1 h1;dsimp only at h0 h1 ll;subst h0 h1;exact Ed (.of e1 (by rw[hf];exact k l G1 ll))
end
section
variable{B:Sto}{ρ:Rho}{c d:CE}{i n k l lw:Nat}{u:U}{us:List U}{cl ch:Option CE}{lo hi:Option Int}
theorem Gs.wl{T T1:Sto}(w:Wl lw T T1)(h:Gs T u):Gs T1 u:=by
 induction h with
 |non=>exact .non
 |bl b=>exact .bl b
 |int i=>exact .int i
 |str x=>exact .str x
 |tup _ hl ih=>exact .tup ih hl
 |@lst l us h=>
  by_cases hc:l=lw
  ·subst hc;obtain⟨z,hz⟩:=w.well;exact .lst hz
  ·exact .lst (w.get h hc)
theorem TT.cutB(h:TT B ρ c n)(hl:∀T,lQ cl ρ T=some (lo,T))(hh:∀T,lQ ch ρ T=some (hi,T))(hb:∀us:List U,(jM us lo hi).length<=k):TT B ρ (kZ c cl ch) k:=fun G=>by
 obtain⟨⟨v,S1⟩,e1,us,h0,l1,g1,G1,h1⟩:=h G;dsimp only at h0 h1;subst h0;refine .of (r:=(.tup (jM us lo hi),S1)) ?_ ⟨_,rfl,hb us,fun u hu=>g1 u (xc hu),G1,h1⟩;unfold kZ;rw[e1,Q3];dsimp only;rw[hl,Q3];dsimp only;rw[hh];rfl
theorem zK(us:List U):(jM us (some (-1)) none).length<=1:=by
 unfold jM;have e:HT.sIx us.length 0 (some (-1))=((-1:Int)+(us.length:Int)).toNat:=rfl;rw[HT.sIx_none,e,ZP,List.length_drop];omega
theorem xf(us:List U):(jM us none (some 1)).length<=1:=by
 unfold jM;rw[show(1:Int)=((1:Nat):Int)from rfl,HT.sIx_nat,HT.sIx_none,ZP];omega
theorem wNx{c1 c2:CS}{ρ':Rho}{S S':Sto}{Q:Out×Rho×Sto->Prop}(h:c1 ρ S=some (.nx,ρ',S'))(k:Wp (c2 ρ' S') Q):Wp (bu c1 c2 ρ S) Q:=by
 obtain⟨r,e,q⟩:=k;exact⟨r,by rw[pq,h,Q3,jW];exact e,q⟩
abbrev rB(lw:Nat)(tl:U)(many:Int)(ts ws ls:List U)(a b:Int)(rs:List U)(st:U)(x10 x11 x12 x13:Option U):Rho:=[some (.ref lw),some tl,some (.int many),some (.tup ts),some (.tup ws),some (.tup ls),some (.int a),some (.int b),some (.tup rs),some st,x10,x11,x12,x13]
def si:Fn:=fnU 14 2 (d5 gk)
theorem C7{many:Int}{ts ws ls:List U}{Y:Sto}(wl:∃z,Y[lw]?=some (.lst [.int z]))(m0:1<=many)(m1:many<=30)(pt:∀S,∀u∈ts,Gs S u)(lt:ts.length<=60)(pl:∀S,∀u∈ls,Gs S u)(ll:ls.length<=60)(w0:1<=ws.length)(w1:ws.length<=6)
  (pw:∀w∈ws,∃rs,w=.tup rs/\rs.length<=30/\∀S,∀u∈rs,Gs S u):Wp (si [.ref lw,.tup [.int many,.tup ts,.tup ws,.tup ls]] Y) fun r=>Gs r.2 r.1/\∃z,r.2[lw]?=some (.lst [.int z]):=by
 have pws:∀S,∀u∈ws,Gs S u:=fun S u hu=>by
  obtain⟨rs,rfl,h1,h2⟩:=pw u hu;exact .tup (h2 S) (by omega)
 obtain⟨a,Y1,e1,W1,l1,a0,a1⟩:=cE (m:=many) wl (by omega) (by omega);obtain⟨b,Y2,e2,W2,l2,b0,b1⟩:=cE (m:=(ws.length:Int)) W1.well (by omega) (by omega);have hb:b.toNat<ws.length:=by omega
 have hat:atI ws b=some ws[b.toNat]:=by
  have:=d9 (Q7 hb);rw[Int.toNat_of_nonneg b0]at this;exact this
 obtain⟨rs,hrs,lr,pr⟩:=pw _ (ZK hb);rw[hrs]at hat;obtain⟨us8,hus⟩:∃us8:List U,us8=[.int many,.int (-1),.bl true,.bl false,.non,.str "0",.tup [.int 0],.int (10^30)]:=⟨_,rfl⟩;have wl2:∃z,(Y2++[O.lst us8])[lw]?=some (.lst [.int z]):=by obtain⟨z,h⟩:=W2.well;exact⟨z,aD h⟩
 obtain⟨d,B,e3,W3,l3,d0,d1⟩:=cE (m:=8) wl2 (by omega) (by omega);have lwl:lw<Y2.length:=by obtain⟨z,h⟩:=W2.well;exact(Q9.mp h).1
 have g8:B[Y2.length]?=some (.lst us8):=W3.get (by rw[ga0];rfl) (by omega);obtain⟨st,hst,pst⟩:∃st:U,atI us8 d=some st/\∀S,Gs S st:=by
  have hl8:us8.length=8:=by rw[hus];rfl
  have hd8:d.toNat<us8.length:=by omega
  refine⟨us8[d.toNat],?_,fun S=>?_⟩
  ·have:=d9 (Q7 hd8);rw[Int.toNat_of_nonneg d0]at this;exact this
  ·have hm:=ZK hd8;generalize us8[d.toNat]=x at hm;rw[hus]at hm;simp only[QL,ZF,or_false]at hm;rcases hm with rfl|rfl|rfl|rfl|rfl|rfl|rfl|rfl
   ·exact .int _
   ·exact .int _
   ·exact .bl _
   ·exact .bl _
   ·exact .non
   ·exact .str _
   ·exact .tup (fun u hu=>by rw[ZH.mp hu];exact .int _) (by decide)
   ·exact .int _
 obtain⟨tl,htl⟩:∃tl:U,tl=.tup [.int many,.tup ts,.tup ws,.tup ls]:=⟨_,rfl⟩;have ptl:∀S,∀u∈[U.int many,.tup ts,.tup ws,.tup ls],Gs S u:=fun S u hu=>by
  simp only[QL,ZF,or_false]at hu;rcases hu with rfl|rfl|rfl|rfl
  ·exact .int _
  ·exact .tup (pt S) (by omega)
  ·exact .tup (pws S) (by omega)
  ·exact .tup (pl S) (by omega)
 have hpow:∀T,F1 (.int 10) (.int 30) T=some (.int (10^30),T):=fun T=>by
  have:=GY (S:=T) (j:=10) (k:=30) ⟨by decide,by decide,by decide⟩;exact this
 have vI:∀{B:Sto} {ρ:Rho} {i:Nat} {z:Int},ρ[i]?=some (some (.int z))->GE B ρ (ao i):=fun h=>.var h (.int _);have vT:∀{B:Sto} {ρ:Rho} {i:Nat},ρ[i]?=some (some (.tup ts))->TT B ρ (ao i) 60:=fun h=>.var h lt pt;have vW:∀{B:Sto} {ρ:Rho} {i:Nat},ρ[i]?=some (some (.tup ws))->TT B ρ (ao i) 6:=fun h=>.var h w1 pws;have vL:∀{B:Sto} {ρ:Rho} {i:Nat},ρ[i]?=some (some (.tup ls))->TT B ρ (ao i) 60:=fun h=>.var h ll pl;have vR:∀{B:Sto} {ρ:Rho} {i:Nat},ρ[i]?=some (some (.tup rs))->TT B ρ (ao i) 30:=fun h=>.var h lr pr;have vS:∀{B:Sto} {ρ:Rho} {i:Nat},ρ[i]?=some (some st)->GE B ρ (ao i):=fun h=>.var h (pst _);have vA:∀{B:Sto} {ρ:Rho} {i:Nat},ρ[i]?=some (some tl)->TT B ρ (ao i) 4:=fun h=>.var (us:=[.int many,.tup ts,.tup ws,.tup ls]) (by rw[h,htl]) (by simp) ptl;have cI:∀{B:Sto} {ρ:Rho} {z:Int},GE B ρ (cC (.int z)):=fun{_ _ _}=>.of (fun _=>rfl) fun _=>.int _;have cN:∀{B:Sto} {ρ:Rho} {z:Int},GE B ρ (jN (cC (.int z))):=fun{_ _ _}=>.of (fun _=>rfl) fun _=>.int _;have gg:∀{B:Sto} {ρ:Rho} {c:CE} {n:Nat},TT B ρ c n->n<64->GE B ρ c:=fun h k=>h.ge k;unfold si;rw[qg,<-htl];unfold d5;refine Wp.bind ?_;refine wNx (ρ':=[some (.ref lw),some tl,some (.int many),some (.tup ts),some (.tup ws),some (.tup ls),none,none,none,none,none,none,none,none]) (S':=Y) (by rw[htl];rfl) ?_;refine Ed (.of (r:=(.int a,Y1)) (by rwa[e1]) ?_);refine Ed (.of (r:=(.int b,Y2)) (by rwa[e2]) ?_);refine Ed (.of (r:=(.tup rs,Y2)) (by rwa[hat]) ?_);refine Ed (.of (r:=(st,B)) (by rwa[nH,ji,hpow,hus.symm,e3,g8,hst]) ?_);change Wp ((bu _ _) (rB lw tl many ts ws ls a b rs st none none none none) B) _;refine wLE (f:=fun j=>rB lw tl many ts ws ls a b rs st (some (.ref j)) none none none) (fun _=>rfl) (.lst (.cons (gg (.add (.tup (.cons (vS rfl) .nil)) (vR rfl) (by decide)) (by decide)) (.cons (gg (.add (vR rfl) (.cut (vR rfl) (fun _=>rfl) (fun _=>rfl)) (by decide)) (by decide)) (.cons (.list (vR rfl)) (.cons (gg (.cut (vR rfl) (fun _=>rfl) (fun _=>rfl)) (by decide)) (.cons (gg (.add (vR rfl) (.tup (.cons (vI rfl) .nil)) (by decide)) (by decide)) (.cons (.of (fun _=>rfl) fun _=>.non) (.cons (gg (.rev (vR rfl)) (by decide)) .nil)))))))) fun j10 G1 L10=>?_;refine wLE (f:=fun j=>rB lw tl many ts ws ls a b rs st (some (.ref j10)) (some (.ref j)) none none) (fun _=>rfl) (.comp (.lst (.cons (.of (fun _=>rfl) fun _=>.int (many-1)) (.cons (.of (fun _=>rfl) fun _=>.int (many+1)) (.cons cI (.cons cI (.cons (vS rfl) (.cons (.of (fun _=>rfl) fun _=>.int (-many)) .nil))))))) (by decide) rfl fun B' x gx=>gg (.tup (.cons (.var rfl gx) (.cons (gg (vT rfl) (by decide)) (.cons (gg (vW rfl) (by decide)) (.cons (gg (vL rfl) (by decide)) .nil))))) (by decide)) fun j11 G2 L11=>?_;have L10:=L10.app G2;refine wLE (f:=fun j=>rB lw tl many ts ws ls a b rs st (some (.ref j10)) (some (.ref j)) none none) (fun _=>rfl) (.add (.var rfl L11) (.comp (.var rfl L10) (by decide) rfl fun B' x gx=>gg (.tup (.cons (vI rfl) (.cons (gg (vT rfl) (by decide)) (.cons (gg (.add (.add (.cut (vW rfl) (fun _=>rfl) (fun _=>rfl)) (.tup (.cons (.var rfl gx) .nil)) (by decide)) (.cut (vW rfl) (fun _=>rfl) (fun _=>rfl)) (by decide)) (by decide)) (.cons (gg (vL rfl) (by decide)) .nil))))) (by decide)) (by decide)) fun j11 G3 L11=>?_;refine wLE (f:=fun j=>rB lw tl many ts ws ls a b rs st (some (.ref j10)) (some (.ref j11)) (some (.ref j)) none) (fun _=>rfl) (.lst (.cons (gg (.tup (.cons (vI rfl) (.cons (vI rfl) .nil))) (by decide)) (.cons (gg (.tup (.cons (vI rfl) (.cons (vS rfl) .nil))) (by decide)) (.cons (gg (.tup (.cons (vI rfl) .nil)) (by decide)) (.cons (LE.ge (.lst (.cons (vI rfl) (.cons cI .nil)))) (.cons (gg (.tup (.cons cI (.cons (vI rfl) (.cons (vI rfl) .nil)))) (by decide)) (.cons (gg (.tup (.cons (vI rfl) (.cons (vI rfl) .nil))) (by decide)) (.cons (gg (.tup (.cons (vI rfl) (.cons cN .nil))) (by decide)) .nil)))))))) fun j12 G4 L12=>?_;have L11:=L11.app G4;refine wLE (f:=fun j=>rB lw tl many ts ws ls a b rs st (some (.ref j10)) (some (.ref j)) (some (.ref j12)) none) (fun _=>rfl) (.add (.var rfl L11) (.comp (.var rfl L12) (by decide) rfl fun B' x gx=>gg (.tup (.cons (vI rfl) (.cons (gg (.add (.tup (.cons (.var rfl gx) .nil)) (vT rfl) (by decide)) (by decide)) (.cons (gg (vW rfl) (by decide)) (.cons (gg (vL rfl) (by decide)) .nil))))) (by decide)) (by decide)) fun j11 G5 L11=>?_;refine wLE (f:=fun j=>rB lw tl many ts ws ls a b rs st (some (.ref j10)) (some (.ref j)) (some (.ref j12)) none) (fun _=>rfl) (.add (.var rfl L11) (.lst (.cons (gg (.tup (.cons (vI rfl) (.cons (gg (.rev (vT rfl)) (by decide)) (.cons (gg (vW rfl) (by decide)) (.cons (gg (vL rfl) (by decide)) .nil))))) (by decide)) (.cons (gg (.tup (.cons (vI rfl) (.cons (gg (.add (vT rfl) (.cutB (k:=1) (vT rfl) (fun _=>rfl) (fun _=>rfl) xf) (by decide)) (by decide)) (.cons (gg (vW rfl) (by decide)) (.cons (gg (vL rfl) (by decide)) .nil))))) (by decide)) .nil))) (by decide)) fun j11 G6 L11=>?_;refine wLE (f:=fun j=>rB lw tl many ts ws ls a b rs st (some (.ref j10)) (some (.ref j11)) (some (.ref j12)) (some (.ref j))) (fun _=>rfl) (.lst (.cons (gg (.tup (.cons (vI rfl) (.cons (vI rfl) (.cons (vI rfl) .nil)))) (by decide)) (.cons (gg (.tup (.cons (vI rfl) (.cons (.of (fun _=>rfl) fun _=>.int (ws.length:Int)) (.cons cN .nil)))) (by decide)) (.cons (gg (.tup (.cons (vI rfl) (.cons (vI rfl) (.cons (vS rfl) .nil)))) (by decide)) (.cons (gg (.tup (.cons (vS rfl) (.cons (vI rfl) (.cons cN .nil)))) (by decide)) (.cons (gg (.tup (.cons (vI rfl) (.cons (vI rfl) .nil))) (by decide)) (.cons (gg (.tup (.cons (vI rfl) (.cons (vI rfl) (.cons cN .nil)))) (by decide)) .nil))))))) fun j13 G7 L13=>?_;have L11:=L11.app G7;refine wLE (f:=fun j=>rB lw tl many ts ws ls a b rs st (some (.ref j10)) (some (.ref j)) (some (.ref j12)) (some (.ref j13))) (fun _=>rfl) (.add (.var rfl L11) (.comp (.var rfl L13) (by decide) rfl fun B' x gx=>gg (.tup (.cons (vI rfl) (.cons (gg (vT rfl) (by decide)) (.cons (gg (vW rfl) (by decide)) (.cons (gg (.add (vL rfl) (.tup (.cons (.var rfl gx) .nil)) (by decide)) (by decide)) .nil))))) (by decide)) (by decide)) fun j11 G8 L11=>?_;refine wLE (f:=fun j=>rB lw tl many ts ws ls a b rs st (some (.ref j10)) (some (.ref j)) (some (.ref j12)) (some (.ref j13))) (fun _=>rfl) (.add (.var rfl L11) (.lst (.cons (gg (.tup (.cons (vI rfl) (.cons (gg (vT rfl) (by decide)) (.cons (gg (vW rfl) (by decide)) (.cons (gg (.rev (vL rfl)) (by decide)) .nil))))) (by decide)) (.cons (gg (.tup (.cons (vI rfl) (.cons (gg (vT rfl) (by decide)) (.cons (gg (vW rfl) (by decide)) (.cons (gg (.add (vL rfl) (.cutB (k:=1) (vL rfl) (fun _=>rfl) (fun _=>rfl) zK) (by decide)) (by decide)) .nil))))) (by decide)) .nil))) (by decide)) fun j11 G9 L11=>?_;have nT:∀{B:Sto} {ρ:Rho},GE B ρ (bw aB):=fun{_ _}=>gg (.tup .nil) (by decide);refine wLE (f:=fun j=>rB lw tl many ts ws ls a b rs st (some (.ref j10)) (some (.ref j)) (some (.ref j12)) (some (.ref j13))) (fun _=>rfl) (.add (.var rfl L11) (.lst (.cons (gg (.tup (.cons (vI rfl) (.cons (.list (vT rfl)) (.cons (gg (vW rfl) (by decide)) (.cons (gg (vL rfl) (by decide)) .nil))))) (by decide)) (.cons (gg (.tup (.cons (vI rfl) (.cons (gg (vT rfl) (by decide)) (.cons (.list (vW rfl)) (.cons (gg (vL rfl) (by decide)) .nil))))) (by decide)) (.cons (gg (.tup (.cons (vI rfl) (.cons (gg (vT rfl) (by decide)) (.cons nT (.cons nT .nil))))) (by decide)) .nil)))) (by decide)) fun j11 GA L11=>?_;refine wLE (f:=fun j=>rB lw tl many ts ws ls a b rs st (some (.ref j10)) (some (.ref j)) (some (.ref j12)) (some (.ref j13))) (fun _=>rfl) (.add (.var rfl L11) (.lst (.cons (gg (.tup (.cons (vI rfl) (.cons (gg (vT rfl) (by decide)) (.cons (gg (vW rfl) (by decide)) (.cons (.list (vL rfl)) .nil))))) (by decide)) (.cons (gg (.tup (.cons (vI rfl) (.cons (gg (vT rfl) (by decide)) (.cons (gg (vW rfl) (by decide)) .nil)))) (by decide)) (.cons (gg (.add (vA rfl) (.tup (.cons nT .nil)) (by decide)) (by decide)) (.cons (.list (vA rfl)) (.cons (.of (fun _=>rfl) fun _=>.non) .nil)))))) (by decide)) fun j11 GB L11=>?_;obtain⟨C,hC⟩:∃C,C=B++G1++G2++G3++G4++G5++G6++G7++G8++G9++GA++GB:=⟨_,rfl⟩;rw[<-hC]at L11 ⊢;have wC:∃z,C[lw]?=some (.lst [.int z]):=by
  obtain⟨z,h⟩:=W3.well;refine⟨z,?_⟩;rw[hC];simp only[QB];exact aD h
 obtain⟨vs,g1,n1,p1⟩:=L11;have n38:vs.length=38:=n1;obtain⟨q,D,e9,W9,l9,q0,q1⟩:=cE (m:=38) wC (by omega) (by omega);have hj:j11≠lw:=fun e=>by
  obtain⟨z,h⟩:=wC;rw[e,h]at g1;cases g1;cases n38
 have gD:D[j11]?=some (.lst vs):=W9.get g1 hj;have hq:q.toNat<vs.length:=by omega
 have hatq:atI vs q=some vs[q.toNat]:=by
  have:=d9 (Q7 hq);rw[Int.toNat_of_nonneg q0]at this;exact this
 have c38:((vs.length:Nat):Int)=38:=by rw[n38];rfl
 refine .of (r:=(.rt vs[q.toNat],rB lw tl many ts ws ls a b rs st (some (.ref j10)) (some (.ref j11)) (some (.ref j12)) (some (.ref j13)),D)) (by rwa[rB,g1,c38,e9,gD,hatq]) ?_;rwa[eJ];exact⟨(p1 _ (ZK hq)).wl W9,W9.well⟩
end
section
variable{ns:List Int}{lw:Nat}{many:Int}{tms:List (Int×Int)}{wr lk:List (List Int)}{S:Sto}
theorem nr{r:List Int}:∀S,∀u∈r.map U.int,Gs S u:=fun S u hu=>by
 obtain⟨i,_,rfl⟩:=Qh.mp hu;exact .int i
theorem rK:∀S,∀u∈tms.map pP,Gs S u:=fun S u hu=>by
 obtain⟨p,_,rfl⟩:=Qh.mp hu;exact .tup (fun u hu=>by
  simp only[QL,ZF,or_false]at hu;rcases hu with rfl|rfl
  ·exact .int _
  ·exact .int _) (by simp)
theorem u0(m1:many<=9){r:List Int}(h:(∀x∈r,0<=x/\x<many)/\r.Nodup):r.length<=30:=by
 have:=List.Nodup.length_le_of_subset (l₂:=(Qe many.toNat).map fun i:Nat=>(i:Int)) h.2 fun x hx=>Qh.mpr ⟨x.toNat,Ql.mpr (by have:=h.1 x hx;omega),by have:=h.1 x hx;omega⟩;rw[QZ,Za]at this;omega
theorem ivs(r:List Int):(r.map U.int).map iv=r:=by rw[Qs];exact List.map_id' r
theorem iX{lo hi i:Int}(h1:lo<=i)(h2:i<=hi):aT lo hi (.int i)=true:=by
 show(decide (lo<=i)&&decide (i<=hi))=true;rw[decide_eq_true h1,decide_eq_true h2];rfl
theorem zG(m0:1<=many)(m1:many<=9)(T:zW many tms wr lk)(A:Gi tms lk):iO (lJ many (.tup (tms.map pP)) wr lk)=true:=by
 show(aT 1 30 (.int many)&&(fk many (.tup (tms.map pP))&&(uh many (.tup (wr.map rwU))&&fM many (wr.map rwU) (.tup (lk.map rwU)))))=true;have h1:=iX (lo:=1) (hi:=30) m0 (by omega);have h2:fk many (.tup (tms.map pP))=true:=by
  show((tms.map pP).all (fc many)&&lG ((tms.map pP).map prv))=true;rw[Z0];constructor
  ·rw[Z8];intro x hx;obtain⟨p,hp,rfl⟩:=Qh.mp hx;have:=T.htm p hp;show((aT 0 (many-1) (.int p.1)&&aT 0 (many-1) (.int p.2))&&!decide (p.1=p.2))=true;rw[iX (by omega) (by omega),iX (by omega) (by omega),decide_eq_false this.2.2];rfl
  ·rw[Qs,sd,show tms.map (prv ∘ pP)=tms from List.map_id' tms];exact A.ta
 have h3:uh many (.tup (wr.map rwU))=true:=by
  show((decide (1<=(wr.map rwU).length)&&decide ((wr.map rwU).length<=6))&&(wr.map rwU).all (mf many))=true;rw[QZ,decide_eq_true T.hwl.1,decide_eq_true T.hwl.2,Bool.and_true,Qi,Z8];intro x hx;obtain⟨r,hr,rfl⟩:=Qh.mp hx;obtain⟨q1,q2⟩:=T.hwr r hr;show((r.map U.int).all (aT 0 (many-1))&&decide (((r.map U.int).map iv).Nodup))=true;rw[ivs,decide_eq_true q2,Bool.and_true,Z8];intro x hx;obtain⟨i,hi,rfl⟩:=Qh.mp hx;have:=q1 i hi;exact iX (by omega) (by omega)
 have h4:fM many (wr.map rwU) (.tup (lk.map rwU))=true:=by
  show((lk.map rwU).all (fN many (wr.map rwU))&&lG ((lk.map rwU).map prv))=true;rw[Z0];constructor
  ·rw[Z8];intro x hx;obtain⟨r,hr,rfl⟩:=Qh.mp hx;obtain⟨a,b,v,rfl,⟨a0,a1⟩,⟨b0,b1⟩,hv⟩:=T.hlk r hr;show(aT 0 (many-1) (.int a)&&(aT 0 (((wr.map rwU).length:Int)-1) (.int b)&&sC (gc (wr.map rwU) b) a (.int v)))=true;rw[iX (by omega) (by omega),iX (by omega) (by rw[QZ];omega),Qi,Qi];show(decide (v=-1)||(decide (v∈(gc (wr.map rwU) b).map iv)&&!decide (v=a)))=true;rcases hv with hv|⟨hv,hn⟩
   ·rw[decide_eq_true hv,Bool.true_or]
   ·have hb:b.toNat<wr.length:=by omega
    have er:gc (wr.map rwU) b=(wr.getD b.toNat []).map U.int:=by
     unfold gc;rw[QX,Qn,Q7 hb,QX,Q7 hb];rfl
    rw[er,ivs,decide_eq_true hv,decide_eq_false hn];simp
  ·rw[sd,Qs,ZC];refine A.la.imp_of_mem fun{r t} hr ht h=>?_;obtain⟨a,b,v,rfl,_⟩:=T.hlk r hr;obtain⟨a',b',v',rfl,_⟩:=T.hlk t ht;exact h
 rw[h1,h2,h3,h4];rfl
theorem zH(m1:many<=9)(T:zW many tms wr lk)(S:Sto):Gs S (lJ many (.tup (tms.map pP)) wr lk):=by
 refine .tup (fun u hu=>?_) (by simp);simp only[QL,ZF,or_false]at hu;rcases hu with rfl|rfl|rfl|rfl
 ·exact .int _
 ·exact .tup (rK S) (by rw[QZ];have:=T.htl;omega)
 ·refine .tup (fun u hu=>?_) (by rw[QZ];have:=T.hwl;omega);obtain⟨r,hr,rfl⟩:=Qh.mp hu;exact .tup (nr S) (by rw[QZ];have:=u0 m1 (T.hwr r hr);omega)
 ·refine .tup (fun u hu=>?_) (by rw[QZ];have:=T.hll;omega);obtain⟨r,hr,rfl⟩:=Qh.mp hu;obtain⟨a,b,v,rfl,_⟩:=T.hlk r hr;exact .tup (nr S) (by simp)
abbrev fL(f:Fn->Fn->Fn->Fn->Fn->CS):CS:=f xH sg nF o6 si
theorem nO(m0:1<=many)(m1:many<=9)(T:zW many tms wr lk)(r1:Option U):∀(us:List U) (Y:Sto) (r4 r5 r6:Option U),(∃z,Y[lw]?=some (.lst [.int z]))->
  ∃(Y':Sto) (q4 q5 q6:Option U),dA (fun _=>True) (gNm 4) (fL qm) us [some (.kl ns),r1,some (.ref lw),some (lJ many (.tup (tms.map pP)) wr lk),r4,r5,r6,none] Y=some (.nx,[some (.kl ns),r1,some (.ref lw),some (lJ many (.tup (tms.map pP)) wr lk),q4,q5,q6,none],Y')
 |[],Y,r4,r5,r6,_=>⟨Y,r4,r5,r6,eD trivial⟩
 |u::us,Y,r4,r5,r6,h=>by
  obtain⟨⟨x,Y1⟩,e1,gx,w1⟩:=C7 (ts:=tms.map pP) (ws:=wr.map rwU) (ls:=lk.map rwU) h m0 (by omega) rK (by rw[QZ];exact T.htl) (fun S u hu=>by
   obtain⟨r,hr,rfl⟩:=Qh.mp hu;obtain⟨a,b,v,rfl,_⟩:=T.hlk r hr;exact .tup (nr S) (by simp)) (by rw[QZ];exact T.hll) (by rw[QZ];exact T.hwl.1) (by rw[QZ];exact T.hwl.2) (fun w hw=>by
   obtain⟨r,hr,rfl⟩:=Qh.mp hw;exact⟨r.map U.int,rfl,by rw[QZ];exact u0 m1 (T.hwr r hr),nr⟩)
  dsimp only at gx w1;obtain⟨G1,e2⟩:=eV gx;obtain⟨G2,e3⟩:=AN (gx.app G1);obtain⟨z,hz⟩:=w1;obtain⟨Y',q4,q5,q6,ih⟩:=nO m0 m1 T r1 us (Y1++G1++G2) (some u) (some x) (some (.bl (iO x))) ⟨z,aD (aD hz)⟩;refine⟨Y',q4,q5,q6,(fK trivial rfl ?_).trans ih⟩;obtain⟨tl,htl⟩:∃tl,tl=lJ many (.tup (tms.map pP)) wr lk:=⟨_,rfl⟩;have e1':si [.ref lw,tl] Y=some (x,Y1):=by rw[htl];exact e1
  rw[<-htl];have t1:∀b T,tyU (.bl b) T=some .bool:=fun _ _=>rfl;have t2:xM .bool .bool=true:=rfl;generalize iO x=k at e2 e3;have dk:decide (k=k)=true:=decide_eq_true rfl;rw[QB]at e3 ⊢;rwa[fL,qm,e1',e2,e3,t1,t2,dk]
theorem AE:∀(is:List Nat) (T:Sto) (r1 r2 r3 r4 r5 r6:Option U),
  ∃(T':Sto) (q1 q2 q3 q4 q5 q6:Option U),dA (fun _=>True) (gNm 1) (fL ql) (is.map fun i:Nat=>U.int (i:Int)) [some (.kl ns),r1,r2,r3,r4,r5,r6,none] T=some (.nx,[some (.kl ns),q1,q2,q3,q4,q5,q6,none],T')
 |[],T,r1,r2,r3,r4,r5,r6=>⟨T,r1,r2,r3,r4,r5,r6,eD trivial⟩
 |i::is,T,r1,r2,r3,r4,r5,r6=>by
  obtain⟨z,e1⟩:=Bz (S:=T) ns (k:=(i:Int)) (by omega);obtain⟨many,tms,wr,lk,T3,e3,w3,m,ts,ta⟩:=yr (Y:=T++[.lst [.int z]]) (lw:=T.length) (most:=9) ⟨z,by rw[ga0];rfl⟩ (by omega) (by omega);have gt:=zH m.2.1 ts T3;have dt:=zG m.1 m.2.1 ts ta;obtain⟨G1,e4⟩:=eV gt;obtain⟨G2,e5⟩:=AN (gt.app G1);rw[dt]at e4 e5;obtain⟨zw,hw⟩:=w3.well;obtain⟨T4,s4,s5,s6,e6⟩:=nO (ns:=ns) (lw:=T.length) m.1 m.2.1 ts (some (.int (i:Int))) (bx 0 5) (T3++G1++G2) r4 r5 r6 ⟨zw,aD (aD hw)⟩;obtain⟨T',q1,q2,q3,q4,q5,q6,ih⟩:=AE is T4 (some (.int (i:Int))) (some (.ref T.length)) (some (lJ many (.tup (tms.map pP)) wr lk)) s4 s5 s6;refine⟨T',q1,q2,q3,q4,q5,q6,(fK trivial rfl ?_).trans ih⟩;obtain⟨tl,htl⟩:∃tl,tl=lJ many (.tup (tms.map pP)) wr lk:=⟨_,rfl⟩;rw[<-htl]at e3 e4 e5 e6 ⊢;have r5':cK (ag (cC (.int 5)) aB)=fun ρ S=>some (bx 0 5,fun _=>True,S):=rfl;have nb:∀T,gK (.bl true) (.bl true) T=some (.bl false,T):=fun T=>rfl;unfold fL ql;rw[yA (ρ':=[some (.kl ns),some (.int (i:Int)),some (.ref T.length),r3,r4,r5,r6,none]) (S':=T++[.lst [.int z]]) (by rwa[e1])];rw[yA (ρ':=[some (.kl ns),some (.int (i:Int)),some (.ref T.length),some tl,r4,r5,r6,none]) (S':=T3) (by rwa[e3])];rw[yA (ρ':=[some (.kl ns),some (.int (i:Int)),some (.ref T.length),some tl,r4,r5,r6,none]) (S':=T3++G1++G2) (by rwa[e4,nb,e5])];simp only[lR,r5',Q3];exact e6
def AV:U:=.tup [.int 30,.tup [.tup [.int 0,.int 29]],.tup [.tup [.int 29,.int 0],.tup [],.tup [],.tup [],.tup [],.tup []],.tup [.tup [.int 29,.int 0,.int (-1)]]]
def Gx:U:=.tup [.int 1,.tup [],.tup [.tup []],.tup []]
def ze:U:=.tup [.int 31,.tup [.tup [.int 0,.int 29]],.tup [.tup [.int 29,.int 0],.tup [],.tup [],.tup [],.tup [],.tup []],.tup [.tup [.int 29,.int 0,.int (-1)]]]
def GI:U:=.tup [.int 30,.tup [.tup [.int 0,.int 29]],.tup [.tup [],.tup [],.tup [],.tup [],.tup [],.tup [],.tup []],.tup []]
theorem fb{S:Sto}{u:U}{us:List U}(h:Gs S u)(k:∀x∈us,Gs S x):∀x∈u::us,Gs S x:=fun x hx=>by
 rcases QL.mp hx with rfl|hx
 ·exact h
 ·exact k x hx
theorem p6{S:Sto}:∀x∈([]:List U),Gs S x:=fun x hx=>by cases hx
theorem Fz(ns:List Int)(hl:ns.length<=63):∃ρ' S',(fL C6) [some (.kl ns),none,none,none,none,none,none,none] []=some (.rt (.bl true),ρ',S'):=by
 obtain⟨n,hn⟩:∃n:Int,n=(if (if (ns.length:Int)<12 then(ns.length:Int)else 12)>3 then(if (ns.length:Int)<12 then(ns.length:Int)else 12)else 3):=⟨_,rfl⟩;have n0:0<=n:=by rw[hn];split<;>(try split)<;>omega
 have n1:n<=1000:=by rw[hn];split<;>(try split)<;>omega
 obtain⟨T,q1,q2,q3,q4,q5,q6,e1⟩:=AE (ns:=ns) (Qe n.toNat) [] none none none none none none;have er:bx 0 n.toNat=(Qe n.toNat).map fun i:Nat=>U.int (i:Int):=by rw[kn,Qs];rfl
 have a1:ag (cCB GH (ag (cC (.int 3)) (ag (cCB GG (ag (cC (.int 12)) (ag (cCB gY (ag (ao 0) aB)) aB))) aB))) aB [some (.kl ns),none,none,none,none,none,none,none] []=some ([.int n],[]):=by
  have h1:∀i j:Int,GG [.int i,.int j] []=some (.int (if j<i then j else i),[]):=fun i j=>rfl;have h2:∀i j:Int,GH [.int i,.int j] []=some (.int (if j>i then j else i),[]):=fun i j=>rfl;rw[hn];rwa[t7,h1,h2]
 rw[<-er]at e1;have i2:∀{S:Sto} {a b:Int},Gs S (.tup [.int a,.int b]):=fun{_ _ _}=>.tup (fb (.int _) (fb (.int _) p6)) (by simp);have i3:∀{S:Sto} {a b c:Int},Gs S (.tup [.int a,.int b,.int c]):=fun{_ _ _ _}=>.tup (fb (.int _) (fb (.int _) (fb (.int _) p6))) (by simp);have i0:∀{S:Sto},Gs S (.tup []):=fun{_}=>.tup p6 (by simp);have six:∀{S:Sto},Gs S (.tup [.tup [.int 29,.int 0],.tup [],.tup [],.tup [],.tup [],.tup []]):=fun{_}=>.tup (fb i2 (fb i0 (fb i0 (fb i0 (fb i0 (fb i0 p6)))))) (by simp);obtain⟨G1,x1⟩:=eV (S:=T) (u:=AV) (.tup (fb (.int _) (fb (.tup (fb i2 p6) (by simp)) (fb six (fb (.tup (fb i3 p6) (by simp)) p6)))) (by simp));obtain⟨G2,x2⟩:=eV (S:=T++G1) (u:=Gx) (.tup (fb (.int _) (fb i0 (fb (.tup (fb i0 p6) (by simp)) (fb i0 p6)))) (by simp));obtain⟨G3,x3⟩:=eV (S:=T++G1++G2) (u:=ze) (.tup (fb (.int _) (fb (.tup (fb i2 p6) (by simp)) (fb six (fb (.tup (fb i3 p6) (by simp)) p6)))) (by simp));obtain⟨G4,x4⟩:=eV (S:=T++G1++G2++G3) (u:=GI) (.tup (fb (.int _) (fb (.tup (fb i2 p6) (by simp)) (fb (.tup (fb i0 (fb i0 (fb i0 (fb i0 (fb i0 (fb i0 (fb i0 p6))))))) (by simp)) (fb i0 p6)))) (by simp));have b1:iO AV=true:=by decide +kernel
 have b2:iO Gx=true:=by decide +kernel
 have b3:iO ze=false:=by decide +kernel
 have b4:iO GI=false:=by decide +kernel
 rw[b1]at x1;rw[b2]at x2;rw[b3]at x3;rw[b4]at x4;have nb:∀T,gK (.bl true) (.bl true) T=some (.bl false,T):=fun T=>rfl;have ib:∀T,F2 (.bl false) (.bl false) T=some (.bl true,T):=fun T=>rfl;have s7:∀ρ T,bw (ag (cC (.int 30)) (ag (bw (ag (bw (ag (cC (.int 0)) (ag (cC (.int 29)) aB))) aB)) (ag (cOp cT (bw (ag (bw (ag (cC (.int 29)) (ag (cC (.int 0)) aB))) aB)) (cOp tq (bw (ag (bw aB) aB)) (cC (.int 5)))) (ag (bw (ag (bw (ag (cC (.int 29)) (ag (cC (.int 0)) (ag (jN (cC (.int 1))) aB)))) aB)) aB)))) ρ T=some (AV,T):=fun ρ T=>rfl;have s8:∀ρ T,bw (ag (cC (.int 1)) (ag (bw aB) (ag (bw (ag (bw aB) aB)) (ag (bw aB) aB)))) ρ T=some (Gx,T):=fun ρ T=>rfl;have s9:∀T,cOp cT (bw (ag (cC (.int 31)) aB)) (kZ (ao 7) (some (cC (.int 1))) none) [some (.kl ns),q1,q2,q3,q4,q5,q6,some AV] T=some (ze,T):=fun T=>rfl;have s10:∀T,cOp cT (kZ (ao 7) none (some (cC (.int 2)))) (bw (ag (cOp tq (bw (ag (bw aB) aB)) (cC (.int 7))) (ag (bw aB) aB))) [some (.kl ns),q1,q2,q3,q4,q5,q6,some AV] T=some (GI,T):=fun T=>rfl;refine⟨[some (.kl ns),q1,q2,q3,q4,q5,q6,some AV],T++G1++G2++G3++G4,?_⟩;unfold fL C6;rw[yA ((KD a1 n0 n1).trans e1)];rw[yA (ρ':=[some (.kl ns),q1,q2,q3,q4,q5,q6,some AV]) (S':=T) (by rw[nG,s7];rfl)];generalize AV=v1 at *;generalize Gx=v2 at *;generalize ze=v3 at *;generalize GI=v4 at *;generalize hA:T++G1=A at *;generalize hB:A++G2=B at *;generalize hC:B++G3=C at *;generalize hD:C++G4=D at *;rwa[x1,nb,s8,x2,s9,x3,ib,s10,x4]
end
end OL
namespace OL
open PySem PySem.Spec PyProof.Rows L2 OG OP OQ
theorem Gh{l:PySem.W.OpenLaw}{w:Qm}{K:Q5}{h:Heap}{mg:Str->Option Q6}{fa:Addr}(X:K.In h)(G:h.Ns mainGlobals mg)(hfa:mg "law"=some (.ref fa))
  {tk1:Tok}
  {tk2:Tok}
  {tk3:Tok}
  (ds:Gm K [("is_whole",iQ),("is_within",gy),("is_time",kg),("is_rising",gC),("is_times",iR),("are_unlike",fF),("is_writers",fE),("is_source",gB),("is_look",ki),("is_looks",iS),("is_tale",kh),("_law_well",gE),("_law_sip",iT),("_law_whole",fG),("_law_mixed",fH),("_law_tale",gF),("_law_is_row",fe),("_law_is_look",eK),("_law_due",iU),("_law_bent",gG),("law",BQ)])
  (g1:PySem.W.nsIn K mainGlobals "MOST_BOXES"=some (some (.int (6) tk1)))
  (g2:PySem.W.nsIn K mainGlobals "AT_FIRST"=some (some (.int (-1) tk2)))
  (g3:PySem.W.nsIn K mainGlobals "MOST_ATTEMPTS"=some (some (.int (30) tk3)))
  (zs:GL K Ka) :
  ∃fd:Zp,(∀(s:QQ) (v:Q6),BindsTo s fd ⟨[v],[]⟩ [("script",v)])/\∀base:Heap,K.In base->base.Ns mainGlobals mg->pf l.prog w K mg base CX0 6 fa fd ["script"] (qH K):=by
 obtain⟨d_is_whole,d_is_within,d_is_time,d_is_rising,d_is_times,d_are_unlike,d_is_writers,d_is_source,d_is_look,d_is_looks,d_is_tale,d__law_well,d__law_sip,d__law_whole,d__law_mixed,d__law_tale,d__law_is_row,d__law_is_look,d__law_due,d__law_bent,d_law,-⟩:=ds;have C_MOST_BOXES:=Jq X G g1;have C_AT_FIRST:=Jq X G g2;have C_MOST_ATTEMPTS:=Jq X G g3;have B:=zs.blt X G;refine FA d_law X G hfa fun fd F_law base=>?_;have dP:=sT (P:=l.prog) (w:=w) (base:=base) (k:=0) (d_is_whole.df X G) B;have aN:=pT (P:=l.prog) (w:=w) (base:=base) (k:=1) (d_is_within.df X G) B dP;have lD:=wA (P:=l.prog) (w:=w) (base:=base) (k:=2) (d_is_time.df X G) B aN;have c6:=pW (P:=l.prog) (w:=w) (base:=base) (k:=0) (d_is_rising.df X G) B;have jd:=sU (P:=l.prog) (w:=w) (base:=base) (k:=3) (d_is_times.df X G) B lD (Has.mono c6 (by decide));have fU:=oD (P:=l.prog) (w:=w) (base:=base) (k:=2) (d_are_unlike.df X G) B aN;have fT:=oC (P:=l.prog) (w:=w) (base:=base) (k:=3) (d_is_writers.df X G) B C_MOST_BOXES (Has.mono aN (by decide)) fU;have gT:=pV (P:=l.prog) (w:=w) (base:=base) (k:=1) (d_is_source.df X G) B C_AT_FIRST dP;have lE:=wD (P:=l.prog) (w:=w) (base:=base) (k:=2) (d_is_look.df X G) B aN gT;have jg:=sV (P:=l.prog) (w:=w) (base:=base) (k:=3) (d_is_looks.df X G) B lE (Has.mono c6 (by decide));have du:=wB (P:=l.prog) (w:=w) (base:=base) (k:=4) (d_is_tale.df X G) B C_MOST_ATTEMPTS (Has.mono aN (by decide)) jd fT jg;have gU:=pX (P:=l.prog) (w:=w) (base:=base) (k:=0) (d__law_well.df X G) B;have aG:=sW (P:=l.prog) (w:=w) (base:=base) (k:=0) (d__law_sip.df X G) B;have bo:=oE (P:=l.prog) (w:=w) (base:=base) (k:=0) (d__law_whole.df X G) B;have fV:=oF (P:=l.prog) (w:=w) (base:=base) (k:=1) (fuel:=100) (d__law_mixed.df X G) B aG;have gW:=pY (P:=l.prog) (w:=w) (base:=base) (k:=2) (d__law_tale.df X G) B (Has.mono aG (by decide)) fV;have dM:=nq (P:=l.prog) (w:=w) (base:=base) (k:=1) (d__law_is_row.df X G) B bo;have eO:=lM (P:=l.prog) (w:=w) (base:=base) (k:=1) (d__law_is_look.df X G) B bo;have fZ:=sX (P:=l.prog) (w:=w) (base:=base) (k:=2) (d__law_due.df X G) B (Has.mono bo (by decide)) dM eO;have gX:=pZ (P:=l.prog) (w:=w) (base:=base) (k:=1) (d__law_bent.df X G) B aG;exact Ji (P:=l.prog) (w:=w) (base:=base) (k:=5) F_law B (Has.mono gU (by decide)) (Has.mono gW (by decide)) du (Has.mono fZ (by decide)) (Has.mono gX (by decide)) fun ns hl=>Fz ns hl
theorem Kn{l:PySem.W.OpenLaw}{q:Qu}{loose:List Str}{XP:(Str->Option Q6)->Heap->Prop}{YP:Qm->Heap->Prop}{d:DefRec}{K:Params->Q5}(hn:l.most=some 63)(hdf:d.params.defaults=[])
  (hY:∀(w:Qm) (h:Heap),YP w h->(K w.params).In h)
  (F:∀(w:Qm) (mg:Str->Option Q6) (fa:Addr) (h:Heap),(K w.params).In h->h.Ns mainGlobals mg->mg d.name=some (.ref fa)->
   ∃fd:Zp,(∀(s:QQ) (u:Q6),BindsTo s fd ⟨[u],[]⟩ [("script",u)])/\∀base:Heap,(K w.params).In base->base.Ns mainGlobals mg->pf l.prog w (K w.params) mg base CX0 6 fa fd ["script"] (qH (K w.params))) :
  PySem.W.WalkO q loose XP YP l.row.toRowW d [] (fun f vs=>PySem.call f vs):=
 L2.BA (n:=63) (k:=6) (x:="script") (CX:=fun _=>CX0) (sp:=fun w=>qH (K w.params)) hn (by decide) hdf ⟨rfl,by decide,by decide,rfl⟩ hY F (fun _ _ a ns hl hO hS=>⟨a,ns,rfl,IP hO hS,hl,fun _=>rfl⟩) fun _ _ _ _ _ z=>z
end OL
namespace PySem.W.Fast
def tw1105271152050267091:=0
def tw8453083964974102214:=0
def tw15474263783165966689:=0
def tw15813182501575120805:=0
def tw11572889795086747084:=0
def tw13681306545760793678:=0
def tw12699775854622362539:=0
def tw10817169515934258054:=0
def tw11505354125032079290:=0
def tw15055601614544905945:=0
def tw12551290997774218360:=0
def tw11954042453725184653:=0
def tw11029574138485416930:=0
def tw10022087838133111864:=0
def tw11005730073829819814:=0
def tw2537248376984673827:=0
def tw6013938338836379566:=0
def tw2493305149527515303:=0
def tw10477761025949434283:=0
def tw8997823963359254142:=0
def tw13245202475707552692:=0
def tw16691456310194943422:=0
def tw4678308930498403983:=0
def tw5020610739354918397:=0
def tw15955886928576139213:=0
def tw6318729012295744163:=0
def tw8954763762986076452:=0
def tw10425166578031319736:=0
def tw15075463121363219713:=0
def tw15573839065128198615:=0
def tw12276230082252914447:=0
def tw13384104705232397326:=0
def tw9198447083809794468:=0
def tw2774833758312437240:=0
def tw1472468358169667583:=0
def tw1660132830328284745:=0
def tw16879538128025910058:=0
def tw18180386155850483246:=0
def tw4186653188764357887:=0
def tw5551945538574130699:=0
def tw13792846162738851387:=0
def tw15939578685477319969:=0
def tw16907768396457388716:=0
def tw1694012283596371518:=0
def tw15886377024279057615:=0
def tw11955525733961708962:=0
def tw7092020263841380932:=0
def tw5691791178863459435:=0
def tw14111257736095450962:=0
def tw6672955725886783108:=0
def tw11550995241981228974:=0
def tw2704799200788734598:=0
def tw10731609091830438227:=0
def tw6176058350401718141:=0
def tw14495214976336481231:=0
def tw14853532318393719736:=0
def tw2677474391458467497:=0
def tw14811428284801394615:=0
def tw17510544801830252282:=0
def tw16943405544826222808:=0
def tw6209759145491222330:=0
def tw11075166135636821510:=0
def tw2142396401883412484:=0
def tw17341279229673991120:=0
def tw8509161351306028735:=0
def tw7541052981217786795:=0
def tw16351151989577173610:=0
def tw2680182542593246728:=0
def tw4197207788059911748:=0
def tw16112107241223403609:=0
def tw14459663658848899746:=0
def tw15605675495125209552:=0
def tw16196785955205252583:=0
def tw5960588150034522156:=0
def tw15364320247936866109:=0
def tw12018029095720331120:=0
def tw11378669405245381480:=0
def tw10439499882299384319:=0
def tw4208974496967613334:=0
def tw5590308650496418655:=0
def tw14524977134502152021:=0
def tw17208318033683427251:=0
end PySem.W.Fast
open PySem PySem.W PyProof.Rows
open OP in
set_option maxRecDepth 100000 in
set_option maxHeartbeats 0 in
theorem PySem.Challenge.cw_oneglance_k25_what_is_a_tale_holds : PySem.Challenge.rw_oneglance_k25_what_is_a_tale.Holds := by
 w_on; o_law; k_head; (case hw => w_witness2)
 k_fill
 refine OL.Kn (l := PySem.Challenge.rw_oneglance_k25_what_is_a_tale) rfl rfl (fun w h Y => PySem.W.kIn_of Y) ?F;case F =>
  intro w mg fa h KX G hmg;refine' OL.Gh KX G hmg ?ds ?g1 ?g2 ?g3 ?zs
  (case ds => (repeat (refine' ⟨KG ?a ?l ?c ?k, ?_⟩; (case a => k_is); (case l => k_is); (case c => k_is); (case k => k_is))); exact trivial)
  (case g1 => k_is)
  (case g2 => k_is)
  (case g3 => k_is)
  (case zs => (repeat (refine' ⟨?a, ?_⟩; (case a => k_is))); exact trivial)
