import PyProof.Rows.All
import Wide.All
import OpenK.AllK
import Wide.FinOn
import Lean
import PyProof.EqAt
import PyProof.EqKinds
import PyProof.TupleCall
import PySem.Challenge.RW_oneglance_k28_order_or_ring
local macro_rules|`(tactic|trivial)=>`(tactic|exact Or.inl rfl)
local macro_rules|`(tactic|trivial)=>`(tactic|exact Or.inr rfl)
set_option maxHeartbeats 4000000
set_option Elab.async false
set_option linter.all false
set_option maxRecDepth 100000
set_option bootstrap.genMatcherCode false
set_option genSizeOf false
set_option compiler.extract_closed false
set_option backward.eqns.nonrecursive false
noncomputable section
open PySem renaming wpAny_bind→Q0, wpAny_pure→Q6, wpAny_mono→ZE, wpAny_field→ZD, wpAny_rule→XC
open Option renaming bind_eq_some_iff→Q2, bind_some→QQ, map_eq_some_iff→Qs, getD_some→ZX
open PySem.Heap renaming get?_push_of_some→Q3, lt_size→QV, get?_push_size→QU, get?_update_self→Zr, size_push→Zu, get?_update_other→Zp, size_update→XA, SameBut→XI
open List renaming getElem?_eq_getElem→Q4, getElem?_eq_some_iff→Q7, append_assoc→Q8, getD_eq_getElem?_getD→Q9, length_append→QZ, length_map→QX, getElem?_append_right→QK, mem_cons_self→QB, length_cons→QH, getElem?_append_left→QD, mem_cons_of_mem→QF, size_toArray→QM, mem_append→QN, mem_append_right→QL, range→Qz, map_cons→Qx, cons_append→Qv, mem_cons→Qk, mem_range→Qy, getElem?_map→Qb, mem_singleton→Qg, pairwise_append→Qh, map_map→Qe, getElem?_cons_succ→Qd, getElem?_set_ne→Qa, mem_map→Qc, mem_append_left→Qm, append_nil→Qn, length_take→Qp, map_append→Qt, pairwise_iff_getElem→Ql, length_singleton→Qo, length_range'→Z0, nil_append→ZZ, take_append_drop→ZK, getElem_mem→ZR, getElem?_eq_none→ZU, getElem?_cons_zero→ZH, mem_of_mem_drop→ZF, mem_of_getElem?→ZT, take_of_length_le→ZI, take_sublist→ZS, idxOf_lt_length_of_mem→Zq, getElem?_set→Zz, mem_filter→Zv, flatMap_append→Zk, pairwise_map→Zy, ext_getElem?→Zw, nodup_cons→Zb, pairwise_cons→Zg, nodup_range→Zh, getElem?_of_mem→Ze, replicate→Za, nodup_iff_pairwise_ne→Zc, length_range→Zm, drop_sublist→Zn, find?_cons→Zl, getElem?_zip_eq_some→Zo, length_drop→Zs, mem_of_mem_take→X3, eq_nil_of_length_eq_zero→X4, pairwise_singleton→X5, not_mem_nil→X9, getElem?_drop→XQ, drop_zero→XZ, length_filter_le→XJ, length_set→XY, map_nil→XU, flatMap_cons→XB, any_cons→XH, map_congr_left→XE, getElem?_range→XD, getElem?_replicate→XF, set_cons_zero→XT, set_append_right→XO, nodup_append→XS, perm_ext_iff_of_nodup→Xz
open PySem.W renaming Frag→Q5
open Nat renaming le_refl→QJ, ne_of_lt→Qj, lt_of_lt_of_le→Qw, le_trans→Qu, zero_le→Qi, add_sub_cancel_left→Zj, le_of_lt→Zf, ne_of_gt→X0, lt_or_ge→X1, zero_add→X6, le_add_right→X8, lt_succ_of_lt→XW, le_succ→XR, not_lt→XG, sub_self→XM, lt_of_le_of_ne→XN
open Array renaming length_toList→QY, getElem?_eq_getElem→QR, getElem?_toList→QC, toList_append→ZY, getD_eq_getD_getElem?→ZC, getElem?_eq_some_iff→Zt, getElem?_eq_none→X7, getD→XX, toList_push→Xq, toList_reverse→Xx
open Bool renaming false_ne_true→Qq, false_eq_true→Qr, eq_iff_iff→Zi
open Int renaming toNat_natCast→Zx
namespace L2
open PySem PySem.Spec PyProof.Rows
abbrev Key:=Sum Int Str
def mD:Key->Value->Bool
 |.inl k,v=>Value.isInt k v
 |.inr x,v=>Value.isStrOf x v
def Kk(w:World):Key->Int
 |.inl k=>hashInt k
 |.inr x=>hashStr w x
theorem aU:∀{k:Key} {v:Value},mD k v=true->(∃i t,k=Sum.inl i/\v=Value.int i t)\/(∃x t,k=Sum.inr x/\v=Value.str x t)
 |.inl i,v,h=>by
  obtain⟨t,e⟩:=Value.isInt_shape (k:=i) (v:=v) h;exact .inl ⟨i,t,rfl,e⟩
 |.inr x,v,h=>by
  obtain⟨t,e⟩:=Value.isStrOf_shape (x:=x) (v:=v) h;exact .inr ⟨x,t,rfl,e⟩
theorem vY(i:Int)(t:Tok):mD (.inl i) (.int i t)=true:=by simp[mD,Value.isInt]
theorem vX(x:Str)(t:Tok):mD (.inr x) (.str x t)=true:=by simp[mD,Value.isStrOf]
theorem Gi(a b:Int):decide ((Sum.inl a:Key)=Sum.inl b)=(a == b):=by
 by_cases e:a=b
 ·subst e;simp
 ·have h:¬(Sum.inl a:Key)=Sum.inl b:=fun q=>e (Sum.inl.inj q);rw[decide_eq_false h];exact(beq_eq_false_iff_ne.mpr e).symm
theorem Gf(a b:Str):decide ((Sum.inr a:Key)=Sum.inr b)=decide (a=b):=by
 by_cases e:a=b
 ·subst e;simp
 ·have h:¬(Sum.inr a:Key)=Sum.inr b:=fun q=>e (Sum.inr.inj q);rw[decide_eq_false h,decide_eq_false e]
theorem Gh(a:Int)(b:Str):decide ((Sum.inl a:Key)=Sum.inr b)=false:=decide_eq_false (fun q=>nomatch q)
theorem Gg(a:Str)(b:Int):decide ((Sum.inr a:Key)=Sum.inl b)=false:=decide_eq_false (fun q=>nomatch q)
def bB(prog:Program)(w:World):PySem.KeyKind prog w Key where
 is:=mD
 hash:=Kk w
 inj:=fun v a b ha hb=>by
  rcases aU ha with⟨i,t,rfl,rfl⟩|⟨x,t,rfl,rfl⟩
  ·rcases aU hb with⟨j,u,rfl,e⟩|⟨y,u,rfl,e⟩
   ·injection e with e1 _;rw[e1]
   ·exact nomatch e
  ·rcases aU hb with⟨j,u,rfl,e⟩|⟨y,u,rfl,e⟩
   ·exact nomatch e
   ·injection e with e1 _;rw[e1]
 byValue:=fun k v h=>by
  rcases aU h with⟨i,t,rfl,rfl⟩|⟨x,t,rfl,rfl⟩<;>rfl
 pyHash:=fun hv h=>by
  rcases aU hv with⟨i,t,rfl,rfl⟩|⟨x,t,rfl,rfl⟩
  ·exact wpAny_pyHash_int h
  ·exact wpAny_pyHash_str h
 eqBool:=fun hu hv h=>by
  rcases aU hu with⟨i,t,rfl,rfl⟩|⟨x,t,rfl,rfl⟩
  ·rcases aU hv with⟨j,u,rfl,rfl⟩|⟨y,u,rfl,rfl⟩
   ·rw[Gi]at h;exact wpAny_eqBool_int h
   ·rw[Gh]at h;exact SeqAt.EqAt.int_str i t y u _ _ _ _ h
  ·rcases aU hv with⟨j,u,rfl,rfl⟩|⟨y,u,rfl,rfl⟩
   ·rw[Gg]at h;exact SeqAt.EqAt.str_int x t j u _ _ _ _ h
   ·rw[Gf]at h;exact wpAny_eqBool_str h
 «strs»:=fun k x t v h=>by
  rcases aU h with⟨i,u,rfl,e⟩|⟨y,u,rfl,e⟩
  ·exact nomatch e
  ·injection e with e1 _;subst e1;cases v<;>rfl
theorem pL(prog:Program)(w:World)(i:Int)(t:Tok):(bB prog w).is (.inl i) (.int i t)=true:=vY i t
theorem pK(prog:Program)(w:World)(x:Str)(t:Tok):(bB prog w).is (.inr x) (.str x t)=true:=vX x t
inductive V where
 |non|bl (b:Bool)|int (i:Int)|str (x:Str)|byt (b:Array UInt8)|flt (b:UInt64)|ref (a:Addr)|ty (n:String)
 deriving DecidableEq
def bR:V->Value->Prop
 |.non,u=>u=Value.none
 |.bl b,u=>u=Value.bool b
 |.int i,u=>∃t,u=Value.int i t
 |.str x,u=>∃t,u=Value.str x t
 |.byt b,u=>∃t,u=Value.bytes b t
 |.flt b,u=>∃t,u=Value.float b t
 |.ref a,u=>u=Value.ref a
 |.ty n,u=>u=Value.type n
abbrev aX:List V->List Value->Prop:=Paired bR
theorem aX.length{xs:List V}{us:List Value}(r:aX xs us):xs.length=us.length:=Paired.length r
theorem aX.get:∀{xs:List V} {us:List Value} {i:Nat} {x:V},aX xs us->xs[i]?=some x->∃u,us[i]?=some u/\bR x u
 |_,_,_,_,.nil,e=>by simp at e
 |_,_,0,_,.cons r _,e=>by simp at e;subst e;exact⟨_,rfl,r⟩
 |_,_,i+1,x,.cons _ t,e=>by
  obtain⟨u,h1,h2⟩:=aX.get (i:=i) (x:=x) t (by simpa using e);exact⟨u,by simpa using h1,h2⟩
theorem aX.set{x:V}{u:Value}(r:bR x u):∀{xs:List V} {us:List Value} (i:Nat),aX xs us->aX (xs.set i x) (us.set i u)
 |_,_,_,.nil=>.nil
 |_,_,0,.cons _ t=>.cons r t
 |_,_,i+1,.cons q t=>.cons q (aX.set r i t)
theorem aX.append:∀{xs ys:List V} {us ws:List Value},aX xs us->aX ys ws->aX (xs++ys) (us++ws)
 |_,_,_,_,.nil,s=>s
 |_,_,_,_,.cons r t,s=>.cons r (aX.append t s)
theorem aX.take:∀{xs:List V} {us:List Value} (n:Nat),aX xs us->aX (xs.take n) (us.take n)
 |_,_,0,_=>.nil
 |_,_,_+1,.nil=>.nil
 |_,_,n+1,.cons r t=>.cons r (aX.take n t)
theorem aX.drop:∀{xs:List V} {us:List Value} (n:Nat),aX xs us->aX (xs.drop n) (us.drop n)
 |_,_,0,r=>r
 |_,_,_+1,.nil=>.nil
 |_,_,n+1,.cons _ t=>aX.drop n t
def tV:Option V->Option Value->Prop
 |some v,some u=>bR v u
 |none,none=>True
 |_,_=>False
def KV{κ:Type}:List (κ×V)->List (κ×Value)->Prop:=Paired fun(p:κ×V) (q:κ×Value)=>p.1=q.1/\bR p.2 q.2
noncomputable def kV:Key->V
 |.inl i=>.int i
 |.inr x=>.str x
inductive HO where
 |lst (xs:List V)
 |tup (xs:List V)
 |dK (kvs:List (Key×V))|dT (kvs:List (List Key×V))
 |set (S:Int->Bool) (n:Nat)
 |ins (C dx:Addr) (fs:List (Str×V))
 |own (x:Addr)
 |xd (fs:List (Str×V))
 |met (f x:Addr)
 |rng (lo hi:Int)
 |frz (o:Obj) (u:HO)
 |tbl (ps:Array Value)
 |ext (φ:Heap->Prop)
abbrev Hp:=Addr->Option HO
def upd(H:Hp)(a:Addr)(o:HO):Hp:=fun b=>if b=a then some o else H b
theorem aH{H:Hp}{a:Addr}{o:HO}:upd H a o a=some o:=by unfold upd;rw[if_pos rfl]
theorem aQ{H:Hp}{a b:Addr}{o:HO}(h:b≠a):upd H a o b=H b:=by unfold upd;rw[if_neg h]
theorem IQ{H:Hp}{a b:Addr}{o u:HO}(h:H a=some o)(h':H b=some u)(d:o≠u):a≠b:=by
 intro e;subst e;rw[h]at h';exact d (Option.some.inj h')
theorem b6{H:Hp}{a b:Addr}{o:HO}(h:H a=some o)(h':H b=none):a≠b:=by
 intro e;subst e;rw[h]at h';cases h'
section
variable(P:Program)(w:World)
def bF(H:Hp)(h:Heap)(a:Addr):HO->Prop
 |.lst xs=>xs.length<=sizeLine/\∃(its:List Value) (n:Nat),aX xs its/\h.get? a=some { cls:=.type "list",data:=.seq its.toArray n }
 |.tup xs=>xs.length<=sizeLine/\∃its:List Value,aX xs its/\IsTup h a its.toArray
 |.dK kvs=>kvs.length<=sizeLine/\(a == sysModules)=false/\∃vs,KV kvs vs/\h.DictOf (bB P w) a vs
 | .dT kvs=>kvs.length<=sizeLine/\(a == sysModules)=false/\∃xs:List (List Key×Addr×Value),
   Paired (fun(p:List Key×V) (q:List Key×Addr×Value)=>p.1=q.1/\H q.2.1=some (.tup (p.1.map kV))/\bR p.2 q.2.2) kvs xs/\
   ∃o es ep,h.get? a=some o/\o.ExactDict/\o.data=.dict es ep/\es.toList=xs.map (entryOfKey (tupleKind (bB P w)))/\(xs.map (·.1)).Nodup
 |.set S n=>h.SetOf (intKind P w) a S n
 | .ins C dx fs=>H dx=some (.own a)/\fs.length<=1000/\dx≠a/\h.get? a=some (PySem.W.instObj C dx)/\
   ∃mA,h.Ns1 dx mA/\(∀f,tV (fs.lookup f) (mA f))/\PySem.Within mA (fs.map (·.1))
 |.own _=>∃o,h.get? a=some o
 |.xd fs=>∃mA,h.Ns1 a mA/\∀f,tV (fs.lookup f) (mA f)
 |.rng lo hi=>∃t u v,h.get? a=some { cls:=.type "range",data:=.fields #[.int lo t,.int hi u,.int 1 v] }
 |.frz o u=>h.get? a=some o/\bF H h a u
 |.tbl ps=>h.get? a=some { cls:=.none,data:=.fields ps }
 |.met f x=>h.get? a=some (PySem.W.methodObj (.ref f) (.ref x))
 |.ext φ=>φ h/\(∃o,h.get? a=some o)/\∀h1 h2:Heap,φ h1->(∀o,h1.get? a=some o->h2.get? a=some o)->φ h2
def HOk(H:Hp)(h:Heap):Prop:=∀a o,H a=some o->bF P w H h a o
end
variable{P:Program}{w:World}{H H':Hp}{h h':Heap}{a:Addr}{o:HO}
theorem bF.lt(x:bF P w H h a o):a<h.objs.size:=by
 cases o with
 |lst xs=>obtain⟨_,_,_,_,e⟩:=x;exact QV e
 |tup xs=>obtain⟨_,_,_,p⟩:=x;exact p.lt
 |dK kvs=>obtain⟨_,_,_,_,o,_,_,e,_⟩:=x;exact QV e
 |dT kvs=>obtain⟨_,_,_,_,o,_,_,e,_⟩:=x;exact QV e
 |set S n=>obtain⟨o,_,_,_,e,_⟩:=x;exact QV e
 |ins C dx fs=>obtain⟨_,_,_,e,_⟩:=x;exact QV e
 |own y=>obtain⟨_,e⟩:=x;exact QV e
 |xd fs=>obtain⟨_,⟨_,_,_,e,_⟩,_⟩:=x;exact QV e
 |rng lo hi=>obtain⟨_,_,_,e⟩:=x;exact QV e
 |frz ob u=>obtain⟨e,_⟩:=x;exact QV e
 |tbl ps=>exact QV (show h.get? a=some _ from x)
 |met f y=>exact QV (show h.get? a=some _ from x)
 |ext φ=>obtain⟨_,⟨_,e⟩,_⟩:=x;exact QV e
theorem Paired.mapP{α β:Type}{F G:α->β->Prop}:∀{l₁:List α} {l₂:List β},Paired F l₁ l₂->(∀a b,F a b->G a b)->Paired G l₁ l₂
 |_,_,.nil,_=>.nil
 |_,_,.cons r t,f=>.cons (f _ _ r) (Paired.mapP t f)
theorem bF.stay(x:bF P w H h a o)(k:∀b u,(b=a\/H b=some (.own a))->h.get? b=some u->h'.get? b=some u)
  (ho:∀b,H b=some (.own a)->H' b=some (.own a)) (ht:∀b xs,H b=some (.tup xs)->H' b=some (.tup xs)):bF P w H' h' a o:=by
 induction o with
 |lst xs=>obtain⟨z,its,n,r,e⟩:=x;exact⟨z,its,n,r,k _ _ (.inl rfl) e⟩
 |tup xs=>obtain⟨z,its,r,ob,e,c⟩:=x;exact⟨z,its,r,ob,k _ _ (.inl rfl) e,c⟩
 |dK kvs=>obtain⟨z,y,vs,r,ob,es,ep,e,c⟩:=x;exact⟨z,y,vs,r,ob,es,ep,k _ _ (.inl rfl) e,c⟩
 |dT kvs=>
  obtain⟨z,y,xs,r,ob,es,ep,e,c⟩:=x;exact⟨z,y,xs,Paired.mapP r fun p q z=>⟨z.1,ht _ _ z.2.1,z.2.2⟩,ob,es,ep,k _ _ (.inl rfl) e,c⟩
 |set S n=>obtain⟨ob,es,ep,t,e,c⟩:=x;exact⟨ob,es,ep,t,k _ _ (.inl rfl) e,c⟩
 |ins C dx fs=>
  obtain⟨d,z,ne,e,mA,⟨od,es,ep,e2,c⟩,r⟩:=x;exact⟨ho _ d,z,ne,k _ _ (.inl rfl) e,mA,⟨od,es,ep,k _ _ (.inr d) e2,c⟩,r⟩
 |own y=>obtain⟨ob,e⟩:=x;exact⟨ob,k _ _ (.inl rfl) e⟩
 |xd fs=>obtain⟨mA,⟨od,es,ep,e,c⟩,r⟩:=x;exact⟨mA,⟨od,es,ep,k _ _ (.inl rfl) e,c⟩,r⟩
 |rng lo hi=>obtain⟨t,u,v,e⟩:=x;exact⟨t,u,v,k _ _ (.inl rfl) e⟩
 |frz ob u ih=>obtain⟨e,q⟩:=x;exact⟨k _ _ (.inl rfl) e,ih q⟩
 |tbl ps=>
  have e:h.get? a=some { cls:=.none,data:=.fields ps }:=x;show h'.get? a=some { cls:=.none,data:=.fields ps };exact k a _ (.inl rfl) e
 |met f y=>
  have e:h.get? a=some (PySem.W.methodObj (.ref f) (.ref y)):=x;show h'.get? a=some (PySem.W.methodObj (.ref f) (.ref y));exact k a _ (.inl rfl) e
 |ext φ=>obtain⟨p,⟨o,e⟩,st⟩:=x;exact⟨st _ _ p fun o q=>k _ _ (.inl rfl) q,⟨o,k _ _ (.inl rfl) e⟩,st⟩
theorem HOk.lt(x:HOk P w H h)(e:H a=some o):a<h.objs.size:=(x a o e).lt
theorem HOk.fresh(x:HOk P w H h)(e:h.objs.size<=a):H a=none:=by
 cases q:H a with
 |none=>rfl
 |some u=>exact absurd (Qw (x.lt q) e) (Nat.lt_irrefl _)
theorem HOk.kept(x:HOk P w H h)(k:∀b u,h.get? b=some u->h'.get? b=some u):HOk P w H h':=fun a o e=>
 (x a o e).stay (fun b u _ q=>k b u q) (fun _ q=>q) fun _ _ q=>q
theorem HOk.laid(x:HOk P w H h)(k:∀b u,h.get? b=some u->h'.get? b=some u)(hp:h.objs.size<=a)(new:bF P w (upd H a o) h' a o):HOk P w (upd H a o) h':=fun b u e=>by
 have hn:=x.fresh hp;by_cases hb:b=a
 ·subst hb;rw[aH]at e;cases e;exact new
 ·rw[aQ hb]at e;exact(x b u e).stay (fun c v _ q=>k c v q) (fun c q=>by rw[aQ (b6 q hn)];exact q) fun c xs q=>by rw[aQ (b6 q hn)];exact q
def Rd(H:Hp)(a:Addr)(u:HO):Prop:=H a=some u\/∃o,H a=some (.frz o u)
theorem Rd.ok{P:Program}{w:World}{H:Hp}{h:Heap}{a:Addr}{u:HO}(r:Rd H a u)(x:HOk P w H h):bF P w H h a u:=by
 rcases r with r|⟨o,r⟩
 ·exact x a u r
 ·obtain⟨_,q⟩:=x a _ r;exact q
def Mut:Option HO->Prop
 |some (.lst _)=>True
 |some (.dK _)=>True
 |some (.dT _)=>True
 |some (.set _ _)=>True
 |some (.ins _ _ _)=>True
 |some (.ext _)=>True
 |_=>False
variable{x e:Addr}
section
variable{o':HO}
theorem HOk.write(ok:HOk P w H h)(mu:Mut (H x))(he:e=x\/H e=some (.own x))(k:∀b u,b≠e->h.get? b=some u->h'.get? b=some u)(heo:∃u,h'.get? e=some u)
  (new:bF P w (upd H x o') h' x o'):HOk P w (upd H x o') h':=fun b u q=>by
 have nown:∀c y,H c=some (.own y)->c≠x:=fun c y r z=>by subst z;rw[r]at mu;exact mu
 have ntup:∀c xs,H c=some (.tup xs)->c≠x:=fun c xs r z=>by subst z;rw[r]at mu;exact mu
 by_cases hb:b=x
 ·subst hb;rw[aH]at q;cases q;exact new
 ·rw[aQ hb]at q;by_cases hbe:b=e
  ·have q':H b=some (.own x):=by
    rcases he with z|z
    ·exact absurd (hbe.trans z) hb
    ·rw[hbe];exact z
   rw[q]at q';cases q';obtain⟨v,hv⟩:=heo;exact⟨v,by rw[hbe];exact hv⟩
  ·refine(ok b u q).stay (fun c v hc r=>k c v ?_ r) (fun c r=>by rw[aQ (nown c b r)];exact r) fun c xs r=>by rw[aQ (ntup c xs r)];exact r
   rcases hc with rfl|hc
   ·exact hbe
   ·rintro rfl;rcases he with z|z
    ·exact nown c b hc z
    ·rw[hc]at z;cases z;exact hb rfl
end
structure Un(fs ex:List Addr)(H H':Hp)(h h':Heap):Prop where
 keep:∀b o,h.get? b=some o->H b=none->b∉fs->b∉ex->h'.get? b=some o
 slot:∀b o,h.get? b=some o->H b=none->b∈fs->b∉ex->∃sl,h'.get? b=some { o with slots:=sl }
 free:∀b o,h.get? b=some o->H b=none->b∉ex->H' b=none
 there:∀b o,h.get? b=some o->b∉ex->∃o',h'.get? b=some o'
 tups:∀b xs,H b=some (.tup xs)->H' b=some (.tup xs)
 frzs:∀b o u,H b=some (.frz o u)->H' b=some (.frz o u)
 tbls:∀b ps,H b=some (.tbl ps)->∃more,H' b=some (.tbl (ps++more))
section
variable{fs ex:List Addr}{H1:Hp}{h1:Heap}
theorem Un.any(u:Un fs ex H H1 h h1){b:Addr}{ob:Obj}(q:h.get? b=some ob)(n:H b=none)(hx:b∉ex):∃sl,h1.get? b=some { ob with slots:=sl }:=by
 by_cases hb:b∈fs
 ·exact u.slot b ob q n hb hx
 ·exact⟨ob.slots,u.keep b ob q n hb hx⟩
theorem Un.kept(k:∀b u,h.get? b=some u->h'.get? b=some u):Un fs ex H H h h':=
 ⟨fun b ob q _ _ _=>k b ob q,fun b ob q _ _ _=>⟨ob.slots,k b ob q⟩,fun _ _ _ n _=>n,fun b ob q _=>⟨ob,k b ob q⟩,fun _ _ q=>q,fun _ _ _ q=>q,fun _ ps q=>⟨#[],by rw[q];simp⟩⟩
theorem Un.refl:Un fs ex H H h h:=Un.kept fun _ _ q=>q
theorem Un.laid(k:∀b u,h.get? b=some u->h'.get? b=some u)(hp:h.objs.size<=a)(hn:H a=none):Un fs ex H (upd H a o) h h' where
 keep:=fun b u q _ _ _=>k b u q
 slot:=fun b u q _ _ _=>⟨u.slots,k b u q⟩
 free:=fun b u q n _=>by rw[aQ (Qj (Qw (QV q) hp))];exact n
 there:=fun b u q _=>⟨u,k b u q⟩
 tups:=fun b xs q=>by rw[aQ (b6 q hn)];exact q
 frzs:=fun b u xs q=>by rw[aQ (b6 q hn)];exact q
 tbls:=fun b ps q=>⟨#[],by rw[aQ (b6 q hn),q];simp⟩
theorem Un.write(mu:Mut (H x))(he:e=x\/H e=some (.own x))(k:∀b u,b≠e->h.get? b=some u->h'.get? b=some u)(heo:∃u,h'.get? e=some u):Un fs ex H (upd H x o) h h':=by
 have hx:∀b,H b=none->b≠x:=fun b n z=>by subst z;rw[n]at mu;exact mu
 have hb:∀b,H b=none->b≠e:=fun b n z=>by
  subst z;rcases he with r|r
  ·exact hx b n r
  ·rw[n]at r;cases r
 have hm:∀b u,H b=some u->¬Mut (some u)->b≠x:=fun b u q nm z=>by subst z;rw[q]at mu;exact nm mu
 refine⟨fun b u q n _ _=>k b u (hb b n) q,fun b u q n _ _=>⟨u.slots,k b u (hb b n) q⟩,fun b u q n _=>by rw[aQ (hx b n)];exact n,fun b u q _=>?_,
  fun b xs q=>by rw[aQ (hm b _ q fun z=>z)];exact q,fun b u xs q=>by rw[aQ (hm b _ q fun z=>z)];exact q,fun b ps q=>⟨#[],by rw[aQ (hm b _ q fun z=>z),q];simp⟩⟩
 by_cases hbe:b=e
 ·subst hbe;exact heo
 ·exact⟨u,k b u hbe q⟩
end
def trk(h:Heap)(H:Hp):List Addr:=(Qz h.objs.size).filter fun a=>(H a).isSome
def zE(h:Heap)(H:Hp):Heap:=PySem.W.hideAll h (trk h H)
theorem wo(h:Heap)(H:Hp):(zE h H).objs.size=h.objs.size:=PySem.W.hideAll_size _ _
theorem zD{h:Heap}{H:Hp}{b:Addr}{o:Obj}(e:h.get? b=some o)(n:H b=none):(zE h H).get? b=some o:=
 PySem.W.hideAll_get _ e fun hm=>by
  have q:(H b).isSome=true:=(Zv.mp hm).2;rw[n]at q;simp at q
theorem C5{h:Heap}{H:Hp}{b:Addr}{o:Obj}(e:(zE h H).get? b=some o):h.get? b=some o/\H b=none:=by
 have e':h.get? b=some o:=PySem.W.of_hideAll (trk h H) e;refine⟨e',?_⟩;cases q:H b with
 |none=>rfl
 |some x=>
  have hm:b∈trk h H:=Zv.mpr ⟨Qy.mpr (QV e'),by simp[q]⟩;have z:(zE h H).get? b=none:=PySem.W.hideAll_none (trk h H) hm;rw[z]at e;cases e
structure Mod(K:Q5)(mg:Str->Option Value)(base:Heap):Prop where
 kin:K.In base
 glob:base.Ns mainGlobals mg
 blt:∃mb,base.Ns builtinsNs mb/\∀x:Str,x≠"__name__"->mb x=bootBuiltins x
 nolimit:base.NoLimit
structure Cx where
 prog:Program
 w:World
 K:Q5
 mg:Str->Option Value
 base:Heap
 A:Around
 N:List Str
 s₀:Shared
 H₀:Hp
 env:Env
 outer:List Env
 stack:List Env
 ex:List Addr
 fn:Str->Bool
 calm:Bool
 pn:List (Addr×Obj)
 xe:Value->Shared->Prop
def frs(l:List Env):List Addr:=l.filterMap (·.frame)
abbrev Cx.fs(X:Cx):List Addr:=frs X.outer
def Vis(sc:Scope)(x:Str):Prop:=sc.names.lookup x=some .local\/sc.names.lookup x=some .cell\/sc.names.lookup x=some .free
def Loc(sc:Scope)(x:Str):Prop:=sc.names.lookup x=some .local\/sc.names.lookup x=some .cell
def Kt(env:Env)(h:Heap)(m:Str->Option Value)(x:Str)(u:Value):Prop:=
 (env.kindOf x=some .local/\m x=some u)\/((env.kindOf x=some .cell\/env.kindOf x=some .free)/\∃c,env.cells.lookup x=some c/\h.IsCell c (some u))
structure Cx.Ok(X:Cx):Prop where
 mod:Mod X.K X.mg X.base
 kind:X.env.scope.kind=.function
 glob:X.env.globals=mainGlobals
 blt:X.env.builtins=builtinsNs
 above:X.s₀.heap.objs.size<=X.env.locals
 inj:∀x y c,X.env.cells.lookup x=some c->X.env.cells.lookup y=some c->x=y
 has:∀x,(X.env.kindOf x=some .cell\/X.env.kindOf x=some .free)->∃c,X.env.cells.lookup x=some c
 cab:∀x c,X.fn x=true->X.env.cells.lookup x=some c->X.s₀.heap.objs.size<=c
 hd:X.calm=true->X.A.handled=none
 frames:X.A.frames=some X.stack
 stk:X.stack=X.outer\/(X.stack=X.env::X.outer/\X.env.frame=some X.env.locals)
 exf:∀b∈X.ex,b≠X.env.locals/\∀x c,X.env.cells.lookup x=some c->c≠b
 bs:∀b o,X.base.get? b=some o->X.s₀.heap.get? b=some o/\X.H₀ b=none
 bsz:X.base.objs.size<=X.s₀.heap.objs.size
 noex:∀b o,X.base.get? b=some o->b∉X.ex
 exfs:∀b∈X.ex,b∉X.fs
 funs:X.s₀.heap.FunFrames X.base X.outer
 frf:∀b∈X.fs,X.H₀ b=none
structure Inv(X:Cx)(pins:List (Addr×Obj))(σ:List (Option V))(H:Hp)(s:Shared):Prop where
 ok:X.Ok
 os:s.os=X.s₀.os
 bare:AllBare s.gens
 base:Un X.fs X.ex X.H₀ H X.s₀.heap s.heap
 loc:∃m,s.heap.Ns X.env.locals m/\∀(i:Nat) (x:Str) (v:V),X.N[i]?=some x->σ[i]?=some (some v)->Vis X.env.scope x->∃u,bR v u/\Kt X.env s.heap m x u
 cell:∀x c,X.env.cells.lookup x=some c->∃v,s.heap.IsCell c v
 free:H X.env.locals=none
 freeC:∀x c,X.env.cells.lookup x=some c->H c=none
 pin:∀p∈X.pn++pins,s.heap.get? p.1=some p.2/\H p.1=none/\p.1≠X.env.locals/\p.1∉X.fs/\∀v,p.2.data≠.cell v
 hok:HOk X.prog X.w H s.heap
 len:σ.length=X.N.length
variable{X:Cx}{pins:List (Addr×Obj)}{s:Shared}
section
variable{σ:List (Option V)}
theorem Cx.Ok.nofr(ok:X.Ok){b:Addr}{o:Obj}(e:X.base.get? b=some o):b∉X.fs:=fun hb=>by
 have:=(ok.funs.mem hb).1;rw[e]at this;cases this
theorem Inv.bs(I:Inv X pins σ H s):∀b o,X.base.get? b=some o->s.heap.get? b=some o/\H b=none:=fun b o e=>
 ⟨I.base.keep b o (I.ok.bs b o e).1 (I.ok.bs b o e).2 (I.ok.nofr e) (I.ok.noex b o e),I.base.free b o (I.ok.bs b o e).1 (I.ok.bs b o e).2 (I.ok.noex b o e)⟩
theorem Inv.bk(I:Inv X pins σ H s):∀b o,X.base.get? b=some o->s.heap.get? b=some o:=fun b o e=>(I.bs b o e).1
theorem Inv.mod(I:Inv X pins σ H s):Mod X.K X.mg X.base:=I.ok.mod
theorem Inv.kIn(I:Inv X pins σ H s):X.K.In s.heap:=I.ok.mod.kin.keeps I.bk
theorem Inv.lt(I:Inv X pins σ H s):X.env.locals<s.heap.objs.size:=let ⟨_,hn,_⟩:=I.loc;hn.lt
theorem Inv.sz(I:Inv X pins σ H s):X.s₀.heap.objs.size<=s.heap.objs.size:=Qu I.ok.above (Zf I.lt)
theorem Inv.nofs(I:Inv X pins σ H s){a:Addr}(h:s.heap.objs.size<=a):a∉X.fs:=fun hb=>by
 obtain⟨_,o,ho,_⟩:=I.ok.funs.mem hb;exact absurd (Qw (QV ho) (Qu I.sz h)) (Nat.lt_irrefl _)
theorem Inv.cne(I:Inv X pins σ H s):∀x c,X.env.cells.lookup x=some c->c≠X.env.locals:=fun x c e z=>by
 obtain⟨v,o,ho,hd⟩:=I.cell x c e;obtain⟨m,⟨o',es,ep,ho',hd',_⟩,_⟩:=I.loc;rw[z,ho']at ho;cases ho;rw[hd']at hd;cases hd
theorem Inv.funs(I:Inv X pins σ H s):s.heap.FunFrames X.base X.outer:=by
 have all:∀(l:List Env),(∀b∈frs l,b∈X.fs)->X.s₀.heap.FunFrames X.base l->s.heap.FunFrames X.base l:=by
  intro l;induction l with
  |nil=>intro _ _;trivial
  |cons env r ih=>
   intro hs hl;obtain⟨hk,⟨L,o,hf,hn,ho,hd⟩,hr⟩:=hl;have hL:L∈X.fs:=hs L (by unfold frs;rw[List.filterMap_cons,hf];exact QB);obtain⟨sl,e⟩:=I.base.slot L o ho (I.ok.frf L hL) hL fun z=>I.ok.exfs L z hL;exact⟨hk,⟨L,_,hf,hn,e,hd⟩,ih (fun b hb=>hs b (by unfold frs;rw[List.filterMap_cons,hf];exact QF _ hb)) hr⟩
 exact all X.outer (fun _ hb=>hb) I.ok.funs
theorem Inv.stack(I:Inv X pins σ H s):s.heap.FunFrames X.base X.stack:=by
 rcases I.ok.stk with e|⟨e,hf⟩
 ·rw[e];exact I.funs
 ·rw[e];obtain⟨m,hn,_⟩:=I.loc;refine .cons (by rw[I.ok.kind];decide) hf hn ?_ I.funs;exact Heap.get?_none_of_le (Qu I.ok.bsz I.ok.above)
theorem Inv.stkSub(I:Inv X pins σ H s):∀b∈frs X.stack,b∈X.env.locals::X.fs:=fun b hb=>by
 rcases I.ok.stk with e|⟨e,hf⟩
 ·rw[e]at hb;exact QF _ hb
 ·rw[e]at hb;unfold frs at hb;rw[List.filterMap_cons,hf]at hb;exact hb
theorem Inv.stkFree(I:Inv X pins σ H s):∀b∈frs X.stack,H b=none:=fun b hb=>by
 rcases Qk.mp (I.stkSub b hb)with e|hb
 ·rw[e];exact I.free
 ·obtain⟨_,o,ho,_⟩:=I.ok.funs.mem hb;exact I.base.free b o ho (I.ok.frf b hb) fun z=>I.ok.exfs b z hb
theorem Inv.step{g':Array GenState}{t':Nat}{d':Drawn}{ch:List Addr}(I:Inv X pins σ H s)
  (hch:∀b∈ch,(b∈X.ex\/X.s₀.heap.objs.size<=b)/\b≠X.env.locals/\(∀x c,X.env.cells.lookup x=some c->c≠b)/\∀p∈X.pn++pins,p.1≠b)
  (keep:∀b o,b≠X.env.locals->b∉X.fs->b∉ch->s.heap.get? b=some o->H b=none->h'.get? b=some o)
  (slot:∀b o,b≠X.env.locals->b∈X.fs->b∉ch->s.heap.get? b=some o->H b=none->∃sl,h'.get? b=some { o with slots:=sl }) (free:∀b o,b∉ch->s.heap.get? b=some o->H b=none->H' b=none)
  (there:∀b o,b∉ch->s.heap.get? b=some o->∃o',h'.get? b=some o')
  (tups:∀b xs,H b=some (.tup xs)->H' b=some (.tup xs)) (frzs:∀b o u,H b=some (.frz o u)->H' b=some (.frz o u)) (tbls:∀b ps,H b=some (.tbl ps)->∃more,H' b=some (.tbl (ps++more)))
  (ns:∀m,s.heap.Ns X.env.locals m->h'.Ns X.env.locals m) (hok:HOk X.prog X.w H' h') (hg:AllBare g') :
  Inv X pins σ H' { s with heap:=h',gens:=g',drawn:=d',toks:=t' }:=by
 have neL:∀b o,X.s₀.heap.get? b=some o->b≠X.env.locals:=fun b o e=>Qj (Qw (QV e) I.ok.above);have neC:∀b o,X.s₀.heap.get? b=some o->b∉X.ex->b∉ch:=fun b o e hx hb=>by
  rcases(hch b hb).1 with z|z
  ·exact hx z
  ·exact absurd (Qw (QV e) z) (Nat.lt_irrefl _)
 have cellK:∀x c,X.env.cells.lookup x=some c->∀v,s.heap.IsCell c v->h'.IsCell c v:=fun x c e v ⟨o,ho,hd⟩=>by
  have nch:c∉ch:=fun z=>(hch c z).2.2.1 x c e rfl;by_cases hc:c∈X.fs
  ·obtain⟨sl,q⟩:=slot c o (I.cne x c e) hc nch ho (I.freeC x c e);exact⟨_,q,hd⟩
  ·exact⟨o,keep c o (I.cne x c e) hc nch ho (I.freeC x c e),hd⟩
 refine⟨I.ok,I.os,hg,⟨fun b o e n hb hx=>?_,fun b o e n hb hx=>?_,fun b o e n hx=>?_,fun b o e hx=>?_,fun b xs e=>tups b xs (I.base.tups b xs e),fun b o xs e=>frzs b o xs (I.base.frzs b o xs e),fun b ps e=>?_⟩,?_,fun x c e=>?_,?_,fun x c e=>?_,fun p hp=>?_,hok,I.len⟩
 ·exact keep b o (neL b o e) hb (neC b o e hx) (I.base.keep b o e n hb hx) (I.base.free b o e n hx)
 ·obtain⟨sl,e1⟩:=I.base.slot b o e n hb hx;obtain⟨sl',e2⟩:=slot b _ (neL b o e) hb (neC b o e hx) e1 (I.base.free b o e n hx);exact⟨sl',e2⟩
 ·obtain⟨o',e1⟩:=I.base.there b o e hx;exact free b o' (neC b o e hx) e1 (I.base.free b o e n hx)
 ·obtain⟨o',e1⟩:=I.base.there b o e hx;exact there b o' (neC b o e hx) e1
 ·obtain⟨m1,e1⟩:=I.base.tbls b ps e;obtain⟨m2,e2⟩:=tbls b _ e1;exact⟨m1++m2,by rw[e2,Array.append_assoc]⟩
 ·obtain⟨m,hn,hl⟩:=I.loc;refine⟨m,ns m hn,fun i x v e1 e2 e3=>?_⟩;obtain⟨u,r,l⟩:=hl i x v e1 e2 e3;refine⟨u,r,?_⟩;rcases l with l|⟨k,c,e,z⟩
  ·exact .inl l
  ·exact .inr ⟨k,c,e,cellK x c e _ z⟩
 ·obtain⟨v,z⟩:=I.cell x c e;exact⟨v,cellK x c e v z⟩
 ·obtain⟨m,⟨o,_,_,ho,_⟩,_⟩:=I.loc;exact free _ o (fun z=>(hch _ z).2.1 rfl) ho I.free
 ·obtain⟨v,o,ho,hd⟩:=I.cell x c e;exact free c o (fun z=>(hch c z).2.2.1 x c e rfl) ho (I.freeC x c e)
 ·obtain⟨e,n,ne,nf,d⟩:=I.pin p hp;have nch:p.1∉ch:=fun z=>(hch p.1 z).2.2.2 p hp rfl;exact⟨keep p.1 p.2 ne nf nch e n,free p.1 p.2 nch e n,ne,nf,d⟩
theorem Inv.un{t':Nat}(I:Inv X pins σ H s)(u:Un X.fs [] H H' s.heap h')(hok:HOk X.prog X.w H' h'):Inv X pins σ H' { s with heap:=h',toks:=t' }:=by
 obtain⟨m,⟨o,es,ep,ho,r⟩,_⟩:=id I.loc;obtain⟨sl,hL⟩:=u.any ho I.free (by simp);exact I.step (g':=s.gens) (d':=s.drawn) (ch:=[]) (fun _ z=>nomatch z) (fun b o _ hb _ e n=>u.keep b o e n hb (by simp)) (fun b o _ hb _ e n=>u.slot b o e n hb (by simp)) (fun b o _ e n=>u.free b o e n (by simp)) (fun b o _ e=>u.there b o e (by simp)) u.tups u.frzs u.tbls (fun m' hm=>by
  obtain⟨o',es',ep',ho',r'⟩:=hm;rw[ho]at ho';cases ho';exact⟨_,es',ep',hL,r'⟩) hok I.bare
theorem Inv.call{g':Array GenState}{t':Nat}{d':Drawn}{ch:List Addr}(I:Inv X pins σ H s)(u:Un (frs X.stack) ch H H' s.heap h')(hok:HOk X.prog X.w H' h')(hg:AllBare g')
  (hch:∀b∈ch,(b∈X.ex\/X.s₀.heap.objs.size<=b)/\b≠X.env.locals/\(∀x c,X.env.cells.lookup x=some c->c≠b)/\∀p∈X.pn++pins,p.1≠b) :
  Inv X pins σ H' { s with heap:=h',gens:=g',drawn:=d',toks:=t' }:=by
 obtain⟨m,⟨o,es,ep,ho,r⟩,_⟩:=id I.loc;obtain⟨sl,hL⟩:=u.any ho I.free fun z=>(hch _ z).2.1 rfl;exact I.step (ch:=ch) hch (fun b o hL hb hc e n=>u.keep b o e n (fun z=>(Qk.mp (I.stkSub b z)).elim hL hb) hc) (fun b o _ _ hc e n=>u.any e n hc) (fun b o hc e n=>u.free b o e n hc) (fun b o hc e=>u.there b o e hc) u.tups u.frzs u.tbls (fun m' hm=>by
  obtain⟨o',es',ep',ho',r'⟩:=hm;rw[ho]at ho';cases ho';exact⟨_,es',ep',hL,r'⟩) hok hg
theorem Inv.turned{t':Nat}{it:Addr}(I:Inv X pins σ H s)(k:∀b o,b≠it->s.heap.get? b=some o->h'.get? b=some o)(hn:H it=none)(hL:it≠X.env.locals)
  (h1:it∈X.ex\/X.s₀.heap.objs.size<=it) (h2:∀x c,X.env.cells.lookup x=some c->c≠it) (h3:∀p∈X.pn++pins,p.1≠it):Inv X pins σ H { s with heap:=h',toks:=t' }:=by
 have nit:∀b u,H b=some u->b≠it:=fun b u e z=>by rw[z,hn]at e;cases e
 refine I.step (g':=s.gens) (d':=s.drawn) (ch:=[it]) (fun b hb=>?_) (fun b o _ _ hc e _=>k b o (fun z=>hc (by simp[z])) e) (fun b o _ _ hc e _=>⟨o.slots,k b o (fun z=>hc (by simp[z])) e⟩) (fun _ _ _ _ n=>n)
  (fun b o hc e=>⟨o,k b o (fun z=>hc (by simp[z])) e⟩) (fun _ _ e=>e) (fun _ _ _ e=>e) (fun b ps e=>⟨#[],by rw[e];simp⟩) (fun m hm=>?_) (fun b u e=>?_) I.bare
 ·have e:b=it:=by simpa using hb
  subst e;exact⟨h1,hL,h2,h3⟩
 ·obtain⟨o,es,ep,ho,r⟩:=hm;exact⟨o,es,ep,k _ o (Ne.symm hL) ho,r⟩
 ·refine(I.hok b u e).stay (fun c v hc q=>k c v ?_ q) (fun _ q=>q) fun _ _ q=>q;rcases hc with z|z
  ·rw[z];exact nit b u e
  ·exact nit c _ z
theorem Inv.tok(I:Inv X pins σ H s)(t:Nat):Inv X pins σ H { s with toks:=t }:=I.un (h':=s.heap) (t':=t) Un.refl I.hok
theorem Inv.kept{t':Nat}(I:Inv X pins σ H s)(k:∀b u,s.heap.get? b=some u->h'.get? b=some u):Inv X pins σ H { s with heap:=h',toks:=t' }:=I.un (Un.kept k) (I.hok.kept k)
theorem Inv.laid{a:Addr}{o:HO}{t':Nat}(I:Inv X pins σ H s)(k:∀b u,s.heap.get? b=some u->h'.get? b=some u)(hp:s.heap.objs.size<=a)(new:bF X.prog X.w (upd H a o) h' a o) :
  Inv X pins σ (upd H a o) { s with heap:=h',toks:=t' }:=I.un (Un.laid k hp (I.hok.fresh hp)) (I.hok.laid k hp new)
theorem Inv.write{x e:Addr}{o:HO}{t':Nat}(I:Inv X pins σ H s)(mu:Mut (H x))(he:e=x\/H e=some (.own x))(k:∀b u,b≠e->s.heap.get? b=some u->h'.get? b=some u)(heo:∃u,h'.get? e=some u)
  (new:bF X.prog X.w (upd H x o) h' x o):Inv X pins σ (upd H x o) { s with heap:=h',toks:=t' }:=I.un (Un.write mu he k heo) (I.hok.write mu he k heo new)
theorem Inv.pins_of{pins':List (Addr×Obj)}(I:Inv X pins σ H s)(h:∀p∈pins',s.heap.get? p.1=some p.2/\H p.1=none/\p.1≠X.env.locals/\p.1∉X.fs/\∀v,p.2.data≠.cell v):Inv X pins' σ H s:=
 ⟨I.ok,I.os,I.bare,I.base,I.loc,I.cell,I.free,I.freeC,fun p hp=>(QN.mp hp).elim (fun z=>I.pin p (Qm _ z)) (h p),I.hok,I.len⟩
theorem rh{N:List Str}(hN:N.Nodup){i j:Nat}{x:Str}(a:N[i]?=some x)(b:N[j]?=some x):i=j:=by
 obtain⟨h1,e1⟩:=Q7.mp a;obtain⟨h2,e2⟩:=Q7.mp b;exact(List.getElem_inj hN).mp (e1.trans e2.symm)
theorem jE{M:Model}{A:Around}{E:Value->Shared->Prop}{i:Nat}{x:Str}{v:V}{u:Value}{Q:Unit->Shared->Prop}(I:Inv X pins σ H s)(hN:X.N.Nodup)(hi:X.N[i]?=some x)(hx:Loc X.env.scope x)(r:bR v u)
  (h:∀s',Inv X pins (σ.set i (some v)) H s'->(∃a,XI a s.heap s'.heap/\(a=X.env.locals\/X.env.cells.lookup x=some a))->Q () s') (hf:X.fn x=true\/X.env.scope.names.lookup x=some .local:=by first|exact .inl rfl|exact .inr rfl|assumption):wpAny M A (storeName X.env x u) Q E s:=by
 obtain⟨m,hn,hl⟩:=id I.loc;have hcls:(X.env.scope.kind == .class||(X.env.scope.kind == .module&&X.env.locals !=X.env.globals))=false:=by rw[I.ok.kind];rfl
 have hiσ:i < σ.length:=by rw[I.len];exact(Q7.mp hi).1
 have cne:=I.cne;have tracked:∀{a:Addr} {h':Heap},(∃o,s.heap.get? a=some o/\H a=none)->XI a s.heap h'->HOk X.prog X.w H h':=fun{a h'} ha hs b ob e=>by
  obtain⟨_,_,hfree⟩:=ha;refine(I.hok b ob e).stay (fun c w' hc q=>(hs.2 c ?_).trans q) (fun _ q=>q) fun _ _ q=>q;rintro rfl;rcases hc with rfl|hc
  ·rw[hfree]at e;cases e
  ·rw[hfree]at hc;cases hc
 rcases hx with hk|hk
 ·refine wpAny_storeName_local hk hn (fun h' hn' hs=>?_) hcls;obtain⟨oL,_,_,hoL,_⟩:=id hn;refine h _ ⟨I.ok,I.os,I.bare,⟨fun b o e n hb hx=>?_,fun b o e n hb hx=>?_,I.base.free,fun b o e hx=>?_,I.base.tups,I.base.frzs,I.base.tbls⟩,⟨_,hn',fun j y v' e1 e2 e3=>?_⟩,fun y c e=>?_,I.free,I.freeC,fun p hp=>?_,tracked ⟨oL,hoL,I.free⟩ hs,by simpa using I.len⟩ ⟨_,hs,.inl rfl⟩
  ·exact(hs.2 b (Qj (Qw (QV e) I.ok.above))).trans (I.base.keep b o e n hb hx)
  ·obtain⟨sl,e1⟩:=I.base.slot b o e n hb hx;exact⟨sl,(hs.2 b (Qj (Qw (QV e) I.ok.above))).trans e1⟩
  ·obtain⟨o',e1⟩:=I.base.there b o e hx;exact⟨o',(hs.2 b (Qj (Qw (QV e) I.ok.above))).trans e1⟩
  ·by_cases hj:j=i
   ·subst hj;rw[hi]at e1;cases e1;rw[List.getElem?_set_self hiσ]at e2;cases e2;exact⟨u,r,.inl ⟨hk,by simp⟩⟩
   ·rw[Qa (Ne.symm hj)]at e2;obtain⟨u',r',q⟩:=hl j y v' e1 e2 e3;refine⟨u',r',?_⟩;rcases q with⟨k,e⟩|⟨k,c,e,z⟩
    ·refine .inl ⟨k,?_⟩;have:y≠x:=fun e=>hj (rh hN e1 (e▸hi));simp[this,e]
    ·exact .inr ⟨k,c,e,z.sameBut hs (cne y c e)⟩
  ·obtain⟨w',z⟩:=I.cell y c e;exact⟨w',z.sameBut hs (cne y c e)⟩
  ·obtain⟨e,n,ne,nf,d⟩:=I.pin p hp;exact⟨(hs.2 p.1 ne).trans e,n,ne,nf,d⟩
 ·have hfn:X.fn x=true:=by
   rcases hf with z|z
   ·exact z
   ·rw[z]at hk;cases hk
  obtain⟨c,hc⟩:=I.ok.has x (.inl hk);obtain⟨w',z⟩:=I.cell x c hc;refine wpAny_storeName_cell I.ok.kind hk hc z (fun h' hc' hs=>?_);obtain⟨oc,hoc,hocd⟩:=id z;refine h { s with heap:=h' } ⟨I.ok,I.os,I.bare,⟨fun b o e n hb hx=>?_,fun b o e n hb hx=>?_,I.base.free,fun b o e hx=>?_,I.base.tups,I.base.frzs,I.base.tbls⟩,⟨m,hn.sameBut hs (Ne.symm (cne x c hc)),fun j y v' e1 e2 e3=>?_⟩,fun y c' e=>?_,I.free,I.freeC,fun p hp=>?_,tracked ⟨oc,hoc,I.freeC x c hc⟩ hs,by simpa using I.len⟩ ⟨c,hs,.inr hc⟩
  ·exact(hs.2 b (Qj (Qw (QV e) (I.ok.cab x c hfn hc)))).trans (I.base.keep b o e n hb hx)
  ·obtain⟨sl,e1⟩:=I.base.slot b o e n hb hx;exact⟨sl,(hs.2 b (Qj (Qw (QV e) (I.ok.cab x c hfn hc)))).trans e1⟩
  ·obtain⟨o',e1⟩:=I.base.there b o e hx;exact⟨o',(hs.2 b (Qj (Qw (QV e) (I.ok.cab x c hfn hc)))).trans e1⟩
  ·by_cases hj:j=i
   ·subst hj;rw[hi]at e1;cases e1;rw[List.getElem?_set_self hiσ]at e2;cases e2;exact⟨u,r,.inr ⟨.inl hk,c,hc,hc'⟩⟩
   ·rw[Qa (Ne.symm hj)]at e2;obtain⟨u',r',q⟩:=hl j y v' e1 e2 e3;refine⟨u',r',?_⟩;rcases q with q|⟨k,c',e,z'⟩
    ·exact .inl q
    ·refine .inr ⟨k,c',e,z'.sameBut hs ?_⟩;rintro rfl;exact hj (rh hN e1 (I.ok.inj _ _ _ e hc▸hi))
  ·by_cases hcc:c'=c
   ·subst hcc;exact⟨_,hc'⟩
   ·obtain⟨w2,z2⟩:=I.cell y c' e;exact⟨w2,z2.sameBut hs hcc⟩
  ·obtain⟨e,n,ne,nf,d⟩:=I.pin p hp;refine⟨(hs.2 p.1 ?_).trans e,n,ne,nf,d⟩;intro q;rw[q,hoc]at e;have q':oc=p.2:=Option.some.inj e;exact d w' (by rw[<-q'];exact hocd)
theorem qA{M:Model}{A:Around}{E:Value->Shared->Prop}{i:Nat}{x:Str}{v:V}{u:Value}{Q:Unit->Shared->Prop}(I:Inv X pins σ H s)(hN:X.N.Nodup)(hi:X.N[i]?=some x)(hx:Loc X.env.scope x)(r:bR v u)
  (h:∀s',Inv X pins (σ.set i (some v)) H s'->Q () s') (hf:X.fn x=true\/X.env.scope.names.lookup x=some .local:=by first|exact .inl rfl|exact .inr rfl|assumption):wpAny M A (storeName X.env x u) Q E s:=
 jE I hN hi hx r (fun s' I' _=>h s' I') hf
theorem Inv.call'{s':Shared}{ch:List Addr}(I:Inv X pins σ H s)(ho:s'.os=s.os)(u:Un (frs X.stack) ch H H' s.heap s'.heap)(hok:HOk X.prog X.w H' s'.heap)(hg:AllBare s'.gens)
  (hch:∀b∈ch,(b∈X.ex\/X.s₀.heap.objs.size<=b)/\b≠X.env.locals/\(∀x c,X.env.cells.lookup x=some c->c≠b)/\∀p∈X.pn++pins,p.1≠b):Inv X pins σ H' s':=by
 obtain⟨h',g',d',t',o'⟩:=s';have e:o'=s.os:=ho;subst e;exact I.call (g':=g') (t':=t') (d':=d') u hok hg hch
end
abbrev XK:=Value->Option Addr->Hp->Prop
abbrev St:=List (Option V)
abbrev VK:=V->Hp->Prop
abbrev TE:=St->Hp->VK->Prop
abbrev TT:=St->Hp->(Bool->Hp->Prop)->Prop
abbrev TA:=St->Hp->(List V->Hp->Prop)->Prop
structure Bc where
 nx:St->Hp->Prop
 rt:VK
 bk:St->Hp->Prop:=fun _ _=>False
 ct:St->Hp->Prop:=fun _ _=>False
abbrev TS:=Bc->St->Hp->Prop
def EP(X:Cx)(pins:List (Addr×Obj))(σ:St)(Q:VK)(u:Value)(s':Shared):Prop:=∃v H',Inv X pins σ H' s'/\bR v u/\Q v H'
def TP(X:Cx)(pins:List (Addr×Obj))(σ:St)(Q:Bool->Hp->Prop)(b:Bool)(s':Shared):Prop:=∃H',Inv X pins σ H' s'/\Q b H'
def AP(X:Cx)(pins:List (Addr×Obj))(σ:St)(Q:List V->Hp->Prop)(us:List Value)(s':Shared):Prop:=∃vs H',Inv X pins σ H' s'/\aX vs us/\Q vs H'
def SP(X:Cx)(pins:List (Addr×Obj))(D:Bc)(f:Flow)(s':Shared):Prop:=
 match f with
 |.next=>∃σ' H',Inv X pins σ' H' s'/\D.nx σ' H'
 |.brk=>∃σ' H',Inv X pins σ' H' s'/\D.bk σ' H'
 |.cont=>∃σ' H',Inv X pins σ' H' s'/\D.ct σ' H'
 |.ret u=>∃v σ' H',Inv X pins σ' H' s'/\bR v u/\D.rt v H'
def PE(X:Cx)(e:Expr)(t:TE):Prop:=
 ∀(pins:List (Addr×Obj)) (s:Shared) (σ:St) (H:Hp) (Q:VK),Inv X pins σ H s->t σ H Q->wpAny (model X.prog X.w) X.A (eval e X.env) (EP X pins σ Q) X.xe s
def PT(X:Cx)(e:Expr)(t:TT):Prop:=
 ∀(pins:List (Addr×Obj)) (s:Shared) (σ:St) (H:Hp) (Q:Bool->Hp->Prop),Inv X pins σ H s->t σ H Q->wpAny (model X.prog X.w) X.A (isTrue e X.env (eval e X.env)) (TP X pins σ Q) X.xe s
def PW(X:Cx)(e:Expr)(t:TT):Prop:=
 ∀(whole:Sem Value) (pins:List (Addr×Obj)) (s:Shared) (σ:St) (H:Hp) (Q:Bool->Hp->Prop),Inv X pins σ H s->t σ H Q->wpAny (model X.prog X.w) X.A (isTrue e X.env whole) (TP X pins σ Q) X.xe s
theorem PW.pt{X:Cx}{e:Expr}{t:TT}(h:PW X e t):PT X e t:=h _
def PA(X:Cx)(es:List Expr)(t:TA):Prop:=
 ∀(pos:Pos) (pins:List (Addr×Obj)) (s:Shared) (σ:St) (H:Hp) (Q:List V->Hp->Prop),Inv X pins σ H s->t σ H Q->wpAny (model X.prog X.w) X.A (spliced (backTo pos (starEach es X.env))) (AP X pins σ Q) X.xe s
def PS(X:Cx)(st:Stmt)(t:TS):Prop:=
 ∀(pins:List (Addr×Obj)) (s:Shared) (σ:St) (H:Hp) (D:Bc),Inv X pins σ H s->t D σ H->wpAny (model X.prog X.w) X.A (exec st X.env) (SP X pins D) X.xe s
def PSs(X:Cx)(st:List Stmt)(t:TS):Prop:=
 ∀(pins:List (Addr×Obj)) (s:Shared) (σ:St) (H:Hp) (D:Bc),Inv X pins σ H s->t D σ H->wpAny (model X.prog X.w) X.A (execs st X.env) (SP X pins D) X.xe s
theorem thn{α:Type}{t:Sem α}{Q Q':α->Shared->Prop}{M:Model}{A:Around}{E:Value->Shared->Prop}{s:Shared}(h:wpAny M A t Q E s)(hQ:∀a s,Q a s->Q' a s):wpAny M A t Q' E s:=ZE h hQ fun _ _ x=>x
variable{b:Expr}{ta tb:TE}{pos:Pos}
section
def Ha(i:Nat):TE:=fun σ H Q=>∃v,σ[i]?=some (some v)/\Q v H
def tC(v:V):TE:=fun _ H Q=>Q v H
theorem FD{i:Nat}{x:Str}{pos:Pos}(hN:X.N[i]?=some x)(hv:Vis X.env.scope x)(hd:(x == ("__debug__":Str))=false:=by decide)(hcd:(x == ("__classdict__":Str))=false:=by decide):PE X (.Name x pos) (Ha i):=by
 intro pins s σ H Q I h;obtain⟨v,e,h⟩:=h;obtain⟨m,hn,hl⟩:=I.loc;obtain⟨u,r,l⟩:=hl i x v hN e hv;have fin:EP X pins σ Q u s:=⟨v,H,I,r,h⟩;rcases l with⟨hk,hm⟩|⟨hk,c,hc,hcell⟩
 ·exact wpAny_Name (wpAny_loadName_local I.ok.kind hk hn hm fin) hd
 ·rcases hk with hk|hk
  ·exact wpAny_Name (wpAny_loadName_cell I.ok.kind hk hc hcell fin) hd
  ·exact wpAny_Name (wpAny_loadName_free I.ok.kind hk hc hcell fin hcd) hd
theorem FJ{i j pos}:PE X (.Constant (.int i) j pos) (tC (.int i)):=fun _ _ _ H _ I h=>wpAny_Constant_int ⟨.int i,H,I.tok _,⟨_,rfl⟩,h⟩
theorem IC{b j pos}:PE X (.Constant (.bool b) j pos) (tC (.bl b)):=fun _ _ _ H _ I h=>Constant_bool ⟨.bl b,H,I,rfl,h⟩
theorem FF{x j pos}:PE X (.Constant (.str x) j pos) (tC (.str x)):=fun _ _ _ H _ I h=>Calls.Constant_str ⟨.str x,H,I.tok _,⟨_,rfl⟩,h⟩
def Gl(X:Cx)(x:Str):Prop:=X.env.kindOf x=some .globalImplicit
theorem Dd{E:Value->Shared->Prop}{pins:List (Addr×Obj)}{s:Shared}{σ:St}{H:Hp}{x:Str}{u:Value}{pos:Pos}{Q:Value->Shared->Prop}(I:Inv X pins σ H s)(hg:Gl X x)(hm:X.mg x=some u)(h:Q u s)
  (hd:(x == ("__debug__":Str))=false:=by decide):wpAny (model X.prog X.w) X.A (eval (.Name x pos) X.env) Q E s:=
 Calls.Name_function_global I.ok.kind hg (Calls.loadGlobal_global (by rw[I.ok.glob];exact I.mod.glob.keeps I.bk) hm h) hd
theorem fU{E:Value->Shared->Prop}{pins:List (Addr×Obj)}{s:Shared}{σ:St}{H:Hp}{x:Str}{u:Value}{pos:Pos}{Q:Value->Shared->Prop}(I:Inv X pins σ H s)(hg:Gl X x)(hm:X.mg x=none)(hv:bootBuiltins x=some u)(h:Q u s)
  (hn:x≠"__name__":=by decide) (hd:(x == ("__debug__":Str))=false:=by decide):wpAny (model X.prog X.w) X.A (eval (.Name x pos) X.env) Q E s:=by
 obtain⟨mb,h1,h2⟩:=I.mod.blt;exact Calls.Name_function_global I.ok.kind hg (Calls.loadGlobal_builtin (by rw[I.ok.glob];exact I.mod.glob.keeps I.bk) hm (by rw[I.ok.blt];exact h1.keeps I.bk) ((h2 x hn).trans hv) h) hd
theorem CO{x:Str}{v:V}{u:Value}{pos:Pos}(hg:Gl X x)(hm:X.mg x=none)(hv:bootBuiltins x=some u)(r:bR v u)(hn:x≠"__name__":=by decide)(hd:(x == ("__debug__":Str))=false:=by decide):PE X (.Name x pos) (tC v):=
 fun _ _ _ H _ I h=>fU I hg hm hv ⟨v,H,I,r,h⟩ hn hd
variable{a:Expr}
def PC(X:Cx)(op:CmpOp)(a b:Expr)(t:TE):Prop:=
 ∀(pins:List (Addr×Obj)) (s:Shared) (σ:St) (H:Hp) (Q:VK),Inv X pins σ H s->t σ H Q->
  wpAny (model X.prog X.w) X.A (eval a X.env) (fun v s₁=>wpAny (model X.prog X.w) X.A (eval b X.env) (fun u s₂=>wpAny (model X.prog X.w) X.A (compareOp op v u) (EP X pins σ Q) X.xe s₂) X.xe s₁) X.xe s
def tB(t:TE):TT:=fun σ H Q=>t σ H fun x H1=>∃c,x=.bl c/\Q c H1
theorem FK{op:CmpOp}{t:TE}(h:PC X op a b t)(h1:behindInMarks op b=false:=by first|exact nobehind _ (by decide) (by decide)|rfl):PE X (.Compare a [op] [b] pos) t:=fun pins s σ H Q I hw=>wpAny_Compare1 (h pins s σ H Q I hw) h1
theorem Ft{op:CmpOp}{t:TE}(h:PC X op a b t)(h1:behindInMarks op b=false:=by first|exact nobehind _ (by decide) (by decide)|rfl):PT X (.Compare a [op] [b] pos) (tB t):=by
 intro pins s σ H Q I hw;refine wpAny_isTrue_Compare1 (thn (h pins s σ H _ I hw) fun v s1 h1=>thn h1 fun u s2 h2=>thn h2 fun c s3 hz=>?_) h1;obtain⟨x,H1,I1,r1,q1⟩:=hz;obtain⟨d,rfl,q⟩:=q1;cases r1;exact wpAny_truthy_bool ⟨H1,I1,q⟩
theorem Fq{e:Expr}{t:TE}(h:PE X e t)(he:∀whole,isTrue e X.env whole=(do let v <-whole;standAt e.pos;holding [v] (truthy v)):=by intro _;rfl):PT X e (tB t):=by
 intro pins s σ H Q I hw;refine isTrue_plain (thn (h pins s σ H _ I hw) fun v s1 ⟨x,H1,I1,r1,q1⟩=>?_) (he _);obtain⟨d,rfl,q⟩:=q1;cases r1;exact wpAny_truthy_bool ⟨H1,I1,q⟩
variable{tA tB':TT}{rest:List Expr}
def JD(t u:TT):TT:=fun σ H Q=>t σ H fun c H1=>if c=true then u σ H1 Q else Q false H1
def tOr(t u:TT):TT:=fun σ H Q=>t σ H fun c H1=>if c=true then Q true H1 else u σ H1 Q
def Jy(t:TT):TT:=fun σ H Q=>t σ H fun c H1=>Q (!c) H1
theorem Cu(ha:PT X a tA):PW X (.BoolOp .And [a] pos) tA:=by
 intro wh pins s σ H Q I h;refine isTrue_and (thn (ha pins s σ H Q I h) fun c s1 e=>?_);cases c with
 |true=>exact isTrue_and_nil e
 |false=>exact e
theorem Fm(ha:PT X a tA):PW X (.BoolOp .Or [a] pos) tA:=by
 intro wh pins s σ H Q I h;refine isTrue_or (thn (ha pins s σ H Q I h) fun c s1 e=>?_);cases c with
 |false=>exact isTrue_or_nil e
 |true=>exact e
theorem Fo(ha:PT X a tA)(hb:PW X (.BoolOp .And (b::rest) pos) tB'):PW X (.BoolOp .And (a::b::rest) pos) (JD tA tB'):=by
 intro wh pins s σ H Q I h;refine isTrue_and (thn (ha pins s σ H _ I h) fun c s1 ⟨H1,I1,q1⟩=>?_);cases c with
 |true=>exact hb wh pins s1 σ H1 Q I1 q1
 |false=>exact⟨H1,I1,q1⟩
theorem Iq(ha:PT X a tA)(hb:PW X (.BoolOp .Or (b::rest) pos) tB'):PW X (.BoolOp .Or (a::b::rest) pos) (tOr tA tB'):=by
 intro wh pins s σ H Q I h;refine isTrue_or (thn (ha pins s σ H _ I h) fun c s1 ⟨H1,I1,q1⟩=>?_);cases c with
 |true=>exact⟨H1,I1,q1⟩
 |false=>exact hb wh pins s1 σ H1 Q I1 q1
theorem Fs(ha:PT X a tA):PT X (.UnaryOp .Not a pos) (Jy tA):=by
 intro pins s σ H Q I h;exact isTrue_not (ha pins s σ H (fun c H1=>Q (!c) H1) I h)
def E4(ta tb:TE):TE:=fun σ H Q=>ta σ H fun x H1=>∃c,x=.bl c/\if c=true then tb σ H1 Q else Q (.bl false) H1
def EV(ta:TE):TE:=fun σ H Q=>ta σ H fun x H1=>∃c,x=.bl c/\Q (.bl (!c)) H1
theorem FG{op}{t:TE}(h:PE X a t):PE X (.BoolOp op [a] pos) t:=fun pins s σ H Q I hw=>BoolOp_one (h pins s σ H Q I hw)
theorem FN(ha:PE X a ta)(hb:PE X (.BoolOp .And (b::rest) pos) tb):PE X (.BoolOp .And (a::b::rest) pos) (E4 ta tb):=by
 intro pins s σ H Q I h;refine BoolOp_and (thn (ha pins s σ H _ I h) fun v s1 hz=>?_);obtain⟨x,H1,I1,r1,q1⟩:=hz;obtain⟨c,rfl,q1⟩:=q1;cases r1;refine wpAny_truthy_bool ?_;cases c with
 |true=>exact hb pins s1 σ H1 Q I1 q1
 |false=>exact⟨.bl false,H1,I1,rfl,q1⟩
theorem FH(ha:PE X a ta):PE X (.UnaryOp .Not a pos) (EV ta):=by
 intro pins s σ H Q I h;refine UnaryOp_ (thn (ha pins s σ H _ I h) fun v s1 hz=>?_);obtain⟨x,H1,I1,r1,q1⟩:=hz;obtain⟨c,rfl,q1⟩:=q1;cases r1;exact not_of (wpAny_truthy_bool ⟨.bl (!c),H1,I1,rfl,q1⟩)
end
def SqL(K:Q5)(H:Hp)(a:Addr)(xs:List V):Prop:=
 Rd H a (.lst xs)\/
  ∃(o:Obj) (its:Array Value) (n:Nat),K.lookup a=some o/\o.cls=.type "list"/\o.dict=none/\o.data=.seq its n/\its.size<=sizeLine/\aX xs its.toList
def SqT(K:Q5)(H:Hp)(a:Addr)(xs:List V):Prop:=
 Rd H a (.tup xs)\/
  ∃(o:Obj) (its:Array Value) (n:Nat),K.lookup a=some o/\o.cls=.type "tuple"/\o.data=.seq its n/\its.size<=sizeLine/\aX xs its.toList
noncomputable def Ks:Value->Option V
 |.none=>some .non
 |.bool b=>some (.bl b)
 |.int i _=>some (.int i)
 |.str x _=>some (.str x)
 |.bytes b _=>some (.byt b)
 |.float b _=>some (.flt b)
 |.ref a=>some (.ref a)
 |.type n=>some (.ty n)
 |_=>none
theorem bR.abs{x:V}{u:Value}(r:bR x u):Ks u=some x:=by
 cases x with
 |non=>cases r;rfl
 |bl _=>cases r;rfl
 |int _=>obtain⟨t,rfl⟩:=r;rfl
 |str _=>obtain⟨t,rfl⟩:=r;rfl
 |byt _=>obtain⟨t,rfl⟩:=r;rfl
 |flt _=>obtain⟨t,rfl⟩:=r;rfl
 |ref _=>cases r;rfl
 |ty _=>cases r;rfl
theorem bR.inj{x y:V}{u:Value}(r:bR x u)(q:bR y u):x=y:=Option.some.inj (r.abs.symm.trans q.abs)
theorem aX.inj:∀{xs ys:List V} {us:List Value},aX xs us->aX ys us->xs=ys
 |_,_,_,.nil,.nil=>rfl
 |_,_,_,.cons r t,.cons r' t'=>by rw[r.inj r',aX.inj t t']
variable{σ:St}
section
variable{xs ys:List V}
theorem SqL.of{K:Q5}(h:H a=some (.lst xs)):SqL K H a xs:=.inl (.inl h)
theorem SqT.of{K:Q5}(h:H a=some (.tup xs)):SqT K H a xs:=.inl (.inl h)
theorem Inv.list(I:Inv X pins σ H s)(h:SqL X.K H a xs):∃its:List Value,aX xs its/\PlainL s.heap a its.toArray/\xs.length<=sizeLine:=by
 rcases h with h|⟨o,its,n,hk,hc,hd,hs,hz,r⟩
 ·obtain⟨z,its,n,r,e⟩:=h.ok I.hok;exact⟨its,r,⟨_,n,e,rfl,rfl,rfl⟩,z⟩
 ·refine⟨its.toList,r,⟨o,n,I.kIn a o hk,hc,hd,by simpa using hs⟩,?_⟩;have e:=r.length;simp only[QY]at e;omega
theorem Inv.tuple(I:Inv X pins σ H s)(h:SqT X.K H a xs):∃its:List Value,aX xs its/\IsTup s.heap a its.toArray/\xs.length<=sizeLine:=by
 rcases h with h|⟨o,its,n,hk,hc,hs,hz,r⟩
 ·obtain⟨z,its,r,p⟩:=h.ok I.hok;exact⟨its,r,p,z⟩
 ·refine⟨its.toList,r,⟨o,I.kIn a o hk,hc,n,by simpa using hs⟩,?_⟩;have e:=r.length;simp only[QY]at e;omega
theorem Inv.list_inj(I:Inv X pins σ H s)(h:SqL X.K H a xs)(h':SqL X.K H a ys):xs=ys:=by
 obtain⟨its,r,⟨o,n,e,_,_,d⟩,_⟩:=I.list h;obtain⟨its',r',⟨o',n',e',_,_,d'⟩,_⟩:=I.list h';rw[e]at e';cases e';rw[d]at d';injection d' with d1 _;have:its=its':=by simpa using congrArg Array.toList d1
 subst this;exact r.inj r'
theorem Inv.tuple_inj(I:Inv X pins σ H s)(h:SqT X.K H a xs)(h':SqT X.K H a ys):xs=ys:=by
 obtain⟨its,r,⟨o,e,_,n,d⟩,_⟩:=I.tuple h;obtain⟨its',r',⟨o',e',_,n',d'⟩,_⟩:=I.tuple h';rw[e]at e';cases e';rw[d]at d';injection d' with d1 _;have:its=its':=by simpa using congrArg Array.toList d1
 subst this;exact r.inj r'
end
abbrev Cx.wish(X:Cx)(E:Value->Shared->Prop):Cx:={ X with xe:=E }
abbrev Cx.nox(X:Cx):Cx:=X.wish fun _ _=>False
theorem Cx.Ok.wish{X:Cx}(ok:X.Ok)(E:Value->Shared->Prop):(X.wish E).Ok:=
 ⟨ok.mod,ok.kind,ok.glob,ok.blt,ok.above,ok.inj,ok.has,ok.cab,ok.hd,ok.frames,ok.stk,ok.exf,ok.bs,ok.bsz,ok.noex,ok.exfs,ok.funs,ok.frf⟩
theorem Cx.Ok.unwish{X:Cx}{E:Value->Shared->Prop}(ok:(X.wish E).Ok):X.Ok:=
 ⟨ok.mod,ok.kind,ok.glob,ok.blt,ok.above,ok.inj,ok.has,ok.cab,ok.hd,ok.frames,ok.stk,ok.exf,ok.bs,ok.bsz,ok.noex,ok.exfs,ok.funs,ok.frf⟩
variable{E:Value->Shared->Prop}
theorem Inv.wish(I:Inv X pins σ H s)(E:Value->Shared->Prop):Inv (X.wish E) pins σ H s:=⟨I.ok.wish E,I.os,I.bare,I.base,I.loc,I.cell,I.free,I.freeC,I.pin,I.hok,I.len⟩
theorem Inv.unwish(I:Inv (X.wish E) pins σ H s):Inv X pins σ H s:=⟨I.ok.unwish,I.os,I.bare,I.base,I.loc,I.cell,I.free,I.freeC,I.pin,I.hok,I.len⟩
theorem SP.unwish{D:Bc}{f:Flow}{s':Shared}(h:SP (X.wish E) pins D f s'):SP X pins D f s':=by
 cases f with
 |next=>obtain⟨σ',H',I,q⟩:=h;exact⟨σ',H',I.unwish,q⟩
 |brk=>obtain⟨σ',H',I,q⟩:=h;exact⟨σ',H',I.unwish,q⟩
 |cont=>obtain⟨σ',H',I,q⟩:=h;exact⟨σ',H',I.unwish,q⟩
 |ret u=>obtain⟨v,σ',H',I,r,q⟩:=h;exact⟨v,σ',H',I.unwish,r,q⟩
theorem PSs.nox{st:List Stmt}{t:TS}(h:PSs X.nox st t):PSs X st t:=fun pins s σ H D I hw=>
 ZE (h pins s σ H D (I.wish _) hw) (fun _ _ q=>q.unwish) fun _ _ z=>False.elim z
variable{te:TE}
section
variable{st:Stmt}{rest:List Stmt}{t u:TS}{e:Expr}
def EW:TS:=fun D σ H=>D.nx σ H
def Jw(t u:TS):TS:=fun D σ H=>t { D with nx:=u D } σ H
theorem Cy:PSs X [] EW:=fun _ _ σ H _ I h=>wpAny_execs_nil ⟨σ,H,I,h⟩
theorem yH(h1:PS X st t)(h2:PSs X rest u):PSs X (st::rest) (Jw t u):=by
 intro pins s σ H D I h;refine wpAny_execs_cons (thn (h1 pins s σ H { D with nx:=u D } I h) fun f s1 q=>?_);cases f with
 |next=>
  obtain⟨σ',H',I',q⟩:=q;exact h2 pins s1 σ' H' D I' q
 |ret v=>exact q
 |brk=>exact q
 |cont=>exact q
theorem Cw(h1:PS X st t):PSs X [st] t:=by
 intro pins s σ H D I h;refine wpAny_execs_cons (thn (h1 pins s σ H D I h) fun f s1 q=>?_);cases f with
 |next=>exact wpAny_execs_nil q
 |ret v=>exact q
 |brk=>exact q
 |cont=>exact q
theorem Inv.quiet{pins:List (Addr×Obj)}{σ:St}{H:Hp}{s:Shared}(I:Inv X pins σ H s):interactive X.env=false:=by simp[interactive,I.ok.kind]
def EX(te:TE):TS:=fun D σ H=>te σ H fun _ H1=>D.nx σ H1
theorem Cz(he:PE X e te)(hs:swapsWith e none pos.line X.env=pure false:=by rfl):PS X (.Expr e pos) (EX te):=by
 intro pins s σ H D I h;exact wpAny_Expr_any (thn (he pins s σ H _ I h) fun v s1 ⟨x,H1,I1,r1,q1⟩=>⟨σ,H1,I1,q1⟩) I.quiet hs
def Jx(te:TE):TS:=fun D σ H=>te σ H D.rt
theorem Fv(he:PE X e te):PS X (.Return (some e) pos) (Jx te):=by
 intro pins s σ H D I h;exact wpAny_Return_some (thn (he pins s σ H _ I h) fun v s1 ⟨x,H1,I1,r1,q1⟩=>⟨x,σ,H1,I1,r1,q1⟩)
def JB(c:TT)(t u:TS):TS:=fun D σ H=>c σ H fun b H1=>if b=true then t D σ H1 else u D σ H1
theorem Ir{c:Expr}{a b:List Stmt}{tc:TT}(hc:PT X c tc)(ha:PSs X a t)(hb:PSs X b u):PS X (.If c a b pos) (JB tc t u):=by
 intro pins s σ H D I h;refine wpAny_If (thn (hc pins s σ H _ I h) fun d s1 ⟨H1,I1,q1⟩=>?_);cases d with
 |true=>exact ha pins s1 σ H1 D I1 q1
 |false=>exact hb pins s1 σ H1 D I1 q1
end
abbrev TG:=V->St->Hp->(St->Hp->Prop)->Prop
abbrev TGs:=List V->St->Hp->(St->Hp->Prop)->Prop
def PG(X:Cx)(target:Expr)(t:TG):Prop:=
 ∀(pins:List (Addr×Obj)) (s:Shared) (σ:St) (H:Hp) (v:V) (u:Value) (Q:St->Hp->Prop),Inv X pins σ H s->bR v u->t v σ H Q->
  wpAny (model X.prog X.w) X.A (assign target X.env u) (fun _ s'=>∃σ' H',Inv X pins σ' H' s'/\Q σ' H') X.xe s
def PGs(X:Cx)(ts:List Expr)(t:TGs):Prop:=
 ∀(pins:List (Addr×Obj)) (s:Shared) (σ:St) (H:Hp) (vs:List V) (us:List Value) (Q:St->Hp->Prop),Inv X pins σ H s->aX vs us->t vs σ H Q->
  wpAny (model X.prog X.w) X.A (assignInOrder ((assignEach ts X.env).map (·.2)) us) (fun _ s'=>∃σ' H',Inv X pins σ' H' s'/\Q σ' H') X.xe s
abbrev Hk:=V->V->V->Hp->(Hp->Prop)->Prop
def Js(X:Cx)(t:Hk):Prop:=
 ∀(pins:List (Addr×Obj)) (s:Shared) (σ:St) (H:Hp) (o i v:V) (ov iv u:Value) (Q:Hp->Prop),Inv X pins σ H s->bR o ov->bR i iv->bR v u->t o i v H Q->
  wpAny (model X.prog X.w) X.A (setItem ov iv u) (fun _ s'=>∃H',Inv X pins σ H' s'/\Q H') X.xe s
def tF(i:Nat):TG:=fun v σ H Q=>Q (σ.set i (some v)) H
theorem CK{i:Nat}{x:Str}(hN:X.N.Nodup)(hi:X.N[i]?=some x)(hx:Loc X.env.scope x)(hf:X.fn x=true\/X.env.scope.names.lookup x=some .local:=by first|exact .inl rfl|exact .inr rfl|assumption):PG X (.Name x pos) (tF i):=by
 intro pins s σ H v u Q I r h;exact wpAny_assign_Name (qA I hN hi hx r (fun s' I'=>⟨_,H,I',h⟩) hf)
def JU:TGs:=fun vs σ H Q=>vs=[]/\Q σ H
def GC(t:TG)(u:TGs):TGs:=fun vs σ H Q=>∃v r,vs=v::r/\t v σ H fun σ' H'=>u r σ' H' Q
theorem CJ:PGs X [] JU:=by
 intro pins s σ H vs us Q I r h;obtain⟨e,h⟩:=h;subst e;cases r;exact assignInOrder_nil ⟨σ,H,I,h⟩
theorem yM{e:Expr}{es:List Expr}{t:TG}{u:TGs}(h1:PG X e t)(h2:PGs X es u)
  (hs:(assignEach (e::es) X.env).map (·.2)=assign e X.env::(assignEach es X.env).map (·.2):=by rfl):PGs X (e::es) (GC t u):=by
 intro pins s σ H vs us Q I r h;obtain⟨v,vr,e1,h⟩:=h;subst e1;cases r with
 |cons r rr=>
  rw[hs];refine assignInOrder_cons (thn (h1 pins s σ H _ _ _ I r h) fun _ s1 hz=>?_);obtain⟨σ1,H1,I1,q1⟩:=hz;exact h2 pins s1 σ1 H1 _ _ Q I1 rr q1
def JS(K:Q5)(n:Nat)(t:TGs):TG:=fun v σ H Q=>∃a xs,v=.ref a/\SqT K H a xs/\xs.length=n/\t xs σ H Q
theorem FA{es:List Expr}{k:Nat}{t:TGs}{n:Nat}(hc:X.calm=true)(h:PGs X es t)
  (hn:(assignEach es X.env).length=n:=by rfl) (hst:(assignEach es X.env).findIdx? (·.1)=none:=by rfl):PG X (.Tuple es k pos) (JS X.K n t):=by
 intro pins s σ H v u Q I r hw;obtain⟨a,xs,e1,hq,hl,hw⟩:=hw;subst e1;cases r;obtain⟨its,rv,ht,hz⟩:=I.tuple hq;refine assign_Tuple_tuple (I.ok.hd hc) ht (by simp[hn,<-hl,rv.length]) hst fun h' hx=>?_;have I1:Inv X pins σ H { s with heap:=h' }:=I.kept (t':=s.toks) fun b o e=>hx b o (Qj (QV e)) e;exact h pins _ σ H xs _ Q I1 (by simpa using rv) hw
def JT(to ti:TE)(t:Hk):TG:=fun v σ H Q=>to σ H fun o H1=>ti σ H1 fun i H2=>t o i v H2 fun H3=>Q σ H3
theorem FC{o i:Expr}{to ti:TE}{t:Hk}(ho:PE X o to)(hi:PE X i ti)(hs:Js X t)
  (ha:∀v,assign (.Subscript o i pos) X.env v=(do
   let ov <-holding [v] (eval o X.env)
   let iv <-holding [v,ov] (eval i X.env)
   standAt pos
   holding [v,ov,iv] (setItem ov iv v)
   release [v,ov,iv] []):=by intro _;rfl):PG X (.Subscript o i pos) (JT to ti t):=by
 intro pins s σ H v u Q I r h;rw[ha];refine Q0 (wpAny_holding (thn (ho pins s σ H _ I h) fun ov s1 hz=>?_));obtain⟨x,H1,I1,r1,q1⟩:=hz;refine Q0 (wpAny_holding (thn (hi pins s1 σ H1 _ I1 q1) fun iv s2 hz=>?_));obtain⟨y,H2,I2,r2,q2⟩:=hz;refine Q0 (wpAny_standAt (Q0 (wpAny_holding (thn (hs pins s2 σ H2 x y v ov iv u _ I2 r1 r2 r q2) fun _ s3 ⟨H3,I3,q3⟩=>?_))));exact wpAny_release ⟨σ,H3,I3,q3⟩
def E3(te:TE)(g:TG):TS:=fun D σ H=>te σ H fun x H1=>g x σ H1 D.nx
theorem Fy{tg e:Expr}{te:TE}{g:TG}(he:PE X e te)(hg:PG X tg g)(hs:swapsWithSole [tg] e pos.line X.env=pure false:=by rfl)(hw:swappedStores [tg] e X.env=pure none:=by rfl)
  (h1:(assignEach [tg] X.env).map (·.2)=[assign tg X.env]:=by rfl):PS X (.Assign [tg] e pos) (E3 te g):=by
 intro pins s σ H D I h;refine wpAny_Assign_stores (thn (he pins s σ H _ I h) fun v s1 hz=>?_) hs hw;obtain⟨x,H1,I1,r1,q1⟩:=hz;rw[h1];exact thn (hg pins s1 σ H1 x v _ I1 r1 q1) fun _ s2 q=>q
theorem Fu{i:Nat}{x:Str}{e:Expr}{te:TE}{pos':Pos}(hN:X.N.Nodup)(hi:X.N[i]?=some x)(hx:Loc X.env.scope x)(he:PE X e te)(hs:swapsWith e (some (.Name x pos')) pos.line X.env=pure false:=by rfl)(hf:X.fn x=true\/X.env.scope.names.lookup x=some .local:=by first|exact .inl rfl|exact .inr rfl|assumption) :
  PS X (.Assign [.Name x pos'] e pos) (E3 te (tF i)):=by
 intro pins s σ H D I h;refine wpAny_Assign_Name (thn (he pins s σ H _ I h) fun v s1 hz=>?_) hs;obtain⟨y,H1,I1,r1,q1⟩:=hz;exact qA I1 hN hi hx r1 (fun s2 I2=>⟨_,H1,I2,q1⟩) hf
def uD(c:TT)(tb:TS):TS:=fun D σ H=>∃W:Nat->St->Hp->Prop,(∃m,W m σ H)/\∀m σ H,W m σ H->
 c σ H fun b H1=>if b=true then ∃N:St->Hp->Prop,(∀σ' H',N σ' H'->∃m',m'<m/\W m' σ' H')/\tb { D with nx:=N,ct:=N,bk:=D.nx } σ H1 else D.nx σ H1
theorem yI{c:Expr}{body:List Stmt}{tc:TT}{tb:TS}(hp:PassesOwn (model X.prog X.w) X.A X.env X.xe)(hc:PT X c tc)(hb:PSs X body tb):PS X (.While c body [] pos) (uD tc tb):=by
 intro pins s σ H D I h;obtain⟨W,⟨m0,w0⟩,turn⟩:=h;refine wpAny_While (codeAny_whileLoop (fun n s'=>∃σ' H',Inv X pins σ' H' s'/\W n σ' H') ?_ m0 ⟨σ,H,I,w0⟩);rintro n s1 ⟨σ1,H1,I1,w1⟩;refine wpAny_passesOwn hp (thn (hc pins s1 σ1 H1 _ I1 (turn n σ1 H1 w1)) fun b s2 ⟨H2,I2,q2⟩=>?_);cases b with
 |true=>
  obtain⟨N,hN,q2⟩:=q2;rw[if_pos rfl];refine wpAny_passesOwn hp (thn (hb pins s2 σ1 H2 _ I2 q2) fun f s3 q3=>?_);cases f with
  |next=>
   obtain⟨σ3,H3,I3,n3⟩:=q3;obtain⟨m',hm,w3⟩:=hN σ3 H3 n3;exact⟨m',hm,σ3,H3,I3,w3⟩
  |cont=>
   obtain⟨σ3,H3,I3,n3⟩:=q3;obtain⟨m',hm,w3⟩:=hN σ3 H3 n3;exact⟨m',hm,σ3,H3,I3,w3⟩
  |brk=>exact q3
  |ret v=>exact q3
 |false=>
  rw[if_neg Qq];exact wpAny_execs_nil ⟨σ1,H2,I2,q2⟩
structure It where
 go:Nat->Hp->Prop
 yld:Nat->Hp->V->Hp->Prop
 stop:Nat->Hp->Prop
def xG(X:Cx)(pins:List (Addr×Obj))(H:Hp)(b:Addr):Prop:=
 H b=none/\b≠X.env.locals/\b∉X.fs/\(b∈X.ex\/X.s₀.heap.objs.size<=b)/\(∀x c,X.env.cells.lookup x=some c->c≠b)/\∀p∈X.pn++pins,p.1≠b
theorem Inv.fpOk{X:Cx}{pins:List (Addr×Obj)}{σ:St}{H H':Hp}{s:Shared}{b:Addr}(I:Inv X pins σ H s)(hb:s.heap.objs.size<=b)(hn:H' b=none):xG X pins H' b:=by
 refine⟨hn,X0 (Qw I.lt hb),I.nofs hb,.inr (Qu I.sz hb),fun x c e z=>?_,fun p hp z=>?_⟩
 ·obtain⟨v,q⟩:=I.cell x c e;exact absurd (Qw q.lt (by rw[z];exact hb)) (Nat.lt_irrefl _)
 ·exact absurd (Qw (QV (I.pin p hp).1) (by rw[z];exact hb)) (Nat.lt_irrefl _)
structure GX(P:Program)(w:World)(K:Q5)(tg:Expr)(J:It)(fp:List Addr)(it:Addr)(tn:Nat->Heap->Prop):Prop where
 mem:it∈fp
 obj:∀i h,tn i h->∀b∈fp,∃o,h.get? b=some o/\∀v,o.data≠.cell v
 keep:∀i h h',tn i h->(∀b∈fp,∀o,h.get? b=some o->h'.get? b=some o)->tn i h'
 item:∀(X:Cx),X.prog=P->X.w=w->X.K=K->X.calm=true->∀(i:Nat) (pins:List (Addr×Obj)) (s:Shared) (σ:St) (H:Hp) (E:Value->Shared->Prop),Inv X pins σ H s->(∀b∈fp,xG X pins H b)->tn i s.heap->J.go i H->
  wpAny (model P w) X.A (pyNext (.ref it)) (fun r s1=>∃u,r=some u/\
   wpAny (model P w) X.A (letOwnedTupleGo tg (.ref it) u) (fun _ s2=>∃x H',Inv X pins σ H' s2/\bR x u/\J.yld i H x H'/\tn (i+1) s2.heap/\∀b∈fp,H' b=none) E s1) E s
 done:∀(X:Cx),X.prog=P->X.w=w->X.K=K->X.calm=true->∀(i:Nat) (pins:List (Addr×Obj)) (s:Shared) (σ:St) (H:Hp) (E:Value->Shared->Prop),Inv X pins σ H s->(∀b∈fp,xG X pins H b)->tn i s.heap->J.stop i H->
  wpAny (model P w) X.A (pyNext (.ref it)) (fun r s1=>r=none/\Inv X pins σ H s1) E s
 self:∀(A:Around) (i:Nat) (s:Shared) (Q:Value->Shared->Prop) (E:Value->Shared->Prop),tn i s.heap->Q (.ref it) s->wpAny (model P w) A (pyIter (.ref it)) Q E s
abbrev TI:=St->Hp->(It->Hp->Prop)->Prop
def PIE(X:Cx)(pins:List (Addr×Obj))(σ:St)(tg:Expr)(R:It->Hp->Prop)(itv:Value)(s2:Shared):Prop:=
 ∃(it:Addr) (fp:List Addr) (tn:Nat->Heap->Prop) (J:It) (H':Hp),itv=.ref it/\Inv X pins σ H' s2/\GX X.prog X.w X.K tg J fp it tn/\tn 0 s2.heap/\(∀b∈fp,xG X pins H' b)/\R J H'
def PI(X:Cx)(tg iter:Expr)(wi:TI):Prop:=
 ∀(pins:List (Addr×Obj)) (s:Shared) (σ:St) (H:Hp) (R:It->Hp->Prop),Inv X pins σ H s->wi σ H R->
  wpAny (model X.prog X.w) X.A (eval iter X.env) (fun v s1=>wpAny (model X.prog X.w) X.A (pyIter v) (PIE X pins σ tg R) X.xe s1) X.xe s
theorem zG {M : Model} {A : Around} {E : Value -> Shared -> Prop} {s : Shared} {tg : Expr} {it : Addr} {u : Value} {o : Obj} {n : String} {vs : Array Value} {Q : Unit -> Shared -> Prop} (ho : s.heap.get? it = some o) (hc : o.cls = .type n) (hd : o.data = .fields vs)
    (hn:["enumerate","zip","dict_itemiterator","dict_reverseitemiterator","odict_iterator","itertools.zip_longest","itertools.pairwise"].contains n=false) (hQ:Q () s):wpAny M A (letOwnedTupleGo tg (.ref it) u) Q E s:=by
  unfold letOwnedTupleGo;cases tg<;>first
    |exact Q6 hQ
    | (cases u <;> first
        |exact Q6 hQ
        | (refine Q0 (wpAny_load ho ?_)
           rw[hc,hd];show wpAny M A (if (["enumerate","zip","dict_itemiterator","dict_reverseitemiterator","odict_iterator","itertools.zip_longest","itertools.pairwise"].contains n&&vs[0]? == some (rawInt _))=true then _ else _) Q E s;rw[if_neg (by intro h;rw[hn,Bool.false_and]at h;cases h)];exact Q6 hQ))
def Itl(K:Q5)(a:Addr):It:=
 ⟨fun i H=>∃xs x,SqL K H a xs/\xs[i]?=some x,fun i H x H'=>H'=H/\∀xs,SqL K H a xs->xs[i]?=some x,fun i H=>∃xs,SqL K H a xs/\xs.length<=i⟩
def Itt(K:Q5)(a:Addr):It:=
 ⟨fun i H=>∃xs x,SqT K H a xs/\xs[i]?=some x,fun i H x H'=>H'=H/\∀xs,SqT K H a xs->xs[i]?=some x,fun i H=>∃xs,SqT K H a xs/\xs.length<=i⟩
def Itr(lo:Int)(n:Nat):It:=⟨fun i _=>i<n,fun i H x H'=>H'=H/\x=.int (lo+i),fun i _=>n<=i⟩
theorem uA{P:Program}{w:World}{K:Q5}{tg:Expr}(a it:Addr):GX P w K tg (Itl K a) [it] it (fun i h=>h.IsListIter it a i) where
 mem:=by simp
 obj:=fun i h st b hb=>by
  have e:b=it:=by simpa using hb
  subst e;obtain⟨o,e,c,d⟩:=st;exact⟨o,e,fun v z=>by rw[d]at z;cases z⟩
 keep:=fun i h h' st k=>st.at fun o e=>k it (by simp) o e
 item:=by
  intro X hP hw hK hc i pins s σ H E I hf st hg;subst hP hw hK;obtain⟨xs,x,hq,hx⟩:=hg;obtain⟨its,rv,p,hz⟩:=I.list hq;obtain⟨u,hu,ru⟩:=rv.get hx;obtain⟨f0,f1,f2,f3,f4,f5⟩:=hf it (by simp);refine wpAny_pyNext_list_item st p.isList (x:=u) (by simpa using hu) fun h' st' sb=>?_;have I1:Inv X pins σ H { s with heap:=h' }:=I.turned (t':=s.toks) (fun b o hb e=>(sb.2 b hb).trans e) f0 f1 f3 f4 f5;obtain⟨o,e,c,d⟩:=id st';exact⟨u,rfl,zG (s:={ s with heap:=h' }) e c d (by decide) ⟨x,H,I1,ru,⟨rfl,fun ys hy=>by rw[I.list_inj hy hq];exact hx⟩,st',fun b hb=>(hf b hb).1⟩⟩
 done:=by
  intro X hP hw hK hc i pins s σ H E I hf st hg;subst hP hw hK;obtain⟨xs,hq,hx⟩:=hg;obtain⟨its,rv,p,hz⟩:=I.list hq;obtain⟨f0,f1,f2,f3,f4,f5⟩:=hf it (by simp);have hl:=rv.length;exact wpAny_pyNext_list_end (I.ok.hd hc) st p.isList (by simp;omega) fun h' eb=>⟨rfl,I.turned (t':=s.toks) (fun b o hb e=>eb b o hb e) f0 f1 f3 f4 f5⟩
 self:=fun _ _ _ _ _ st h=>wpAny_pyIter_listiter st h
theorem sG{P:Program}{w:World}{K:Q5}{tg:Expr}(a it:Addr):GX P w K tg (Itt K a) [it] it (fun i h=>h.IsTupleIter it a i) where
 mem:=by simp
 obj:=fun i h st b hb=>by
  have e:b=it:=by simpa using hb
  subst e;obtain⟨o,e,c,d⟩:=st;exact⟨o,e,fun v z=>by rw[d]at z;cases z⟩
 keep:=fun i h h' st k=>st.at fun o e=>k it (by simp) o e
 item:=by
  intro X hP hw hK hc i pins s σ H E I hf st hg;subst hP hw hK;obtain⟨xs,x,hq,hx⟩:=hg;obtain⟨its,rv,p,hz⟩:=I.tuple hq;obtain⟨u,hu,ru⟩:=rv.get hx;obtain⟨f0,f1,f2,f3,f4,f5⟩:=hf it (by simp);refine wpAny_pyNext_tuple_item st (show s.heap.IsTuple a its.toArray from p) (x:=u) (by simpa using hu) fun h' st' sb=>?_;have I1:Inv X pins σ H { s with heap:=h' }:=I.turned (t':=s.toks) (fun b o hb e=>(sb.2 b hb).trans e) f0 f1 f3 f4 f5;obtain⟨o,e,c,d⟩:=id st';exact⟨u,rfl,zG (s:={ s with heap:=h' }) e c d (by decide) ⟨x,H,I1,ru,⟨rfl,fun ys hy=>by rw[I.tuple_inj hy hq];exact hx⟩,st',fun b hb=>(hf b hb).1⟩⟩
 done:=by
  intro X hP hw hK hc i pins s σ H E I hf st hg;subst hP hw hK;obtain⟨xs,hq,hx⟩:=hg;obtain⟨its,rv,p,hz⟩:=I.tuple hq;obtain⟨f0,f1,f2,f3,f4,f5⟩:=hf it (by simp);have hl:=rv.length;exact wpAny_pyNext_tuple_end (I.ok.hd hc) st (show s.heap.IsTuple a its.toArray from p) (by simp;omega) fun h' eb=>⟨rfl,I.turned (t':=s.toks) (fun b o hb e=>eb b o hb e) f0 f1 f3 f4 f5⟩
 self:=fun _ _ _ _ _ st h=>wpAny_pyIter_tupleiter st h
theorem sH{P:Program}{w:World}{K:Q5}{tg:Expr}(it:Addr)(lo:Int)(n:Nat):GX P w K tg (Itr lo n) [it] it (fun i h=>IsRangeIter h it (lo+(i:Nat)*1) ((n:Int)-(i:Nat)) 1) where
 mem:=by simp
 obj:=fun i h st b hb=>by
  have e:b=it:=by simpa using hb
  subst e;exact⟨_,st,fun v z=>by
   have z':Data.fields _=Data.cell v:=z;cases z'⟩
 keep:=fun i h h' st k=>k it (by simp) _ st
 item:=by
  intro X hP hw hK hc i pins s σ H E I hf st hg;subst hP hw hK;obtain⟨f0,f1,f2,f3,f4,f5⟩:=hf it (by simp);have W:=Walks.range (prog:=X.prog) (w:=X.w) (I.ok.hd hc) it lo 1 n;refine W.item i s _ _ hg st fun v h' tk hv st' kk=>?_;obtain⟨t,rfl⟩:=hv;have I1:Inv X pins σ H { s with heap:=h',toks:=tk }:=I.turned (fun b o hb e=>kk b o (by simpa using hb) e) f0 f1 f3 f4 f5;refine⟨_,rfl,zG (s:={ s with heap:=h',toks:=tk }) (n:="range_iterator") st' rfl rfl (by decide) ⟨.int (lo+i),H,I1,⟨t,?_⟩,⟨rfl,rfl⟩,st',fun b hb=>(hf b hb).1⟩⟩;rw[Int.mul_one]
 done:=by
  intro X hP hw hK hc i pins s σ H E I hf st hg;subst hP hw hK;obtain⟨f0,f1,f2,f3,f4,f5⟩:=hf it (by simp);exact wpAny_pyNext_range_end (I.ok.hd hc) st (by have:n<=i:=hg;omega) fun h' eb=>⟨rfl,I.turned (t':=s.toks) (fun b o hb e=>eb b o hb e) f0 f1 f3 f4 f5⟩
 self:=fun _ _ _ _ _ st h=>wpAny_pyIter_rangeiter st h
section
variable{tg:Expr}
def GA(K:Q5)(tl:TE):TI:=fun σ H R=>tl σ H fun x H1=>∃a,x=.ref a/\(∃xs,SqL K H1 a xs)/\R (Itl K a) H1
def JR(K:Q5)(tl:TE):TI:=fun σ H R=>tl σ H fun x H1=>∃a,x=.ref a/\(∃xs,SqT K H1 a xs)/\R (Itt K a) H1
theorem CH{l:Expr}{tl:TE}(hl:PE X l tl):PI X tg l (GA X.K tl):=by
 intro pins s σ H R I h;refine thn (hl pins s σ H _ I h) fun v s1 hz=>?_;obtain⟨x,H1,I1,r1,q1⟩:=hz;obtain⟨a,e,⟨xs,hq⟩,q⟩:=q1;subst e;cases r1;obtain⟨its,rv,p,hz⟩:=I1.list hq;refine wpAny_pyIter_list p.isList ?_;refine⟨s1.heap.objs.size,[s1.heap.objs.size],_,_,H1,rfl,I1.kept (t':=s1.toks) fun b o e=>Q3 _ e,uA a _,⟨_,QU _ rfl,rfl,rfl⟩,fun b hb=>?_,q⟩;have e:b=s1.heap.objs.size:=by simpa using hb
 subst e;exact I1.fpOk (QJ _) (I1.hok.fresh (QJ _))
theorem Fz{l:Expr}{tl:TE}(hl:PE X l tl):PI X tg l (JR X.K tl):=by
 intro pins s σ H R I h;refine thn (hl pins s σ H _ I h) fun v s1 hz=>?_;obtain⟨x,H1,I1,r1,q1⟩:=hz;obtain⟨a,e,⟨xs,hq⟩,q⟩:=q1;subst e;cases r1;obtain⟨its,rv,p,hz⟩:=I1.tuple hq;refine wpAny_pyIter_tuple (show s1.heap.IsTuple a its.toArray from p) ?_;refine⟨s1.heap.objs.size,[s1.heap.objs.size],_,_,H1,rfl,I1.kept (t':=s1.toks) fun b o e=>Q3 _ e,sG a _,⟨_,QU _ rfl,rfl,rfl⟩,fun b hb=>?_,q⟩;have e:b=s1.heap.objs.size:=by simpa using hb
 subst e;exact I1.fpOk (QJ _) (I1.hok.fresh (QJ _))
theorem yx{pins:List (Addr×Obj)}{σ:St}{H:Hp}{s:Shared}{R:It->Hp->Prop}{E:Value->Shared->Prop}{lo hi:Int}{t u v:Tok}{tk:Nat}(I:Inv X pins σ H s)(h1:-(2^62)<=lo)(h2:lo<2^62)(h3:-(2^62)<=hi)(h4:hi<2^62)
  (q:R (Itr lo (hi-lo).toNat) H):wpAny (model X.prog X.w) X.A (pyIter (.ref s.heap.objs.size)) (PIE X pins σ tg R) E { s with heap:=s.heap.push { cls:=.type "range",data:=.fields #[.int lo t,.int hi u,.int 1 v] },toks:=tk }:=by
 refine wpAny_pyIter_range (IsRange.new ..) (small_one h1 h2 h3 h4) ?_;have I1:Inv X pins σ H { s with heap:=s.heap.push { cls:=.type "range",data:=.fields #[.int lo t,.int hi u,.int 1 v] },toks:=tk }:=I.kept fun b o e=>Q3 _ e;refine⟨(s.heap.push { cls:=.type "range",data:=.fields #[.int lo t,.int hi u,.int 1 v] }).objs.size,[(s.heap.push { cls:=.type "range",data:=.fields #[.int lo t,.int hi u,.int 1 v] }).objs.size],_,_,H,rfl,
  I1.kept (t':=tk) fun b o e=>Q3 _ e,sH _ lo (hi-lo).toNat,?_,fun b hb=>?_,q⟩
 ·have e1:lo+((0:Nat):Int)*1=lo:=by simp
  have e2:(((hi-lo).toNat:Nat):Int)-((0:Nat):Int)=Builtin.Range.rangeSize lo hi 1:=by rw[rangeSize_one];split<;>omega
  show IsRangeIter _ _ (lo+((0:Nat):Int)*1) ((((hi-lo).toNat:Nat):Int)-((0:Nat):Int)) 1;rw[e1,e2];exact QU _ rfl
 ·have e:b=(s.heap.push { cls:=.type "range",data:=.fields #[.int lo t,.int hi u,.int 1 v] }).objs.size:=by simpa using hb
  subst e;exact I1.fpOk (QJ _) (I1.hok.fresh (QJ _))
def Gz(ta:TA):TI:=fun σ H R=>ta σ H fun vs H1=>∃j:Int,vs=[.int j]/\-(2^62)<=j/\j<2^62/\R (Itr 0 j.toNat) H1
theorem vo{a:Expr}{ta:TA}{p pos:Pos}(hg:Gl X "range")(hm:X.mg "range"=none)(ha:PA X [a] ta)(hs:starEach [a] X.env=[(false,eval a X.env)]:=by rfl):PI X tg (.Call (.Name "range" p) [a] [] pos) (Gz ta):=by
 intro pins s σ H R I h;refine Call_ (fU I hg hm boot_range (PyProof.Rows.callWith_type1 (thn (ha pos pins s σ H _ I h) fun us s1 ⟨vs,H1,I1,r1,q1⟩=>?_) hs rfl));obtain⟨j,e,q1,q2,q⟩:=q1;subst e;cases r1 with
 |cons r rr=>
  cases rr;obtain⟨t,rfl⟩:=r;exact call_range_1 (yx I1 (by omega) (by omega) q1 q2 (by simpa using q))
def HY(wi:TI)(g:TG)(tb:TS):TS:=fun D σ H=>wi σ H fun J H1=>∃W:Nat->Nat->St->Hp->Prop,(∃m,W 0 m σ H1)/\∀i m σ H,W i m σ H->
 (J.stop i H/\D.nx σ H)\/(J.go i H/\∃N:St->Hp->Prop,(∀σ' H',N σ' H'->∃m',m'<m/\W (i+1) m' σ' H')/\∀x H',J.yld i H x H'->g x σ H' fun σ2 H2=>tb { D with nx:=N,ct:=N,bk:=D.nx } σ2 H2)
def qT(fp:List Addr)(h:Heap):List (Addr×Obj):=fp.filterMap fun b=>(h.get? b).map fun o=>(b,o)
theorem c7{fp:List Addr}{h:Heap}{b:Addr}{o:Obj}(hb:b∈fp)(e:h.get? b=some o):(b,o)∈qT fp h:=List.mem_filterMap.mpr ⟨b,hb,by rw[e];rfl⟩
theorem vB{fp:List Addr}{h:Heap}{p:Addr×Obj}(hp:p∈qT fp h):p.1∈fp/\h.get? p.1=some p.2:=by
 obtain⟨b,hb,e⟩:=List.mem_filterMap.mp hp;cases q:h.get? b with
 |none=>rw[q]at e;cases e
 |some o=>
  rw[q]at e;have e':(b,o)=p:=Option.some.inj e;subst e';exact⟨hb,q⟩
theorem Inv.pinned{pins:List (Addr×Obj)}{σ:St}{H:Hp}{s:Shared}{fp:List Addr}(I:Inv X pins σ H s)(hf:∀b∈fp,xG X pins H b)(ho:∀b∈fp,∃o,s.heap.get? b=some o/\∀v,o.data≠.cell v):Inv X (pins++qT fp s.heap) σ H s:=
 I.pins_of fun p hp=>(QN.mp hp).elim (fun z=>I.pin p (QL _ z)) fun z=>by
  obtain⟨hb,e⟩:=vB z;obtain⟨f0,f1,f2,_⟩:=hf p.1 hb;obtain⟨o,e',d⟩:=ho p.1 hb;rw[e]at e';cases e';exact⟨e,f0,f1,f2,d⟩
theorem Inv.unpinned{pins pl:List (Addr×Obj)}{σ:St}{H:Hp}{s:Shared}(I:Inv X (pins++pl) σ H s):Inv X pins σ H s:=I.pins_of fun p hp=>I.pin p (QL _ (Qm _ hp))
theorem Fx{iter:Expr}{body:List Stmt}{wi:TI}{g:TG}{tb:TS}{pos:Pos}(hp:PassesOwn (model X.prog X.w) X.A X.env X.xe)(hc:X.calm=true)(hi:PI X tg iter wi)(hg:PG X tg g)(hb:PSs X body tb)
  (hs:∀x,foldedSetIterable iter X.env x=pure x:=by intro _;rfl):PS X (.For tg iter body [] pos) (HY wi g tb):=by
 intro pins s σ H D I h;refine wpAny_For (thn (hi pins s σ H _ I h) fun v s1 h1=>thn h1 fun itv s2 h2=>?_) hs;obtain⟨it,fp,tn,J,H2,e,I2,T,st2,f2,W,⟨m0,w0⟩,turn⟩:=h2;subst e;have stat:∀{H':Hp},(∀b∈fp,H' b=none)->∀b∈fp,xG X pins H' b:=fun hn b hb=>⟨hn b hb,(f2 b hb).2⟩;refine codeAny_forLoop_any (fun n s'=>∃i σ' H',Inv X pins σ' H' s'/\tn i s'.heap/\(∀b∈fp,H' b=none)/\W i n σ' H') ?_ m0 ⟨0,σ,H2,I2,st2,fun b hb=>(f2 b hb).1,w0⟩;rintro n s3 ⟨i,σ3,H3,I3,st3,fr3,w3⟩;rcases turn i n σ3 H3 w3 with⟨stop,qn⟩|⟨go,N,hN,step⟩
 ·refine wpAny_passesOwn hp (thn (T.done X rfl rfl rfl hc i pins s3 σ3 H3 X.xe I3 (stat fr3) st3 stop) fun r s4 ⟨hr,I4⟩=>?_);subst hr;exact wpAny_execs_nil ⟨σ3,H3,I4,qn⟩
 ·refine wpAny_passesOwn hp (thn (T.item X rfl rfl rfl hc i pins s3 σ3 H3 X.xe I3 (stat fr3) st3 go) fun r s4 ⟨u,hr,h4⟩=>?_);subst hr;refine wpAny_passesOwn hp (thn h4 fun _ s5 hz=>?_);obtain⟨x,H5,I5,r5,y5,st5,fr5⟩:=hz;have I5':=I5.pinned (stat fr5) (T.obj _ _ st5);refine wpAny_passesOwn hp (thn (hg _ s5 σ3 H5 x u _ I5' r5 (step x H5 y5)) fun _ s6 hz=>?_);obtain⟨σ6,H6,I6,q6⟩:=hz;refine wpAny_passesOwn hp (thn (hb _ s6 σ6 H6 _ I6 q6) fun f s7 q7=>?_);have again:∀{σ7:St} {H7:Hp},Inv X (pins++qT fp s5.heap) σ7 H7 s7->N σ7 H7->∃m,m<n/\∃i σ' H',Inv X pins σ' H' s7/\tn i s7.heap/\(∀b∈fp,H' b=none)/\W i m σ' H':=fun{σ7 H7} I7 n7=>by
   obtain⟨m',hm,w7⟩:=hN σ7 H7 n7;refine⟨m',hm,i+1,σ7,H7,I7.unpinned,T.keep _ _ _ st5 fun b hb o e=>(I7.pin (b,o) (QL _ (QL _ (c7 hb e)))).1,fun b hb=>?_,w7⟩;obtain⟨o,e,d⟩:=T.obj _ _ st5 b hb;exact(I7.pin (b,o) (QL _ (QL _ (c7 hb e)))).2.1
  cases f with
  |next=>obtain⟨σ7,H7,I7,n7⟩:=q7;exact again I7 n7
  |cont=>obtain⟨σ7,H7,I7,n7⟩:=q7;exact again I7 n7
  |brk=>obtain⟨σ7,H7,I7,q7⟩:=q7;exact⟨σ7,H7,I7.unpinned,q7⟩
  |ret v=>obtain⟨x7,σ7,H7,I7,r7,q7⟩:=q7;exact⟨x7,σ7,H7,I7.unpinned,r7,q7⟩
end
abbrev R2:=V->V->Hp->VK->Prop
def OpR(X:Cx)(f:Value->Value->Sem Value)(r:R2):Prop:=
 ∀(pins:List (Addr×Obj)) (s:Shared) (σ:St) (H:Hp) (x y:V) (v u:Value) (Q:VK),Inv X pins σ H s->bR x v->bR y u->r x y H Q->
  wpAny (model X.prog X.w) X.A (f v u) (EP X pins σ Q) X.xe s
def UnR(X:Cx)(f:Value->Sem Value)(r:V->Hp->VK->Prop):Prop:=
 ∀(pins:List (Addr×Obj)) (s:Shared) (σ:St) (H:Hp) (x:V) (v:Value) (Q:VK),Inv X pins σ H s->bR x v->r x H Q->
  wpAny (model X.prog X.w) X.A (f v) (EP X pins σ Q) X.xe s
def bX(X:Cx)(f:Value)(r:List V->Hp->VK->Prop):Prop:=
 ∀(pins:List (Addr×Obj)) (s:Shared) (σ:St) (H:Hp) (xs:List V) (us:List Value) (Q:VK),Inv X pins σ H s->aX xs us->r xs H Q->
  wpAny (model X.prog X.w) X.A (call f us) (EP X pins σ Q) X.xe s
def tOp(r:R2)(ta tb:TE):TE:=fun σ H Q=>ta σ H fun x H1=>tb σ H1 fun y H2=>r x y H2 Q
def tUn(r:V->Hp->VK->Prop)(ta:TE):TE:=fun σ H Q=>ta σ H fun x H1=>r x H1 Q
def rI(C:Int->Int->Prop)(g:Int->Int->V):R2:=fun x y H Q=>∃i j,x=.int i/\y=.int j/\C i j/\Q (g i j) H
def rI0(g:Int->Int->V):R2:=fun x y H Q=>∃i j,x=.int i/\y=.int j/\Q (g i j) H
section
variable{a:Expr}
theorem Jk(ha:PE X a ta)(hb:PE X b tb){pins:List (Addr×Obj)}{s:Shared}{σ:St}{H:Hp}{R:V->V->Hp->Prop}(I:Inv X pins σ H s)
  (h:ta σ H fun x H1=>tb σ H1 fun y H2=>R x y H2) {Q:Value->Shared->Prop} {f:Value->Value->Sem Value}
  (hf:∀v u s2 x y H2,Inv X pins σ H2 s2->bR x v->bR y u->R x y H2->wpAny (model X.prog X.w) X.A (f v u) Q X.xe s2) :
  wpAny (model X.prog X.w) X.A (eval a X.env) (fun v s₁=>wpAny (model X.prog X.w) X.A (eval b X.env) (fun u s₂=>wpAny (model X.prog X.w) X.A (f v u) Q X.xe s₂) X.xe s₁) X.xe s:=by
 refine thn (ha pins s σ H _ I h) fun v s1 hz=>?_;obtain⟨x,H1,I1,r1,q1⟩:=hz;refine thn (hb pins s1 σ H1 _ I1 q1) fun u s2 hz=>?_;obtain⟨y,H2,I2,r2,q2⟩:=hz;exact hf v u s2 x y H2 I2 r1 r2 q2
theorem Iy{op:Operator}{r:R2}(ho:OpR X (binaryOp op) r)(ha:PE X a ta)(hb:PE X b tb):PE X (.BinOp a op b pos) (tOp r ta tb):=by
 intro pins s σ H Q I h;exact wpAny_BinOp (Jk ha hb I h fun v u s2 x y H2 I2 rx ry q=>ho pins s2 σ H2 x y v u Q I2 rx ry q)
theorem Iw{op:UnaryOp}{r:V->Hp->VK->Prop}(ho:UnR X (unaryOp op) r)(ha:PE X a ta):PE X (.UnaryOp op a pos) (tUn r ta):=by
 intro pins s σ H Q I h;exact UnaryOp_ (thn (ha pins s σ H _ I h) fun v s1 ⟨x,H1,I1,r1,q1⟩=>ho pins s1 σ H1 x v Q I1 r1 q1)
theorem opI{f:Value->Value->Sem Value}{C:Int->Int->Prop}{g:Int->Int->Int}
  (rule:∀(i j:Int) (t u:Tok) (s:Shared) (Q:Value->Shared->Prop) (E:Value->Shared->Prop),C i j->Q (.int (g i j) s.toks) { s with toks:=s.toks+1 }->wpAny (model X.prog X.w) X.A (f (.int i t) (.int j u)) Q E s) :
  OpR X f (rI C fun i j=>.int (g i j)):=by
 intro pins s σ H x y v u Q I rx ry h;obtain⟨i,j,rfl,rfl,hc,q⟩:=h;obtain⟨t,rfl⟩:=rx;obtain⟨t',rfl⟩:=ry;exact rule i j t t' s _ _ hc ⟨.int (g i j),H,I.tok _,⟨_,rfl⟩,q⟩
theorem JH{f:Value->Value->Sem Value}{g:Int->Int->Int}
  (rule:∀(i j:Int) (t u:Tok) (s:Shared) (Q:Value->Shared->Prop) (E:Value->Shared->Prop),Q (.int (g i j) s.toks) { s with toks:=s.toks+1 }->wpAny (model X.prog X.w) X.A (f (.int i t) (.int j u)) Q E s) :
  OpR X f (rI0 fun i j=>.int (g i j)):=by
 intro pins s σ H x y v u Q I rx ry h;obtain⟨i,j,rfl,rfl,q⟩:=h;obtain⟨t,rfl⟩:=rx;obtain⟨t',rfl⟩:=ry;exact rule i j t t' s _ _ ⟨.int (g i j),H,I.tok _,⟨_,rfl⟩,q⟩
theorem IL{f:Value->Value->Sem Value}{g:Int->Int->Bool}
  (rule:∀(i j:Int) (t u:Tok) (s:Shared) (Q:Value->Shared->Prop) (E:Value->Shared->Prop),Q (.bool (g i j)) s->wpAny (model X.prog X.w) X.A (f (.int i t) (.int j u)) Q E s) :
  OpR X f (rI0 fun i j=>.bl (g i j)):=by
 intro pins s σ H x y v u Q I rx ry h;obtain⟨i,j,rfl,rfl,q⟩:=h;obtain⟨t,rfl⟩:=rx;obtain⟨t',rfl⟩:=ry;exact rule i j t t' s _ _ ⟨.bl (g i j),H,I,rfl,q⟩
def JZ(i j:Int):Prop:=0<=j/\j<=1000000/\i.natAbs<2^64
def Bg(i j:Int):Prop:=(-(2^64)<i/\i<2^64)\/(-(2^64)<j/\j<2^64)
theorem Bg.ok{i j:Int}(h:Bg i j):IntMulOk i j:=by
 rcases h with⟨h1,h2⟩|⟨h1,h2⟩
 ·exact .of_left (intBits_le_64 h1 h2)
 ·exact .of_right (intBits_le_64 h1 h2)
theorem FX:OpR X (binaryOp .Add) (rI0 fun i j=>.int (i+j)):=JH fun _ _ _ _ _ _ _ q=>add_int q
theorem qV:OpR X (binaryOp .Sub) (rI0 fun i j=>.int (i-j)):=JH fun _ _ _ _ _ _ _ q=>sub_int q
theorem ig:OpR X (binaryOp .Mult) (rI Bg fun i j=>.int (i*j)):=opI fun _ _ _ _ _ _ _ hc q=>mul_int q hc.ok
theorem qX:OpR X (binaryOp .Mod) (rI (fun _ j=>0<j) fun i j=>.int (i % j)):=opI fun i j _ _ _ _ _ hc q=>by
 have h1:(0:Int)<j:=hc;exact mod_int' (by omega) (by rw[Int.fmod_eq_emod_of_nonneg i (by omega)];exact q)
end
def H0:V->V->Bool
 |.non,.non=>true|.non,.int _=>true|.int _,.non=>true|.non,.bl _=>true|.bl _,.non=>true|.non,.str _=>true|.str _,.non=>true
 |.int _,.int _=>true|.bl _,.bl _=>true|.str _,.str _=>true|.byt _,.byt _=>true
 |.int _,.str _=>true|.str _,.int _=>true|.bl _,.str _=>true|.str _,.bl _=>true
 |_,_=>false
def rEq:R2:=fun x y H Q=>H0 x y=true/\Q (.bl (decide (x=y))) H
def rNe:R2:=fun x y H Q=>H0 x y=true/\Q (.bl (!decide (x=y))) H
theorem wN{i j:Int}:decide (V.int i=V.int j)=(i == j):=by
 rw[Zi];simp
theorem A5{i j:Bool}:decide (V.bl i=V.bl j)=(i == j):=by
 rw[Zi];simp
theorem wM{i j:Str}:decide (V.str i=V.str j)=(i == j):=by
 rw[Zi];simp
theorem wO{i j:Array UInt8}:decide (V.byt i=V.byt j)=(i.toList == j.toList):=by
 rw[Zi];cases i;cases j;simp
section
variable{a c:Expr}
theorem aY{pins:List (Addr×Obj)}{σ:St}{H:Hp}{s:Shared}{Q:VK}{k k':Bool}(I:Inv X pins σ H s)(q:Q (.bl k) H)(e:k=k'):EP X pins σ Q (.bool k') s:=by
 subst e;exact⟨.bl k,H,I,rfl,q⟩
theorem pJ:OpR X (compareOp .Eq) rEq:=by
 intro pins s σ H x y v u Q I rx ry h;obtain⟨hs,q⟩:=h;cases x with
 |non=>
  cases rx;cases y with
  |non=>cases ry;exact PySem.EqNone.eq_none_none (aY I q (by simp))
  |bl j=>cases ry;exact PySem.EqNone.eq_none_bool (aY I q (by simp))
  |int j=>obtain⟨t',rfl⟩:=ry;exact PySem.EqNone.eq_none_int (aY I q (by simp))
  |str j=>obtain⟨t',rfl⟩:=ry;exact PySem.EqNone.eq_none_str (aY I q (by simp))
  |_=>exact absurd (show false=true from hs) Qq
 |bl i=>
  cases rx;cases y with
  |non=>cases ry;exact PySem.EqNone.eq_bool_none (aY I q (by simp))
  |bl j=>cases ry;exact eq_bool (aY I q A5)
  |str j=>obtain⟨t',rfl⟩:=ry;exact PySem.EqMixed.eq_bool_str (aY I q (by simp))
  |_=>exact absurd (show false=true from hs) Qq
 |int i=>
  obtain⟨t,rfl⟩:=rx;cases y with
  |non=>cases ry;exact PySem.EqNone.eq_int_none (aY I q (by simp))
  |int j=>obtain⟨t',rfl⟩:=ry;exact eq_int (aY I q wN)
  |str j=>obtain⟨t',rfl⟩:=ry;exact PySem.EqMixed.eq_int_str (aY I q (by simp))
  |_=>exact absurd (show false=true from hs) Qq
 |str i=>
  obtain⟨t,rfl⟩:=rx;cases y with
  |non=>cases ry;exact PySem.EqNone.eq_str_none (aY I q (by simp))
  |bl j=>cases ry;exact PySem.EqMixed.eq_str_bool (aY I q (by simp))
  |int j=>obtain⟨t',rfl⟩:=ry;exact PySem.EqMixed.eq_str_int (aY I q (by simp))
  |str j=>obtain⟨t',rfl⟩:=ry;exact eq_str (aY I q wM)
  |_=>exact absurd (show false=true from hs) Qq
 |byt i=>
  obtain⟨t,rfl⟩:=rx;cases y with
  |byt j=>obtain⟨t',rfl⟩:=ry;exact PySem.W.eq_bytes (aY I q wO)
  |_=>exact absurd (show false=true from hs) Qq
 |_=>cases y<;>exact absurd (show false=true from hs) Qq
theorem nQ:OpR X (compareOp .NotEq) rNe:=by
 intro pins s σ H x y v u Q I rx ry h;obtain⟨hs,q⟩:=h;cases x with
 |non=>
  cases rx;cases y with
  |non=>cases ry;exact PySem.EqNone.ne_none_none (aY I q (by simp))
  |bl j=>cases ry;exact PySem.EqNone.ne_none_bool (aY I q (by simp))
  |int j=>obtain⟨t',rfl⟩:=ry;exact PySem.EqNone.ne_none_int (aY I q (by simp))
  |str j=>obtain⟨t',rfl⟩:=ry;exact PySem.EqNone.ne_none_str (aY I q (by simp))
  |_=>exact absurd (show false=true from hs) Qq
 |bl i=>
  cases rx;cases y with
  |non=>cases ry;exact PySem.EqNone.ne_bool_none (aY I q (by simp))
  |bl j=>cases ry;exact ne_bool (aY I q (congrArg not A5))
  |str j=>obtain⟨t',rfl⟩:=ry;exact PySem.EqMixed.ne_bool_str (aY I q (by simp))
  |_=>exact absurd (show false=true from hs) Qq
 |int i=>
  obtain⟨t,rfl⟩:=rx;cases y with
  |non=>cases ry;exact PySem.EqNone.ne_int_none (aY I q (by simp))
  |int j=>obtain⟨t',rfl⟩:=ry;exact ne_int (aY I q (congrArg not wN))
  |str j=>obtain⟨t',rfl⟩:=ry;exact PySem.EqMixed.ne_int_str (aY I q (by simp))
  |_=>exact absurd (show false=true from hs) Qq
 |str i=>
  obtain⟨t,rfl⟩:=rx;cases y with
  |non=>cases ry;exact PySem.EqNone.ne_str_none (aY I q (by simp))
  |bl j=>cases ry;exact PySem.EqMixed.ne_str_bool (aY I q (by simp))
  |int j=>obtain⟨t',rfl⟩:=ry;exact PySem.EqMixed.ne_str_int (aY I q (by simp))
  |str j=>obtain⟨t',rfl⟩:=ry;exact ne_str (aY I q (congrArg not wM))
  |_=>exact absurd (show false=true from hs) Qq
 |byt i=>
  obtain⟨t,rfl⟩:=rx;cases y with
  |byt j=>obtain⟨t',rfl⟩:=ry;exact PySem.W.ne_bytes (aY I q (congrArg not wO))
  |_=>exact absurd (show false=true from hs) Qq
 |_=>cases y<;>exact absurd (show false=true from hs) Qq
theorem sX:OpR X (compareOp .Lt) (rI0 fun i j=>.bl (decide (i<j))):=IL fun _ _ _ _ _ _ _ q=>lt_int q
theorem C2:OpR X (compareOp .Gt) (rI0 fun i j=>.bl (decide (j<i))):=IL fun _ _ _ _ _ _ _ q=>gt_int q
theorem FU:OpR X (compareOp .GtE) (rI0 fun i j=>.bl (decide (j<=i))):=IL fun _ _ _ _ _ _ _ q=>ge_int q
theorem OpR.or{f:Value->Value->Sem Value}{r r':R2}(h:OpR X f r)(h':OpR X f r'):OpR X f (fun x y H Q=>r x y H Q\/r' x y H Q):=by
 intro pins s σ H x y v u Q I rx ry q;rcases q with q|q
 ·exact h pins s σ H x y v u Q I rx ry q
 ·exact h' pins s σ H x y v u Q I rx ry q
theorem aT(b:Expr){op:CmpOp}(h:op≠.In:=by decide)(h2:op≠.NotIn:=by decide):behindInMarks op b=false:=by
 have e1:(op == CmpOp.In)=false:=by cases op<;>first|rfl|exact absurd rfl h
 have e2:(op == CmpOp.NotIn)=false:=by cases op<;>first|rfl|exact absurd rfl h2
 cases b<;>simp[behindInMarks,e1,e2]
theorem CM{op:CmpOp}{r:R2}(ho:OpR X (compareOp op) r)(ha:PE X a ta)(hb:PE X b tb)(hm:behindInMarks op b=false):PE X (.Compare a [op] [b] pos) (tOp r ta tb):=by
 intro pins s σ H Q I h;exact wpAny_Compare1 (Jk ha hb I h fun v u s2 x y H2 I2 rx ry q=>ho pins s2 σ H2 x y v u Q I2 rx ry q) hm
def ET(t:TE):TT:=fun σ H Q=>t σ H fun x H'=>∃k,x=.bl k/\Q k H'
theorem Cv{op:CmpOp}{r:R2}(ho:OpR X (compareOp op) r)(ha:PE X a ta)(hb:PE X b tb)(hm:behindInMarks op b=false):PT X (.Compare a [op] [b] pos) (ET (tOp r ta tb)):=by
 intro pins s σ H Q I h;refine wpAny_isTrue_Compare1 (thn (ha pins s σ H _ I h) fun v s1 ⟨x,H1,I1,r1,q1⟩=>thn (hb pins s1 σ H1 _ I1 q1) fun u s2 ⟨y,H2,I2,r2,q2⟩=>
  thn (ho pins s2 σ H2 x y v u _ I2 r1 r2 q2) fun c s3 ⟨z,H3,I3,r3,k,e,q3⟩=>?_) hm
 subst e;cases r3;exact wpAny_truthy_bool ⟨H3,I3,q3⟩
theorem rp:(sizeLine:Nat)<2^63:=by rw[sizeLine_eq];decide
theorem sY:OpR X (binaryOp .Add) (fun x y H Q=>∃i j,x=.str i/\y=.str j/\i.length+j.length<=sizeLine/\Q (.str (i++j)) H):=by
 intro pins s σ H x y v u Q I rx ry h;obtain⟨i,j,rfl,rfl,hz,q⟩:=h;obtain⟨t,rfl⟩:=rx;obtain⟨t',rfl⟩:=ry;exact add_str (fun t' tk=>⟨.str (i++j),H,I.tok _,⟨_,rfl⟩,q⟩) hz
theorem eS{x:V}{us:List Value}(r:aX [x] us):∃u,us=[u]/\bR x u:=by
 cases r with
 |cons r1 r2=>cases r2;exact⟨_,rfl,r1⟩
theorem uz{x y:V}{us:List Value}(r:aX [x,y] us):∃u w',us=[u,w']/\bR x u/\bR y w':=by
 cases r with
 |cons r1 r2=>
  cases r2 with
  |cons r3 r4=>cases r4;exact⟨_,_,rfl,r1,r3⟩
theorem wZ(hc:X.calm=true):bX X (.builtin "max") (fun xs H Q=>∃i j,xs=[.int i,.int j]/\Q (.int (if j>i then j else i)) H):=by
 intro pins s σ H xs us Q I r h;obtain⟨i,j,rfl,q⟩:=h;obtain⟨u,w',rfl,⟨t,rfl⟩,⟨t',rfl⟩⟩:=uz r;refine max_two_ints (I.ok.hd hc) fun h' tk k=>⟨_,H,I.kept k,?_,q⟩;by_cases hj:j>i
 ·rw[if_pos hj,if_pos hj];exact⟨_,rfl⟩
 ·rw[if_neg hj,if_neg hj];exact⟨_,rfl⟩
theorem wY(hc:X.calm=true):bX X (.builtin "min") (fun xs H Q=>∃i j,xs=[.int i,.int j]/\Q (.int (if j<i then j else i)) H):=by
 intro pins s σ H xs us Q I r h;obtain⟨i,j,rfl,q⟩:=h;obtain⟨u,w',rfl,⟨t,rfl⟩,⟨t',rfl⟩⟩:=uz r;refine min_two_ints (I.ok.hd hc) fun h' tk k=>⟨_,H,I.kept k,?_,q⟩;by_cases hj:j<i
 ·rw[if_pos hj,if_pos hj];exact⟨_,rfl⟩
 ·rw[if_neg hj,if_neg hj];exact⟨_,rfl⟩
theorem oK:bX X (.type "int") (fun xs H Q=>(∃i,xs=[.int i]/\Q (.int i) H)\/∃k,xs=[.bl k]/\Q (.int (if k then 1 else 0)) H):=by
 intro pins s σ H xs us Q I r h;rcases h with⟨i,rfl,q⟩|⟨k,rfl,q⟩
 ·obtain⟨u,rfl,t,rfl⟩:=eS r;exact call_int_int ⟨.int i,H,I,⟨_,rfl⟩,q⟩
 ·obtain⟨u,rfl,r1⟩:=eS r;cases r1;exact call_int_bool ⟨.int (if k then 1 else 0),H,I.tok _,⟨_,rfl⟩,q⟩
end
structure Ju(h:Heap)(x dx C:Addr)(mA:Str->Option Value):Prop where
 obj:h.get? x=some (PySem.W.instObj C dx)
 ns:h.Ns1 dx mA
 ne:dx≠x
theorem vR{h:Heap}{dx:Addr}{mA:Str->Option Value}(n:h.Ns1 dx mA):∃od,h.get? dx=some od/\∀name,PySem.W.lookIn name od=some (mA name):=by
 obtain⟨o,es,ep,ho,hd,hk,_,hm⟩:=n;refine⟨o,ho,fun name=>?_⟩;have e:=hm name;unfold nsFind findBy at e;rw[<-Array.find?_toList]at e;unfold PySem.W.lookIn;rw[hd];dsimp only;split
 ·rename_i y q;rw[q]at e;exact congrArg some e
 ·rename_i q;rw[q]at e;have a:es.toList.any (·.refKey)=false:=by
   rw[List.any_eq_false];intro y hy;obtain⟨z,t,hkey⟩:=hk y (Array.mem_toList_iff.mp hy);simp[DictEntry.refKey,hkey]
  have a':¬es.toList.any (·.refKey)=true:=by rw[a];exact Qq
  rw[if_neg a'];exact congrArg some e
theorem Ju.look{h:Heap}{x dx C:Addr}{mA:Str->Option Value}(I:Ju h x dx C mA):∃od,PySem.W.InstAt h x (PySem.W.instObj C dx) C (some od)/\∀name,PySem.W.lookIn name od=some (mA name):=
 let ⟨od,ho,hl⟩:=vR I.ns
 ⟨od,⟨I.obj,rfl,rfl,ho⟩,hl⟩
theorem tV.some_of{v:V}{o:Option Value}(r:tV (some v) o):∃u,o=some u/\bR v u:=by
 cases o with
 |none=>exact(show False from r).elim
 |some u=>exact⟨u,rfl,r⟩
section
variable{C dx:Addr}{fs:List (Str×V)}
theorem Dj(hok:HOk P w H h)(e:H a=some (.ins C dx fs)):∃mA,Ju h a dx C mA/\(∀f,tV (fs.lookup f) (mA f))/\PySem.Within mA (fs.map (·.1))/\fs.length<=1000/\H dx=some (.own a):=by
 obtain⟨d,z,ne,ob,mA,n,r,q⟩:=(show bF P w H h a (.ins C dx fs)from hok a _ e);exact⟨mA,⟨ob,n,ne⟩,r,q,z,d⟩
end
structure Cls(K:Q5)(C:Addr):Prop where
 pg:PySem.W.plainGet K C Str.empty=true
 hd:PySem.W.hasDictIn K C=true
 po:PySem.W.plainOver K C=true
 sa:PySem.W.findIn K (.ref C) "__setattr__"=some (some (.builtin "object.__setattr__"))
theorem Cls.get{K:Q5}{C:Addr}(c:Cls K C)(f:Str):PySem.W.plainGet K C f=true:=c.pg
section
variable{A:Around}{Q:Value->Shared->Prop}{c:Value}{b:Bool}
inductive sh(K:Q5)(H:Hp):V->Value->Prop where
 |non:sh K H .non (.type "NoneType")
 |bl (x:Bool):sh K H (.bl x) (.type "bool")
 |int (i:Int):sh K H (.int i) (.type "int")
 |str (x:Str):sh K H (.str x) (.type "str")
 |flt (x:UInt64):sh K H (.flt x) (.type "float")
 |lst {a:Addr} {xs:List V} (e:H a=some (.lst xs)):sh K H (.ref a) (.type "list")
 |frz {a:Addr} {o:Obj} {xs:List V} (e:H a=some (.frz o (.lst xs))):sh K H (.ref a) (.type "list")
 |tup {a:Addr} {xs:List V} (e:H a=some (.tup xs)):sh K H (.ref a) (.type "tuple")
 |dK {a:Addr} {kvs:List (Key×V)} (e:H a=some (.dK kvs)):sh K H (.ref a) (.type "dict")
 |dT {a:Addr} {kvs:List (List Key×V)} (e:H a=some (.dT kvs)):sh K H (.ref a) (.type "dict")
 | ins {a C dx:Addr} {fs:List (Str×V)} (e:H a=some (.ins C dx fs)) (cl:Cls K C) (ha:PySem.W.findIn K (.ref C) "__class__"=some (some (.builtin "object.__class__")))
   (hn:PySem.W.specialIn K (.builtin "object.__class__") "__get__"=some (some (.builtin "getset_descriptor.__get__"))) (htk:PySem.W.takesIn K (.builtin "object.__class__")=some true)
   (hm:PySem.W.mroIn K C (.type "object")=some true):sh K H (.ref a) (.ref C)
theorem wb{x:V}{u t:Value}(I:Inv X pins σ H s)(rx:bR x u)(ty:sh X.K H x t)(e:PySem.W.kitOne X.K t c=some b)(h:∀tk,Q (.bool b) { s with toks:=tk }) :
  wpAny (model X.prog X.w) A (call (.builtin "isinstance") [u,c]) Q E s:=by
 cases ty with
 |non=>cases (show u=Value.none from rx);exact PySem.W.kia_one PySem.W.kitx_none I.kIn True.intro e (fun z=>nomatch z) h
 |bl y=>cases (show u=Value.bool y from rx);exact PySem.W.kia_one PySem.W.kitx_bool I.kIn True.intro e (fun z=>nomatch z) h
 |int i=>obtain⟨t,q⟩:=(show ∃t,u=Value.int i t from rx);cases q;exact PySem.W.kia_one PySem.W.kitx_int I.kIn True.intro e (fun z=>nomatch z) h
 |str y=>obtain⟨t,q⟩:=(show ∃t,u=Value.str y t from rx);cases q;exact PySem.W.kia_one PySem.W.kitx_str I.kIn True.intro e (fun z=>nomatch z) h
 |flt y=>obtain⟨t,q⟩:=(show ∃t,u=Value.float y t from rx);cases q;exact PySem.W.kia_one PySem.W.kitx_float I.kIn True.intro e (fun z=>nomatch z) h
 |@lst a xs ea=>
  cases (show u=Value.ref a from rx);obtain⟨_,_,n,_,h1⟩:=(show bF X.prog X.w H s.heap a (.lst xs)from I.hok a _ ea);exact PySem.W.kia_one PySem.W.kitx_list I.kIn ⟨_,h1,rfl⟩ e (fun z=>nomatch z) h
 |@frz a ob xs ea=>
  cases (show u=Value.ref a from rx);obtain⟨_,_,_,n,_,h1⟩:=(show bF X.prog X.w H s.heap a (.frz ob (.lst xs))from I.hok a _ ea);exact PySem.W.kia_one PySem.W.kitx_list I.kIn ⟨_,h1,rfl⟩ e (fun z=>nomatch z) h
 |@tup a xs ea=>
  cases (show u=Value.ref a from rx);obtain⟨_,_,_,p⟩:=(show bF X.prog X.w H s.heap a (.tup xs)from I.hok a _ ea);obtain⟨o,h1,h2,_⟩:=p;exact PySem.W.kia_one PySem.W.kitx_tuple I.kIn ⟨o,h1,h2⟩ e (fun z=>nomatch z) h
 |@dK a kvs ea=>
  cases (show u=Value.ref a from rx);obtain⟨_,_,vs,_,p⟩:=(show bF X.prog X.w H s.heap a (.dK kvs)from I.hok a _ ea);obtain⟨o,es,ep,h1,h2,_⟩:=p;exact PySem.W.kia_one PySem.W.kitx_dict I.kIn ⟨o,h1,h2.1⟩ e (fun z=>nomatch z) h
 |@dT a kvs ea=>
  cases (show u=Value.ref a from rx);obtain⟨_,_,xs,_,o,es,ep,h1,h2,_⟩:=(show bF X.prog X.w H s.heap a (.dT kvs)from I.hok a _ ea);exact PySem.W.kia_one PySem.W.kitx_dict I.kIn ⟨o,h1,h2.1⟩ e (fun z=>nomatch z) h
 |@ins a C dx fs ea cl ha hn htk hm=>
  cases (show u=Value.ref a from rx);obtain⟨mA,O,_⟩:=Dj I.hok ea;obtain⟨od,J,_⟩:=O.look;exact PySem.W.kia_one (PySem.W.kitx_own (cl.get _) cl.hd ha hn htk hm) I.kIn J e (fun z=>nomatch z) h
end
structure ko(k:Nat)(A:Around):Prop where
 hd:A.handled=none
 dp:A.depth+3*k+5<recursionLimit
 un:A.units+16*k+200<cLine
 gd:A.guards=some []
theorem ko.mono{j k:Nat}{A:Around}(r:ko k A)(h:j<=k):ko j A:=⟨r.hd,by have:=r.dp;omega,by have:=r.un;omega,r.gd⟩
theorem ko.deeper{k:Nat}{A:Around}(r:ko (k+1) A)(env:Env):ko k (A.deeper env):=
 ⟨r.hd,by have:=r.dp;show A.depth+1+3*k+5<_;omega,by have:=r.un;show A.units+3+16*k+200<_;omega,r.gd⟩
theorem ko.depth{k:Nat}{A:Around}(r:ko k A):A.depth<recursionLimit:=by have:=r.dp;omega
theorem ko.units{k:Nat}{A:Around}(r:ko k A):A.units+64<cLine:=by have:=r.un;omega
def Jz:TA:=fun _ H Q=>Q [] H
def E1(ta:TE)(tr:TA):TA:=fun σ H Q=>ta σ H fun x H1=>tr σ H1 fun xs H2=>Q (x::xs) H2
variable{es:List Expr}{t:TA}
section
variable{e:Expr}
theorem FP:PA X [] Jz:=fun _ _ _ _ H Q I h=>Calls.spliced_nil ⟨[],H,I,.nil,h⟩
theorem CQ(ha:PE X e te)(hr:PA X es t)(hs:starEach (e::es) X.env=(false,eval e X.env)::starEach es X.env:=by rfl):PA X (e::es) (E1 te t):=by
 intro pos pins s σ H Q I h;rw[hs];show wpAny _ _ (spliced ((false,eval e X.env)::backTo pos (starEach es X.env))) _ _ s;refine Calls.spliced_cons (thn (ha pins s σ H _ I h) fun u s1 hz=>?_);obtain⟨x,H1,I1,r1,q1⟩:=hz;exact thn (hr pos pins s1 σ H1 _ I1 q1) fun us s2 ⟨xs,H2,I2,r2,q2⟩=>⟨x::xs,H2,I2,.cons r1 r2,q2⟩
def Jv(t:TA):TE:=fun σ H Q=>t σ H fun xs H1=>xs.length<=sizeLine/\∀p,H1 p=none->Q (.ref p) (upd H1 p (.tup xs))
def JA(t:TA):TE:=fun σ H Q=>t σ H fun xs H1=>xs.length<=sizeLine/\∀p,H1 p=none->Q (.ref p) (upd H1 p (.lst xs))
theorem FE{x1}(h:PA X es t):PE X (.Tuple es x1 pos) (Jv t):=by
 intro pins s σ H Q I hq;refine wpAny_Tuple_spliced (thn (h pos pins s σ H _ I hq) fun us s1 ⟨xs,H1,I1,r,z,q⟩=>⟨by rw[<-r.length];exact z,?_⟩);have hf:H1 s1.heap.objs.size=none:=I1.hok.fresh (QJ _);refine⟨.ref s1.heap.objs.size,upd H1 s1.heap.objs.size (.tup xs),I1.laid (t':=s1.toks) (fun b u e=>Q3 _ e) (QJ _) ?_,rfl,q _ hf⟩;exact⟨z,us,r,⟨_,QU _ rfl,rfl,_,rfl⟩⟩
theorem FI(h:PA X es t):PE X (.List es pos) (JA t):=by
 intro pins s σ H Q I hq;refine wpAny_List_spliced (thn (h pos pins s σ H _ I hq) fun us s1 ⟨xs,H1,I1,r,z,q⟩=>⟨by rw[<-r.length];exact z,?_⟩);have hf:H1 s1.heap.objs.size=none:=I1.hok.fresh (QJ _);refine⟨.ref s1.heap.objs.size,upd H1 s1.heap.objs.size (.lst xs),I1.laid (t':=s1.toks) (fun b u e=>Q3 _ e) (QJ _) ?_,rfl,q _ hf⟩;exact⟨z,us,0,r,QU _ rfl⟩
end
abbrev Sp:=List V->Hp->VK->XK->Prop
abbrev CXT:=List Env->Hp->Shared->XK->Value->Shared->Prop
structure Hm(P:Program)(w:World)(K:Q5)(mg:Str->Option Value)(base:Heap)(A:Around)(outer:List Env)(s:Shared)(H:Hp):Prop where
 frames:A.frames=some outer
 mod:Mod K mg base
 bs:∀b o,base.get? b=some o->s.heap.get? b=some o/\H b=none
 bsz:base.objs.size<=s.heap.objs.size
 funs:s.heap.FunFrames base outer
 frf:∀b∈frs outer,H b=none
 hok:HOk P w H s.heap
 bare:AllBare s.gens
def CE(outer:List Env)(P:Program)(w:World)(H:Hp)(s:Shared)(Q:VK)(u:Value)(s':Shared):Prop:=
 ∃v H',s'.os=s.os/\AllBare s'.gens/\Un (frs outer) [] H H' s.heap s'.heap/\HOk P w H' s'.heap/\bR v u/\Q v H'
def CR(CX:CXT)(outer:List Env)(P:Program)(w:World)(H:Hp)(s:Shared)(Q:VK)(E:XK)(r:Result)(s':Shared):Prop:=
 match r with
 |.ok (.ret u)=>CE outer P w H s Q u s'
 |.ok _=>False
 |.error e=>CX outer H s E e s'
structure o8(P:Program)(w:World)(K:Q5)(mg:Str->Option Value)(base:Heap)(CX:CXT)(k:Nat)(f:Addr)(fd:FuncData)(ps:List Str)(sp:Sp):Prop where
 len:∀vs H Q E,sp vs H Q E->vs.length=ps.length
 run:∀(A:Around) (outer:List Env) (s:Shared) (H:Hp) (args:Args) (us:List Value) (vs:List V) (Q:VK) (E:XK),ko k A->Hm P w K mg base A outer s H->BindsTo s fd args (ps.zip us)->aX vs us->sp vs H Q E->
  codeAny (model P w) A (.call (.ref f) args) (CR CX outer P w H s Q E) s
theorem o8.mono{P:Program}{w:World}{K:Q5}{mg:Str->Option Value}{base:Heap}{CX:CXT}{j k:Nat}{f:Addr}{fd:FuncData}{ps:List Str}{sp:Sp}(F:o8 P w K mg base CX j f fd ps sp)(h:j<=k) :
  o8 P w K mg base CX k f fd ps sp:=⟨F.len,fun A outer s H args us vs Q E hr=>F.run A outer s H args us vs Q E (hr.mono h)⟩
section
variable{s':Shared}
theorem Inv.env0(I:Inv X pins σ H s):Hm X.prog X.w X.K X.mg X.base X.A X.stack s H:=
 ⟨I.ok.frames,I.ok.mod,I.bs,Qu I.ok.bsz I.sz,I.stack,I.stkFree,I.hok,I.bare⟩
theorem Inv.after{Q:VK}{u:Value}(I:Inv X pins σ H s)(h:CE X.stack X.prog X.w H s Q u s'):EP X pins σ Q u s':=by
 obtain⟨v,H',os,bare,un,hok,r,q⟩:=h;obtain⟨hh,g,d,t,os'⟩:=s';obtain rfl:os'=s.os:=os;exact⟨v,H',I.call (h':=hh) (g':=g) (d':=d) (t':=t) (ch:=[]) un hok bare (fun b z=>absurd z (by simp)),r,q⟩
end
def E2(sp:Sp)(dvs:List V)(E:XK)(t:TA):TE:=fun σ H Q=>t σ H fun vs H1=>sp (vs++dvs) H1 Q E
def qm(K:Q5)(fd:FuncData)(ps:List Str)(ds:List Value):Prop:=
 ∀(s:Shared) (us:List Value),K.In s.heap->(us++ds).length=ps.length->BindsTo s fd ⟨us,[]⟩ (ps.zip (us++ds))
theorem qm.all{K:Q5}{fd:FuncData}{ps:List Str}(h:∀us:List Value,us.length=ps.length->bindArgs fd ⟨us,[]⟩=pure (ps.zip us)):qm K fd ps []:=fun s us _ hl=>by
 rw[Qn]at hl ⊢;exact .of_eq (h us hl)
def xD(CX:CXT)(X:Cx)(E:XK):Prop:=∀(pins:List (Addr×Obj)) (σ:St) (H:Hp) (s:Shared) (e:Value) (s':Shared),Inv X pins σ H s->CX X.stack H s E e s'->X.xe e s'
variable{p:Pos}
section
variable{CX:CXT}{k:Nat}{f:Addr}{fd:FuncData}{ps:List Str}{sp:Sp}{dvs:List V}{ds:List Value}{E:XK}{x:Str}{e:Expr}
theorem Fd{pins:List (Addr×Obj)}{σ:St}{H:Hp}{s:Shared}{Q:VK}{us:List Value}{vs:List V}(F:o8 X.prog X.w X.K X.mg X.base CX k f fd ps sp)(hr:ko k X.A)(hb:qm X.K fd ps ds)(hd:aX dvs ds)(hx:xD CX X E)
  (I:Inv X pins σ H s) (r:aX vs us) (h:sp (vs++dvs) H Q E):wpAny (model X.prog X.w) X.A (call (.ref f) us) (EP X pins σ Q) X.xe s:=by
 have r2:aX (vs++dvs) (us++ds):=r.append hd;have hl:(us++ds).length=ps.length:=by rw[<-r2.length];exact F.len _ _ _ _ h
 refine wpAny_call (codeAny_mono (F.run X.A X.stack s H ⟨us,[]⟩ (us++ds) (vs++dvs) Q E hr I.env0 (hb s us I.kIn hl) r2 h) fun r s' hq=>?_);cases r with
 |error e=>exact hx pins σ H s e s' I hq
 |ok fl=>
  cases fl with
  |ret u=>exact I.after hq
  |next=>exact False.elim hq
  |brk=>exact False.elim hq
  |cont=>exact False.elim hq
theorem CN(F:o8 X.prog X.w X.K X.mg X.base CX k f fd ps sp)(hr:ko k X.A)(hg:Gl X x)(hm:X.mg x=some (.ref f))(hk:PySem.W.keepIn X.K (.ref f)=true)(hb:qm X.K fd ps ds)(hd:aX dvs ds)(hx:xD CX X E)
  (ha:PA X (e::es) t) (hdb:(x == ("__debug__":Str))=false:=by decide) (he:starEach (e::es) X.env=(false,eval e X.env)::starEach es X.env:=by rfl) (hpl:(backTo pos (starEach es X.env)).any (·.1)=false:=by rfl) :
  PE X (.Call (.Name x p) (e::es) [] pos) (E2 sp dvs E t):=by
 intro pins s σ H Q I h;refine wpAny_Call_Name_kw (Dd I hg hm ?_ hdb);refine PySem.W.callWith_K (h₀:=X.base) I.ok.mod.kin hk (thn (ha pos pins s σ H _ I h) fun us s1 ⟨vs,H1,I1,r,q⟩=>⟨I1.kIn,?_⟩) he hpl;exact Fd F hr hb hd hx I1 r q
end
structure br(N P:List Str)(sc:Scope):Prop where
 kind:sc.kind=.function
 co:sc.isCoroutine=false
 gen:sc.isGenerator=false
 nd:N.Nodup
 pre:N.take P.length=P
 par:∀x∈P,sc.names.lookup x=some .local\/sc.names.lookup x=some .cell
 nofree:∀y∈sc.names,y.2≠.free
theorem oO{kindOf:Str->Option NameKind}{x:Str}:∀{binds:List (Str×Value)} {m:Str->Option Value},(∀v,(x,v)∉binds)->bindL kindOf binds m x=m x
 |[],_,_=>rfl
 |(n,v)::r,m,h=>by
  unfold bindL;rw[oO fun w hw=>h w (QF _ hw)];split
  ·have:x≠n:=by rintro rfl;exact h v QB
   simp[this]
  ·rfl
theorem oQ{kindOf:Str->Option NameKind}{x:Str}:∀{binds:List (Str×Value)} {m:Str->Option Value},(∀v,(x,v)∉binds)->bindC kindOf binds m x=m x
 |[],_,_=>rfl
 |(n,v)::r,m,h=>by
  unfold bindC;rw[oQ fun w hw=>h w (QF _ hw)];split
  ·rfl
  ·have:x≠n:=by rintro rfl;exact h v QB
   simp[this]
theorem oP{kindOf:Str->Option NameKind}{x:Str}{v:Value}:∀{P:List Str} {vs:List Value} {i:Nat} {m:Str->Option Value},P.Nodup->P[i]?=some x->vs[i]?=some v->kindOf x=some .local->
  bindL kindOf (P.zip vs) m x=some v
 |[],_,_,_,_,h,_,_=>by simp at h
 |_::_,[],_,_,_,_,h,_=>by simp at h
 |p::P,w::vs,0,m,nd,h1,h2,hk=>by
  simp at h1 h2;subst h1;subst h2;show bindL kindOf ((p,w)::P.zip vs) m p=_;unfold bindL;rw[oO fun v hv=>(Zb.mp nd).1 (List.of_mem_zip hv).1,if_pos hk];simp
 |p::P,w::vs,i+1,m,nd,h1,h2,hk=>by
  show bindL kindOf ((p,w)::P.zip vs) m x=_;unfold bindL;exact oP (i:=i) (Zb.mp nd).2 (by simpa using h1) (by simpa using h2) hk
theorem oR{kindOf:Str->Option NameKind}{x:Str}{v:Value}:∀{P:List Str} {vs:List Value} {i:Nat} {m:Str->Option Value},P.Nodup->P[i]?=some x->vs[i]?=some v->kindOf x≠some .local->
  bindC kindOf (P.zip vs) m x=some v
 |[],_,_,_,_,h,_,_=>by simp at h
 |_::_,[],_,_,_,_,h,_=>by simp at h
 |p::P,w::vs,0,m,nd,h1,h2,hk=>by
  simp at h1 h2;subst h1;subst h2;show bindC kindOf ((p,w)::P.zip vs) m p=_;unfold bindC;rw[oQ fun v hv=>(Zb.mp nd).1 (List.of_mem_zip hv).1,if_neg hk];simp
 |p::P,w::vs,i+1,m,nd,h1,h2,hk=>by
  show bindC kindOf ((p,w)::P.zip vs) m x=_;unfold bindC;exact oR (i:=i) (Zb.mp nd).2 (by simpa using h1) (by simpa using h2) hk
def start(N:List Str)(vs:List V):St:=vs.map some++Za (N.length-vs.length) none
def xH(CX:CXT)(P:Program)(w:World)(K:Q5)(mg:Str->Option Value)(base:Heap)(N:List Str)(qual:Str)(scope:Scope)(f:Addr)(cd:Value)(A:Around)(outer:List Env)(s:Shared)(H:Hp)(E:XK):Cx where
 prog:=P
 w:=w
 K:=K
 mg:=mg
 base:=base
 A:=A.deeper (envOfC qual scope s.heap.objs.size f cd)
 N:=N
 s₀:=s
 H₀:=H
 env:=envOfC qual scope s.heap.objs.size f cd
 outer:=outer
 stack:=envOfC qual scope s.heap.objs.size f cd::outer
 ex:=[]
 calm:=true
 fn:=fun _=>true
 pn:=[]
 xe:=fun e s'=>wpAny (model P w) (A.deeper (envOfC qual scope s.heap.objs.size f cd)) (leaving (envOfC qual scope s.heap.objs.size f cd) e) (fun _ s''=>CX outer H s E e s'') (fun e' s''=>CX outer H s E e' s'') s'
theorem rV{sc:Scope}{n:Nat}{x:Str}(h:sc.names.lookup x=some .cell):∃c,(cellsFrom n sc.names []).lookup x=some c:=by
 have q:=PySem.W.cellsFrom_some sc.names n [] (.inl h);exact Option.isSome_iff_exists.mp q
theorem wg{CX:CXT}{P:Program}{w:World}{K:Q5}{mg:Str->Option Value}{base:Heap}{N ps:List Str}{qual:Str}{scope:Scope}{f:Addr}{cd:Value}{A:Around}{outer:List Env}{s s1:Shared}{H:Hp}{E:XK}{us:List Value}{vs:List V}
  (S:br N ps scope) (hd:A.handled=none) (e0:Hm P w K mg base A outer s H) (hl:vs.length=ps.length) (r:aX vs us)
  (x:InCallC s s.heap.objs.size (bindL (envOfC qual scope s.heap.objs.size f cd).kindOf (ps.zip us) fun _=>none) (cellsFrom (s.heap.objs.size+1) scope.names []) (bindC (envOfC qual scope s.heap.objs.size f cd).kindOf (ps.zip us) fun _=>none) s1) :
  Inv (xH CX P w K mg base N qual scope f cd A outer s H E) [] (start N vs) H s1:=by
 have hpl:ps.length<=N.length:=by have:=congrArg List.length S.pre;rw[Qp]at this;omega
 obtain⟨h1,tk,rfl,hk⟩:=x.done;have noA:∀b:Addr,b∉(xH CX P w K mg base N qual scope f cd A outer s H E).ex:=fun b z=>absurd (show b∈([]:List Addr)from z) (by simp);refine⟨⟨e0.mod,S.kind,rfl,rfl,QJ _,fun y z c h1 h2=>?_,fun y hy=>?_,fun y c _ h=>?_,fun _=>hd,Around.frames_deeper e0.frames,.inr ⟨rfl,rfl⟩,fun b z=>absurd z (noA b),e0.bs,e0.bsz,fun b _ _=>noA b,fun b z=>absurd z (noA b),e0.funs,e0.frf⟩,
  rfl,e0.bare,Un.kept hk,⟨_,x.toInCall.ns,fun i y v h1 h2 h3=>?_⟩,fun y c h=>⟨_,x.cell y c h⟩,e0.hok.fresh (QJ _),fun y c h=>?_,fun p hp=>absurd (show p∈([]:List (Addr×Obj))from hp) (by simp),e0.hok.kept hk,?_⟩
 ·exact name_of_addr x.apart (PySem.mem_of_lookup h1) (PySem.mem_of_lookup h2)
 ·have hy:scope.names.lookup y=some .cell\/scope.names.lookup y=some .free:=hy;rcases hy with hy|hy
  ·exact rV hy
  ·exact absurd rfl (S.nofree _ (PySem.mem_of_lookup hy))
 ·exact Zf (x.above y c (PySem.mem_of_lookup h))
 ·have hi:i<vs.length:=by
   unfold start at h2;by_cases hi:i<vs.length
   ·exact hi
   ·rw[QK (by simpa using hi)]at h2;rw[XF]at h2;split at h2<;>cases h2
  have ha:vs[i]?=some v:=by
   unfold start at h2;rw[QD (by simpa using hi),Qb]at h2;cases e:vs[i]? with
   |none=>rw[e]at h2;cases h2
   |some a=>rw[e]at h2;cases h2;rfl
  obtain⟨u,hu,rv⟩:=r.get ha;have hp:ps[i]?=some y:=by
   rw[<-S.pre,List.getElem?_take_of_lt (by omega)];exact h1
  have ndP:ps.Nodup:=by rw[<-S.pre];exact S.nd.sublist (ZS _ _)
  refine⟨u,rv,?_⟩;rcases S.par y (ZT hp)with k|k
  ·exact .inl ⟨k,oP ndP hp hu k⟩
  ·obtain⟨c,e⟩:=rV (n:=s.heap.objs.size+1) k;refine .inr ⟨.inl k,c,e,?_⟩;have q:=x.cell y c e;rw[oR ndP hp hu (by show scope.names.lookup y≠_;rw[k];decide)]at q;exact q
 ·exact e0.hok.fresh (Zf (x.above y c (PySem.mem_of_lookup h)))
 ·unfold start;show _=N.length;rw[QZ,QX,List.length_replicate];omega
theorem Je{CX:CXT}{P:Program}{w:World}{K:Q5}{mg:Str->Option Value}{base:Heap}{k:Nat}{f:Addr}{name qual:Str}{params:Arguments}{body:List Stmt}{scope:Scope}{dV kV doc pm cdv ct oc:Value}{an od:Option Addr}
  {osl:Array (Option Value)} {N ps:List Str} {sp:Sp} (lk:K.lookup f=some ⟨oc,od,.func (PySem.W.fnOf name qual params body scope dV kV doc pm an cdv ct),osl⟩) (hcd:PySem.W.codeIn K cdv qual=true) (S:br N ps scope)
  (len:∀vs H Q E,sp vs H Q E->vs.length=ps.length)
  (hbody:∀(A:Around) (outer:List Env) (s:Shared) (H:Hp) (vs:List V) (Q:VK) (E:XK),ko k (A.deeper (envOfC qual scope s.heap.objs.size f cdv))->sp vs H Q E->
   ∃t,PSs (xH CX P w K mg base N qual scope f cdv A outer s H E) body t/\t { nx:=fun _ H'=>Q .non H',rt:=Q } (start N vs) H) :
  o8 P w K mg base CX (k+1) f (PySem.W.fnOf name qual params body scope dV kV doc pm an cdv ct) ps sp:=by
 refine⟨len,fun A outer s H args us vs Q E hr e0 hb r hsp=>?_⟩;have hl:=len _ _ _ _ hsp;have KX:K.In s.heap:=e0.mod.kin.keeps fun b o e=>(e0.bs b o e).1;have lim:s.heap.NoLimit:=e0.mod.nolimit.keeps fun b o e=>(e0.bs b o e).1;have hkind:∀y∈ps.zip us,scope.names.lookup y.1=some .local\/(scope.names.lookup y.1=some .cell/\((cellsFrom (s.heap.objs.size+1) scope.names []).lookup y.1).isSome=true):=fun⟨n,v⟩ hy=>by
  rcases S.par n (List.of_mem_zip hy).1 with q|q
  ·exact .inl q
  ·exact .inr ⟨q,PySem.W.cellsFrom_some _ _ _ (.inl q)⟩
 refine codeAny_call_function hr.depth (KX _ _ lk) rfl S.co S.gen rfl (PySem.W.codeRec_of KX hcd) (hb _ _ _ _ ?_);refine wpAny_newFunctionEnv_cells S.kind hkind fun env he s1 x=>?_;subst he;refine⟨lim.keeps x.toInCall.keep,codeAny_func ?_⟩;obtain⟨t,ht,hq⟩:=hbody A outer s H vs Q E (hr.deeper _) hsp;have I:Inv (xH CX P w K mg base N qual scope f cdv A outer s H E) [] (start N vs) H s1:=wg S hr.hd e0 hl r x;refine ZE (ht [] s1 (start N vs) H _ I hq) (fun fl s' hs=>?_) fun e s' hs=>hs;have fin:∀{σ':St} {H':Hp} {v:V} {u:Value},Inv (xH CX P w K mg base N qual scope f cdv A outer s H E) [] σ' H' s'->bR v u->Q v H'->CE outer P w H s Q u s':=
  fun{σ' H' v u} J rv q=>⟨v,H',J.os,J.bare,J.base,J.hok,rv,q⟩
 cases fl with
 |ret u=>
  obtain⟨v,σ',H',J,rv,q⟩:=hs;exact fin J rv q
 |next=>
  obtain⟨σ',H',J,q⟩:=hs;exact fin (v:=V.non) (u:=Value.none) J rfl q
 |brk=>
  obtain⟨_,_,_,q⟩:=hs;exact False.elim q
 |cont=>
  obtain⟨_,_,_,q⟩:=hs;exact False.elim q
section
variable{x:Str}{e:Expr}{id T:String}{r:List V->Hp->VK->Prop}
def tCB(r:List V->Hp->VK->Prop)(t:TA):TE:=fun σ H Q=>t σ H fun vs H1=>r vs H1 Q
theorem yR(hc:bX X (.builtin id) r)(hg:Gl X x)(hm:X.mg x=none)(hv:bootBuiltins x=some (.builtin id))(ha:PA X (e::es) t)(hn:x≠"__name__":=by decide)(hdb:(x == ("__debug__":Str))=false:=by decide)
  (he:starEach (e::es) X.env=(false,eval e X.env)::starEach es X.env:=by rfl) (hpl:(backTo pos (starEach es X.env)).any (·.1)=false:=by rfl):PE X (.Call (.Name x p) (e::es) [] pos) (tCB r t):=by
 intro pins s σ H Q I h;refine wpAny_Call_Name_kw (fU I hg hm hv ?_ hn hdb);exact PyProof.Rows.callWith_builtin1 (thn (ha pos pins s σ H _ I h) fun us s1 ⟨vs,H1,I1,r1,q1⟩=>hc pins s1 σ H1 vs us Q I1 r1 q1) he hpl
theorem vt(hc:bX X (.type T) r)(hg:Gl X x)(hm:X.mg x=none)(hv:bootBuiltins x=some (.type T))(ha:PA X (e::es) t)(hn:x≠"__name__":=by decide)(hdb:(x == ("__debug__":Str))=false:=by decide)
  (he:starEach (e::es) X.env=(false,eval e X.env)::starEach es X.env:=by rfl) (hpl:(backTo pos (starEach es X.env)).any (·.1)=false:=by rfl):PE X (.Call (.Name x p) (e::es) [] pos) (tCB r t):=by
 intro pins s σ H Q I h;refine wpAny_Call_Name_kw (fU I hg hm hv ?_ hn hdb);exact PyProof.Rows.callWith_type1 (thn (ha pos pins s σ H _ I h) fun us s1 ⟨vs,H1,I1,r1,q1⟩=>hc pins s1 σ H1 vs us Q I1 r1 q1) he hpl
end
end L2
namespace HT
open PySem PyProof.Rows
section
variable{prog:Program}{w:World}{A:Around}{E:Value->Shared->Prop}{s:Shared}
theorem cat_tup{t b:Addr}{vs ws:List Value}{Q:Value->Shared->Prop}(ht:IsTup s.heap t vs.toArray)(hb:IsTup s.heap b ws.toArray)(hv:vs≠[])
  (h1:ws=[]->Q (.ref t) s) (h2:ws≠[]->Q (.ref s.heap.objs.size) { s with heap:=s.heap.push { cls:=.type "tuple",data:=.seq (vs++ws).toArray } })
  (hsz:vs.length+ws.length<=sizeLine):wpAny (model prog w) A (binaryOp .Add (.ref t) (.ref b)) Q E s:=by
 obtain⟨⟨cls,dd,data,sl⟩,ho,hc,n,hd⟩:=id ht;obtain⟨⟨cls2,dd2,data2,sl2⟩,ho2,hc2,n2,hd2⟩:=id hb;simp only at hc hd hc2 hd2;subst hc hd hc2 hd2;have e:vs.toArray++ws.toArray=(vs++ws).toArray:=by simp
 by_cases hw:ws=[]
 ·exact concat_meets ⟨_,ho,rfl⟩ ⟨_,ho2,rfl⟩ noFill_tuple_add seq_tuple_add PySem.F.slot_tuple_add PySem.F.entry_tuple_add (PySem.F.args_tuple_add_2 _ _)
   (tuple_addW1 t b vs.toArray ws.toArray n n2 dd dd2 sl sl2 (by simpa using hv) (by simp[hw])) ⟨ho,ho2,h1 hw⟩
 ·refine concat_meets ⟨_,ho,rfl⟩ ⟨_,ho2,rfl⟩ noFill_tuple_add seq_tuple_add PySem.F.slot_tuple_add PySem.F.entry_tuple_add (PySem.F.args_tuple_add_2 _ _)
   (tuple_addW2 t b vs.toArray ws.toArray n n2 dd dd2 sl sl2 (by simpa using hv) (by simpa using hw) (by rw[QM,QM];exact hsz)) ⟨ho,ho2,?_⟩
  rw[e];exact h2 hw
noncomputable def sIx(n d:Nat):Option Int->Nat
 |none=>d
 |some v=>if v<0 then(v+(n:Int)).toNat else min v.toNat n
theorem sIx_none(n d:Nat):sIx n d none=d:=rfl
theorem sIx_nat(n d k:Nat):sIx n d (some (k:Int))=min k n:=by
 show(if (k:Int)<0 then((k:Int)+(n:Int)).toNat else min (k:Int).toNat n)=min k n;rw[if_neg (by omega),Zx]
theorem Fb(n d:Nat)(hd:d<=n)(o:Option Int):sIx n d o<=n:=by
 cases o with
 |none=>exact hd
 |some v=>
  show(if v<0 then(v+(n:Int)).toNat else min v.toNat n)<=n;by_cases hv:v<0
  ·rw[if_pos hv];omega
  ·rw[if_neg hv];exact Nat.min_le_right _ _
theorem wX(v:Int)(n d:Nat):(if v<0 then max (v+(n:Int)) 0 else min v (n:Int))=((sIx n d (some v):Nat):Int):=by
 show(if v<0 then max (v+(n:Int)) 0 else min v (n:Int))=(((if v<0 then(v+(n:Int)).toNat else min v.toNat n):Nat):Int);by_cases hv:v<0
 ·simp only[if_pos hv];omega
 ·simp only[if_neg hv];omega
theorem tN(lo hi:Option Int)(n:Nat):Builtin.Slice.sliceAdjust lo hi 1 (n:Int)=(((sIx n 0 lo:Nat):Int),((sIx n n hi:Nat):Int)):=by
 have h1:¬((1:Int)<0):=by omega
 unfold Builtin.Slice.sliceAdjust;simp only[h1,if_false];refine Prod.ext ?_ ?_
 ·cases lo with
  |none=>rfl
  |some v=>exact wX v n 0
 ·cases hi with
  |none=>rfl
  |some v=>exact wX v n n
theorem sT(i j:Nat):Builtin.Slice.slicePlaces (i:Int) (j:Int) 1=j-i:=by
 unfold Builtin.Slice.slicePlaces;have h1:(1:Int)>0:=by omega
 simp only[h1,if_true,Int.ediv_one];split<;>omega
theorem kJ{v:Value}{o:Option Int}{Q:Option Int->Shared->Prop}(p:IsPart v o)(h:Q o s):wpAny (model prog w) A (Builtin.Slice.slicePartIndex v) Q E s:=by
 cases p with
 |none=>exact slicePart_none h
 |int i t=>exact slicePart_int h
theorem eE{sl:Addr}{vl vu:Value}{lo hi:Option Int}{n:Nat}{Q:Int×Int×Nat->Shared->Prop}(hs:s.heap.IsSliceOf sl vl vu .none)(pl:IsPart vl lo)(pu:IsPart vu hi)
  (h:Q (((sIx n 0 lo:Nat):Int),1,sIx n n hi-sIx n 0 lo) s):wpAny (model prog w) A (Builtin.Slice.sliceApplied (.ref sl) (pure (n:Int))) Q E s:=by
 obtain⟨os,hos,hcs,hds⟩:=id hs;unfold Builtin.Slice.sliceApplied Builtin.Slice.sliceFields;refine Q0 (Q0 (ZD hos hds (x:=vl) rfl (Q0 (ZD hos hds (x:=vu) rfl (Q0 (ZD hos hds (x:=.none) rfl (Q6 ?_)))))));refine Q0 (slicePart_none ?_);show wpAny _ _ (if ((1:Int) == 0)=true then _ else _) _ _ s;rw[if_neg (by decide)];refine Q0 (kJ pl (Q0 (kJ pu (Q0 (Q6 ?_)))));show wpAny _ _ (match Builtin.Slice.sliceAdjust lo hi 1 (n:Int)with|(lo,hi)=>pure (lo,(1:Int),Builtin.Slice.slicePlaces lo hi 1)) _ _ s;rw[tN lo hi n];show wpAny _ _ (pure (((sIx n 0 lo:Nat):Int),(1:Int),Builtin.Slice.slicePlaces ((sIx n 0 lo:Nat):Int) ((sIx n n hi:Nat):Int) 1)) _ _ s;rw[sT];exact Q6 h
theorem yK(xs:Array Value)(i k:Nat):((Qz k).filterMap fun(m:Nat)=>xs[((i:Int)+(m:Int)*1).toNat]?).toArray=((xs.toList.drop i).take k).toArray:=by
 have e:(fun(m:Nat)=>xs[((i:Int)+(m:Int)*1).toNat]?)=fun m=>xs[i+m]?:=by
  funext m;have:((i:Int)+(m:Int)*1).toNat=i+m:=by omega
  rw[this]
 rw[e];have:=pick_run xs i k;rw[List.filterMap_map]at this;have e2:((fun x=>xs[x]?) ∘ fun x=>i+x)=fun m=>xs[i+m]?:=rfl;rw[e2]at this;rw[this]
theorem getItem_tuple_cut{t sl:Addr}{items:Array Value}{vl vu:Value}{lo hi:Option Int}{Q:Value->Shared->Prop}(ht:IsTup s.heap t items)(hs:s.heap.IsSliceOf sl vl vu .none)(pl:IsPart vl lo)(pu:IsPart vu hi)
  (hw:¬(sIx items.size 0 lo=0/\sIx items.size items.size hi=items.size))
  (h:Q (.ref s.heap.objs.size) { s with heap:=s.heap.push { cls:=.type "tuple",data:=.seq ((items.toList.drop (sIx items.size 0 lo)).take (sIx items.size items.size hi-sIx items.size 0 lo)).toArray } })
  (hsz:items.size<=sizeLine):wpAny (model prog w) A (getItem (.ref t) (.ref sl)) Q E s:=by
 have htake:sizeOk (.seq ((items.toList.drop (sIx items.size 0 lo)).take (sIx items.size items.size hi-sIx items.size 0 lo)).toArray):=by
  show((items.toList.drop (sIx items.size 0 lo)).take (sIx items.size items.size hi-sIx items.size 0 lo)).toArray.size<=sizeLine;rw[QM,Qp,Zs,QY];omega
 have hj:sIx items.size items.size hi<=items.size:=Fb _ _ (QJ _) hi;obtain⟨os,hos,hcs,hds⟩:=id hs;have hTs:s.TypeIs (.ref sl) "slice":=⟨os,hos,hcs⟩;unfold getItem;try with_reducible refine wpAny_holding ?_
 first|refine Q0 (Q6 ?_)|skip
 refine Q0 (wpAny_sequenceKey ht.typeIs (by decide) ?_);refine Q0 (wpAny_callSpecial?_slot (name:=Str.ofString "__getitem__") ht.typeIs PyProof.Rows.slot_tuple_getitem
  (wpAny_call_entry PyProof.Rows.slot_tuple_getitem ht.typeIs entry_tuple_getitem ?_ (args_tuple_getitem _ _)))
 show wpAny _ _ (Builtin.Tuple.tupleItemsOf (.ref t) >>= _) _ _ s;refine Q0 (tupleItemsOf_ ht ?_);refine Q0 (wpAny_typeOf hTs ?_);rw[if_pos (by decide)];refine Q0 (eE hs pl pu ?_);have hno:¬((((sIx items.size 0 lo:Nat):Int) == 0&&(1:Int) == 1&&(sIx items.size items.size hi-sIx items.size 0 lo) == items.size)=true):=by
  intro q;rw[Bool.and_eq_true,Bool.and_eq_true]at q;have q1:((sIx items.size 0 lo:Nat):Int)=0:=eq_of_beq q.1.1;have q2:sIx items.size items.size hi-sIx items.size 0 lo=items.size:=eq_of_beq q.2;exact hw ⟨by omega,by omega⟩
 show wpAny _ _ (if (((sIx items.size 0 lo:Nat):Int) == 0&&(1:Int) == 1&&(sIx items.size items.size hi-sIx items.size 0 lo) == items.size)=true then _ else _) _ _ s;rw[if_neg hno,yK];first
  |exact Q0 (m:=Builtin.Tuple.tupleExact _) (wpAny_newObj_type (Q6 ⟨_,rfl,Q6 h⟩) htake)
  |exact Q0 (m:=Builtin.Tuple.tupleExact _) (wpAny_newObj_type (Q0 (Q6 (Q6 ⟨_,rfl,Q6 h⟩))) htake)
  |exact Q0 (Q0 (m:=Builtin.Tuple.tupleExact _) (wpAny_newObj_type (Q6 (Q6 ⟨_,rfl,Q6 h⟩)) htake))
  |exact Q0 (Q0 (m:=Builtin.Tuple.tupleExact _) (wpAny_newObj_type (Q6 ⟨_,rfl,Q6 h⟩) htake))
end
end HT
namespace L2
open PySem PySem.Spec PyProof.Rows
abbrev TO:=St->Hp->(Option Int->Hp->Prop)->Prop
def PO(X:Cx)(e:Option Expr)(t:TO):Prop:=
 ∀(pins:List (Addr×Obj)) (s:Shared) (σ:St) (H:Hp) (Q:Option Int->Hp->Prop),Inv X pins σ H s->t σ H Q->
  wpAny (model X.prog X.w) X.A (evalPart e X.env) (fun u s'=>∃o H',Inv X pins σ H' s'/\IsPart u o/\Q o H') X.xe s
def uE:TO:=fun _ H Q=>Q none H
def EU(t:TE):TO:=fun σ H Q=>t σ H fun x H1=>∃i,x=.int i/\Q (some i) H1
variable{X:Cx}{e:Expr}{pos:Pos}
section
variable{te:TE}{lo hi:Option Expr}{tl th:TO}{p2:Pos}
theorem CF:PO X none uE:=by
 intro pins s σ H Q I h;rw[evalPart_none];exact Q6 ⟨none,H,I,.none,h⟩
theorem CD(h:PE X e te):PO X (some e) (EU te):=by
 intro pins s σ H Q I hw;rw[evalPart_some];refine thn (h pins s σ H _ I hw) fun u s1 hz=>?_;obtain⟨x,H1,I1,r1,q1⟩:=hz;obtain⟨i,rfl,q⟩:=q1;obtain⟨t,rfl⟩:=r1;exact⟨some i,H1,I1,.int i t,q⟩
def SlR(X:Cx)(r:V->Option Int->Option Int->Hp->VK->Prop):Prop:=
 ∀(pins:List (Addr×Obj)) (s:Shared) (σ:St) (H:Hp) (x:V) (v vl vu:Value) (lo hi:Option Int) (sl:Addr) (Q:VK),Inv X pins σ H s->bR x v->s.heap.IsSliceOf sl vl vu .none->IsPart vl lo->IsPart vu hi->r x lo hi H Q->
  ∃T id,typeLookup (.type T) "__getitem__"=pure (some (.builtin id))/\s.TypeIs v T/\wpAny (model X.prog X.w) X.A (getItem v (.ref sl)) (EP X pins σ Q) X.xe s
theorem SlR.or{r r':V->Option Int->Option Int->Hp->VK->Prop}(h:SlR X r)(h':SlR X r'):SlR X (fun x lo hi H Q=>r x lo hi H Q\/r' x lo hi H Q):=by
 intro pins s σ H x v vl vu lo hi sl Q I rx hs pl pu q;rcases q with q|q
 ·exact h pins s σ H x v vl vu lo hi sl Q I rx hs pl pu q
 ·exact h' pins s σ H x v vl vu lo hi sl Q I rx hs pl pu q
def tSl(r:V->Option Int->Option Int->Hp->VK->Prop)(te:TE)(tl th:TO):TE:=fun σ H Q=>te σ H fun x H1=>tl σ H1 fun l H2=>th σ H2 fun u H3=>r x l u H3 Q
theorem yO{r:V->Option Int->Option Int->Hp->VK->Prop}(hr:SlR X r)(he:PE X e te)(hl:PO X lo tl)(hu:PO X hi th):PE X (.Subscript e (.Slice lo hi none p2) pos) (tSl r te tl th):=by
 intro pins s σ H Q I h;refine Subscript_ (thn (he pins s σ H _ I h) fun v s1 hz=>?_);obtain⟨x,H1,I1,r1,q1⟩:=hz;refine wpAny_Slice (thn (hl pins s1 σ H1 _ I1 q1) fun vl s2 ⟨l,H2,I2,pl,q2⟩=>thn (hu pins s2 σ H2 _ I2 q2) fun vu s3 hz=>?_);obtain⟨u,H3,I3,pu,q3⟩:=hz;rw[evalPart_none];refine Q6 ?_;have I4:Inv X pins σ H3 { s3 with heap:=s3.heap.push { cls:=.type "slice",data:=.fields #[vl,vu,.none] } }:=I3.kept (t':=s3.toks) fun b ob q=>Q3 _ q;obtain⟨T,id,hT,ht,hg⟩:=hr pins { s3 with heap:=s3.heap.push { cls:=.type "slice",data:=.fields #[vl,vu,.none] } } σ H3 x v vl vu l u s3.heap.objs.size Q I4 r1 (Heap.IsSliceOf.new ..) pl pu q3;show wpAny (model X.prog X.w) X.A (subscriptTail e (.Slice lo hi none p2) v (.ref s3.heap.objs.size)) (EP X pins σ Q) X.xe { s3 with heap:=s3.heap.push { cls:=.type "slice",data:=.fields #[vl,vu,.none] } };exact tail_any (ops:=[.ref s3.heap.objs.size,v]) ht hT hg (by with_unfolding_all rfl)
def A6(xs:List V)(lo hi:Option Int):List V:=(xs.drop (HT.sIx xs.length 0 lo)).take (HT.sIx xs.length xs.length hi-HT.sIx xs.length 0 lo)
theorem kg(xs:List V)(lo hi:Option Int):(A6 xs lo hi).length<=xs.length:=by
 unfold A6;rw[Qp,Zs];omega
def Kd(K:Q5):V->Option Int->Option Int->Hp->VK->Prop:=fun x lo hi H Q=>∃a xs,x=.ref a/\SqT K H a xs/\
 ¬(HT.sIx xs.length 0 lo=0/\HT.sIx xs.length xs.length hi=xs.length)/\∀p,H p=none->Q (.ref p) (upd H p (.tup (A6 xs lo hi)))
theorem Ar:SlR X (Kd X.K):=by
 intro pins s σ H x v vl vu lo hi sl Q I rx hs pl pu h;obtain⟨a,xs,rfl,hx,hw,q⟩:=h;cases rx;obtain⟨its,r,ht,hz⟩:=I.tuple hx;have hlen:its.toArray.size=xs.length:=by rw[QM];exact r.length.symm
 refine⟨"tuple",_,PyProof.Rows.slot_tuple_getitem.lookup,ht.typeIs,?_⟩;refine HT.getItem_tuple_cut ht hs pl pu (by rw[hlen];exact hw) ?_ (by rw[hlen];exact hz);rw[hlen];refine⟨.ref s.heap.objs.size,_,I.laid (t':=s.toks) (o:=.tup (A6 xs lo hi)) (fun b ob q=>Q3 _ q) (QJ _) ?_,rfl,q _ (I.hok.fresh (QJ _))⟩;exact⟨Qu (kg xs lo hi) hz,_,(r.drop (HT.sIx xs.length 0 lo)).take (HT.sIx xs.length xs.length hi-HT.sIx xs.length 0 lo),IsTup.new _ _⟩
def Il(K:Q5):R2:=fun x y H Q=>∃a b xs ys,x=.ref a/\y=.ref b/\SqT K H a xs/\SqT K H b ys/\xs≠[]/\xs.length+ys.length<=sizeLine/\
 (ys=[]->Q (.ref a) H)/\(ys≠[]->∀p,H p=none->Q (.ref p) (upd H p (.tup (xs++ys))))
theorem aX.nil_iff{xs:List V}{us:List Value}(r:aX xs us):us=[]↔xs=[]:=by
 cases r with
 |nil=>simp
 |cons _ _=>simp
theorem C3:OpR X (binaryOp .Add) (Il X.K):=by
 intro pins s σ H x y v u Q I rx ry h;obtain⟨a,b,xs,ys,rfl,rfl,ha,hb,hx,hz,q1,q2⟩:=h;cases rx;cases ry;obtain⟨its,r1,p1,_⟩:=I.tuple ha;obtain⟨its2,r2,p2,_⟩:=I.tuple hb;refine HT.cat_tup p1 p2 (fun z=>hx (r1.nil_iff.mp z)) (fun z=>⟨.ref a,H,I,rfl,q1 (r2.nil_iff.mp z)⟩) (fun z=>?_) (by rw[<-r1.length,<-r2.length];exact hz);refine⟨.ref s.heap.objs.size,_,I.laid (t':=s.toks) (o:=.tup (xs++ys)) (fun b ob q=>Q3 _ q) (QJ _) ?_,rfl,q2 (fun w=>z (r2.nil_iff.mpr w)) _ (I.hok.fresh (QJ _))⟩;exact⟨by rw[QZ];exact hz,_,r1.append r2,IsTup.new _ _⟩
end
def ixN(n:Nat)(i:Int):Option Nat:=if 0<=i then(if i<n then some i.toNat else none)else if -(n:Int)<=i then some (i+n).toNat else none
def atI{α:Type}(xs:List α)(i:Int):Option α:=(ixN xs.length i).bind fun j=>xs[j]?
theorem wa{n:Nat}{i:Int}{j:Nat}(h:ixN n i=some j):seqIndex? i n=some j/\j<n/\-(n:Int)<=i/\i<n:=by
 unfold ixN at h;by_cases h0:0<=i
 ·rw[if_pos h0]at h;by_cases h1:i<n
  ·rw[if_pos h1]at h;have e:i.toNat=j:=Option.some.inj h;exact⟨by rw[seqIndex_of h0 h1,e],by omega,by omega,h1⟩
  ·rw[if_neg h1]at h;cases h
 ·rw[if_neg h0]at h;by_cases h1:-(n:Int)<=i
  ·rw[if_pos h1]at h;have e:(i+n).toNat=j:=Option.some.inj h;exact⟨by rw[seqIndex_neg (by omega) h1,e],by omega,h1,by omega⟩
  ·rw[if_neg h1]at h;cases h
theorem xt{α:Type}{xs:List α}{i:Int}{v:α}(h:atI xs i=some v):∃j,seqIndex? i xs.length=some j/\xs[j]?=some v/\j<xs.length/\-(xs.length:Int)<=i/\i<xs.length:=by
 unfold atI at h;cases e:ixN xs.length i with
 |none=>rw[e]at h;cases h
 |some j=>
  rw[e]at h;obtain⟨h1,h2,h3,h4⟩:=wa e;exact⟨j,h1,h,h2,h3,h4⟩
theorem eC{α:Type}{xs:List α}{j:Nat}{v:α}(h:xs[j]?=some v):atI xs (j:Int)=some v:=by
 have hj:j<xs.length:=(Q7.mp h).1;have e:ixN xs.length (j:Int)=some j:=by
  unfold ixN;rw[if_pos (by omega),if_pos (by omega)];simp
 unfold atI;rw[e];exact h
def qg(b:Expr):Prop:=∀o i,subscripted b false o i=operate [o,i] (getItem o i)
def IxR(X:Cx)(r:R2):Prop:=
 ∀(value slice:Expr) (pins:List (Addr×Obj)) (s:Shared) (σ:St) (H:Hp) (x y:V) (v u:Value) (Q:VK),Inv X pins σ H s->bR x v->bR y u->r x y H Q->
  subscripted slice false v u=operate [v,u] (getItem v u)->wpAny (model X.prog X.w) X.A (subscriptTail value slice v u) (EP X pins σ Q) X.xe s
def MtR(X:Cx)(id:String)(r:V->List V->Hp->VK->Prop):Prop:=
 ∀(pins:List (Addr×Obj)) (s:Shared) (σ:St) (H:Hp) (x:V) (xs:List V) (v:Value) (us:List Value) (Q:VK),Inv X pins σ H s->bR x v->aX xs us->r x xs H Q->
  wpAny (model X.prog X.w) X.A (call (.builtin id) (v::us)) (EP X pins σ Q) X.xe s
variable{o:Expr}
section
variable{a b:Expr}{ta tb:TE}
theorem IxR.or{r r':R2}(h:IxR X r)(h':IxR X r'):IxR X (fun x y H Q=>r x y H Q\/r' x y H Q):=by
 intro value slice pins s σ H x y v u Q I rx ry q hs;rcases q with q|q
 ·exact h value slice pins s σ H x y v u Q I rx ry q hs
 ·exact h' value slice pins s σ H x y v u Q I rx ry q hs
theorem IA{r:R2}(hr:IxR X r)(ha:PE X a ta)(hb:PE X b tb)(hs:qg b):PE X (.Subscript a b pos) (tOp r ta tb):=by
 intro pins s σ H Q I h;exact Subscript_ (Jk ha hb I h fun v u s2 x y H2 I2 rx ry q=>hr a b pins s2 σ H2 x y v u Q I2 rx ry q (hs _ _))
def Kh(K:Q5):R2:=fun x y H Q=>∃p xs i v,x=.ref p/\y=.int i/\SqL K H p xs/\atI xs i=some v/\Q v H
def Kg(K:Q5):R2:=fun x y H Q=>∃p xs i v,x=.ref p/\y=.int i/\SqT K H p xs/\atI xs i=some v/\Q v H
theorem Di:IxR X (Kh X.K):=by
 intro value slice pins s σ H x y v u Q I rx ry h hs;obtain⟨p,xs,i,z,rfl,rfl,hq,he,q⟩:=h;cases rx;obtain⟨t,rfl⟩:=ry;obtain⟨its,r,pl,hz⟩:=I.list hq;obtain⟨j,h1,h2,h3,h4,h5⟩:=xt he;obtain⟨w,ew,rw'⟩:=r.get h2;have hl:=r.length;have hn:=rp;have fin:EP X pins σ Q w s:=⟨z,H,I,rw',q⟩;by_cases h0:0<=i
 ·have hj:i.toNat=j:=by
   rw[seqIndex_of h0 h5]at h1;exact Option.some.inj h1
  exact item_listR pl.isList h0 (by omega) (by rw[hj];simpa using ew) fin hs
 ·have hj:(i+(its.toArray.size:Int)).toNat=j:=by
   rw[seqIndex_neg (by omega) h4]at h1;rw[QM,<-hl];exact Option.some.inj h1
  exact subscriptTail_builtinR (x:=w) pl.isList.typeIs slot_list_getitem.lookup
   (wpAny_getItem_list_neg (Q:=fun r s'=>r=w/\EP X pins σ Q r s') pl.isList (by omega) (by rw[QM]<;>omega) (by omega) (by rw[hj];simpa using ew) ⟨rfl,fin⟩) hs
theorem Gq:IxR X (Kg X.K):=by
 intro value slice pins s σ H x y v u Q I rx ry h hs;obtain⟨p,xs,i,z,rfl,rfl,hq,he,q⟩:=h;cases rx;obtain⟨t,rfl⟩:=ry;obtain⟨its,r,pl,hz⟩:=I.tuple hq;obtain⟨j,h1,h2,h3,h4,h5⟩:=xt he;obtain⟨w,ew,rw'⟩:=r.get h2;have hl:=r.length;have hn:=rp;have fin:EP X pins σ Q w s:=⟨z,H,I,rw',q⟩;exact subscriptTail_builtinR (x:=w) pl.typeIs slot_tuple_getitem.lookup
  (getItem_tuple (j:=j) (Q:=fun r s'=>r=w/\EP X pins σ Q r s') pl (by omega) (by omega) (by rw[QM,<-hl];exact h1) (by simpa using ew) ⟨rfl,fin⟩) hs
theorem tj(its:List Value)(n j:Nat)(u:Value):Obj.mapSeq (·.setIfInBounds j u) { cls:=.type "list",data:=.seq its.toArray n }={ cls:=.type "list",data:=.seq (its.set j u).toArray n }:=by
 simp[Obj.mapSeq]
theorem Inv.lst{pins:List (Addr×Obj)}{σ:St}{H:Hp}{s:Shared}{p:Addr}{xs:List V}(I:Inv X pins σ H s)(h:H p=some (.lst xs)) :
  ∃(its:List Value) (n:Nat),aX xs its/\s.heap.get? p=some { cls:=.type "list",data:=.seq its.toArray n }/\xs.length<=sizeLine:=by
 obtain⟨z,its,n,r,e⟩:=I.hok p _ h;exact⟨its,n,r,e,z⟩
theorem Inv.lstUpd{pins:List (Addr×Obj)}{σ:St}{H:Hp}{s:Shared}{p:Addr}{xs ys:List V}{its its':List Value}{n n':Nat}{f:Obj->Obj}(I:Inv X pins σ H s)(h:H p=some (.lst xs))
  (ho:s.heap.get? p=some { cls:=.type "list",data:=.seq its.toArray n }) (hf:f { cls:=.type "list",data:=.seq its.toArray n }={ cls:=.type "list",data:=.seq its'.toArray n' }) (r:aX ys its') (hz:ys.length<=sizeLine) (t:Nat) :
  Inv X pins σ (upd H p (.lst ys)) { s with heap:=s.heap.update p f,toks:=t }:=by
 have e:(s.heap.update p f).get? p=some { cls:=.type "list",data:=.seq its'.toArray n' }:=by
  rw[Zr f ho (by rw[hf]<;>rfl),hf]
 refine I.write (x:=p) (e:=p) (by rw[h];trivial) (.inl rfl) (fun b u hb q=>(Zp _ _ (Ne.symm hb)).trans q) ⟨_,e⟩ ?_;exact⟨hz,its',n',r,e⟩
def Ie:V->V->V->Hp->(Hp->Prop)->Prop:=fun o i v H Q=>∃p xs k j,o=.ref p/\i=.int k/\H p=some (.lst xs)/\ixN xs.length k=some j/\Q (upd H p (.lst (xs.set j v)))
theorem lX:Js X Ie:=by
 intro pins s σ H o i v ov iv u Q I ro ri rv h;obtain⟨p,xs,k,j,rfl,rfl,hp,hj,q⟩:=h;cases ro;obtain⟨t,rfl⟩:=ri;obtain⟨its,n,r,ho,hz⟩:=I.lst hp;obtain⟨h1,h2,h3,h4⟩:=wa hj;have hl:=r.length;have hn:=rp;have I':Inv X pins σ (upd H p (.lst (xs.set j v))) { s with heap:=s.heap.update p (Obj.mapSeq (·.setIfInBounds j u)) }:=
  I.lstUpd hp ho (tj its n j u) (r.set rv j) (by rw[XY];exact hz) s.toks
 by_cases h0:0<=k
 ·have hk:k.toNat=j:=by
   rw[seqIndex_of h0 h4]at h1;exact Option.some.inj h1
  exact PySem.W.ki_setAt ho h0 (by omega) (by rw[QM,<-hl];exact h4) (by rw[hk];exact⟨_,I',q⟩)
 ·have hk:(k+(its.toArray.size:Int)).toNat=j:=by
   rw[seqIndex_neg (by omega) h3]at h1;rw[QM,<-hl];exact Option.some.inj h1
  exact PySem.W.ki_setBack ho (by omega) (by rw[QM,<-hl];exact h3) (by omega) (by rw[hk];exact⟨_,I',q⟩)
theorem nD(lo hi:Option Int)(n:Nat):(sliceBounds lo hi none n).1=((HT.sIx n 0 lo:Nat):Int)/\(sliceBounds lo hi none n).2.1=((HT.sIx n n hi:Nat):Int)/\(sliceBounds lo hi none n).2.2=1:=by
 refine⟨?_,?_,rfl⟩
 ·cases lo with
  |none=>simp[sliceBounds,HT.sIx]
  |some i=>
   simp only[sliceBounds,HT.sIx,Option.getD_none,show(1:Int)>0 by decide,if_true];by_cases h:i<0
   ·simp only[h,if_true]<;>omega
   ·simp only[h,if_false]<;>omega
 ·cases hi with
  |none=>simp[sliceBounds,HT.sIx]
  |some i=>
   simp only[sliceBounds,HT.sIx,Option.getD_none,show(1:Int)>0 by decide,if_true];by_cases h:i<0
   ·simp only[h,if_true]<;>omega
   ·simp only[h,if_false]<;>omega
theorem lW(its:List Value)(lo hi:Option Int):slicePick its.toArray lo hi none=((its.drop (HT.sIx its.length 0 lo)).take (HT.sIx its.length its.length hi-HT.sIx its.length 0 lo)).toArray:=by
 obtain⟨h1,h2,h3⟩:=nD lo hi its.toArray.size;unfold slicePick;rw[h1,h2,h3];simp only[sliceRange_one,pick_run,QM]<;>rfl
def Ke(K:Q5):V->Option Int->Option Int->Hp->VK->Prop:=fun x lo hi H Q=>∃a xs,x=.ref a/\SqL K H a xs/\∀p,H p=none->Q (.ref p) (upd H p (.lst (A6 xs lo hi)))
theorem uI:SlR X (Ke X.K):=by
 intro pins s σ H x v vl vu lo hi sl Q I rx hs pl pu h;obtain⟨a,xs,rfl,hx,q⟩:=h;cases rx;obtain⟨its,r,ht,hz⟩:=I.list hx;have hlen:=r.length;refine⟨"list",_,slot_list_getitem.lookup,ht.isList.typeIs,?_⟩;refine wpAny_getItem_list_slice ht.isList hs pl pu .none (by simp) ?_ (by rw[QM]<;>omega);rw[lW,<-hlen];refine⟨.ref s.heap.objs.size,_,I.laid (t':=s.toks) (o:=.lst (A6 xs lo hi)) (fun b ob q=>Q3 _ q) (QJ _) ?_,rfl,q _ (I.hok.fresh (QJ _))⟩;exact⟨Qu (kg xs lo hi) hz,_,0,(r.drop (HT.sIx xs.length 0 lo)).take (HT.sIx xs.length xs.length hi-HT.sIx xs.length 0 lo),QU _ rfl⟩
def kC:V->Bool
 |.non=>true
 |.bl _=>true
 |.int _=>true
 |.str _=>true
 |_=>false
noncomputable def eqV:V->V->Bool
 |.non,.non=>true
 |.bl a,.bl b=>a == b
 |.bl a,.int b=>(if a then 1 else 0) == b
 |.int a,.bl b=>a == (if b then 1 else 0)
 |.int a,.int b=>a == b
 |.str a,.str b=>a == b
 |_,_=>false
theorem GL{A:Around}{s:Shared}{y x:V}{u v:Value}(ry:bR y u)(rx:bR x v)(fy:kC y=true)(fx:kC x=true):SeqAt.EqAt A s u v (eqV y x):=by
 cases y with
 |non=>
  cases ry;cases x with
  |non=>cases rx;exact SeqAt.EqAt.same _
  |bl b=>cases rx;exact SeqAt.EqAt.none_bool b
  |int b=>obtain⟨t,rfl⟩:=rx;exact SeqAt.EqAt.none_int b t
  |str b=>obtain⟨t,rfl⟩:=rx;exact SeqAt.EqAt.none_str b t
  |_=>exact absurd (show false=true from fx) Qq
 |bl a=>
  cases ry;cases x with
  |non=>cases rx;exact SeqAt.EqAt.bool_none a
  |bl b=>cases rx;exact SeqAt.EqAt.bool_bool a b
  |int b=>obtain⟨t,rfl⟩:=rx;exact SeqAt.EqAt.bool_int a b t
  |str b=>obtain⟨t,rfl⟩:=rx;exact SeqAt.EqAt.bool_str a b t
  |_=>exact absurd (show false=true from fx) Qq
 |int a=>
  obtain⟨t',rfl⟩:=ry;cases x with
  |non=>cases rx;exact SeqAt.EqAt.int_none a t'
  |bl b=>cases rx;exact SeqAt.EqAt.int_bool a t' b
  |int b=>obtain⟨t,rfl⟩:=rx;exact SeqAt.EqAt.int_int a t' b t
  |str b=>obtain⟨t,rfl⟩:=rx;exact SeqAt.EqAt.int_str a t' b t
  |_=>exact absurd (show false=true from fx) Qq
 |str a=>
  obtain⟨t',rfl⟩:=ry;cases x with
  |non=>cases rx;exact SeqAt.EqAt.str_none a t'
  |bl b=>cases rx;exact SeqAt.EqAt.str_bool a t' b
  |int b=>obtain⟨t,rfl⟩:=rx;exact SeqAt.EqAt.str_int a t' b t
  |str b=>obtain⟨t,rfl⟩:=rx;exact SeqAt.EqAt.str_str a t' b t
  |_=>exact absurd (show false=true from fx) Qq
 |_=>exact absurd (show false=true from fy) Qq
def eqU(x:V)(u:Value):Bool:=match u with
 |.none=>eqV .non x
 |.bool b=>eqV (.bl b) x
 |.int i _=>eqV (.int i) x
 |.str z _=>eqV (.str z) x
 |_=>false
theorem A3{x y:V}{u:Value}(r:bR y u)(f:kC y=true):eqU x u=eqV y x:=by
 cases y with
 |non=>cases r;rfl
 |bl b=>cases r;rfl
 |int i=>obtain⟨t,rfl⟩:=r;rfl
 |str z=>obtain⟨t,rfl⟩:=r;rfl
 |_=>exact absurd (show false=true from f) Qq
theorem kn{x:V}:∀{xs:List V} {us:List Value},aX xs us->xs.all kC=true->us.any (eqU x)=xs.any fun y=>eqV y x
 |_,_,.nil,_=>rfl
 |y::xs,u::us,.cons r t,f=>by
  rw[List.all_cons,Bool.and_eq_true]at f;rw[XH,XH,A3 r f.1,kn t f.2]
theorem iB{A:Around}{s:Shared}{x:V}{v:Value}(rx:bR x v)(fx:kC x=true):∀{xs:List V} {us:List Value},aX xs us->xs.all kC=true->∀u∈us,SeqAt.EqAt A s u v (eqU x u)
 |_,_,.nil,_=>fun u hu=>by cases hu
 |y::xs,u::us,.cons r t,f=>fun u' hu=>by
  rw[List.all_cons,Bool.and_eq_true]at f;rcases Qk.mp hu with rfl|hu
  ·rw[A3 r f.1];exact GL r rx f.1 fx
  ·exact iB rx fx t f.2 u' hu
def inV(x:V)(xs:List V):Bool:=xs.any fun y=>eqV y x
def rIn(K:Q5)(neg:Bool):R2:=fun x y H Q=>∃p xs,y=.ref p/\(SqL K H p xs\/SqT K H p xs)/\kC x=true/\xs.all kC=true/\Q (.bl (if neg then !inV x xs else inV x xs)) H
theorem nR:OpR X (compareOp .In) (rIn X.K false):=by
 intro pins s σ H x y v u Q I rx ry h;obtain⟨p,xs,rfl,hq,fx,fs,q⟩:=h;cases ry;rcases hq with hq|hq
 ·obtain⟨its,r,pl,hz⟩:=I.list hq;refine SeqAt.in_listAt (eqU x) pl.isList (fun w hw=>iB rx fx r fs w (by simpa using hw)) ⟨.bl _,H,I,rfl,?_⟩;rw[show its.toArray.any (eqU x)=its.any (eqU x)by simp,kn r fs];exact q
 ·obtain⟨its,r,pl,hz⟩:=I.tuple hq;refine SeqAt.in_tupleAt (eqU x) pl (fun w hw=>iB rx fx r fs w (by simpa using hw)) ⟨.bl _,H,I,rfl,?_⟩;rw[show its.toArray.any (eqU x)=its.any (eqU x)by simp,kn r fs];exact q
theorem nO:OpR X (compareOp .NotIn) (rIn X.K true):=by
 intro pins s σ H x y v u Q I rx ry h;obtain⟨p,xs,rfl,hq,fx,fs,q⟩:=h;cases ry;rcases hq with hq|hq
 ·obtain⟨its,r,pl,hz⟩:=I.list hq;refine SeqAt.notIn_listAt (eqU x) pl.isList (fun w hw=>iB rx fx r fs w (by simpa using hw)) ⟨.bl _,H,I,rfl,?_⟩;rw[show its.toArray.any (eqU x)=its.any (eqU x)by simp,kn r fs];exact q
 ·obtain⟨its,r,pl,hz⟩:=I.tuple hq;refine SeqAt.notIn_tupleAt (eqU x) pl (fun w hw=>iB rx fx r fs w (by simpa using hw)) ⟨.bl _,H,I,rfl,?_⟩;rw[show its.toArray.any (eqU x)=its.any (eqU x)by simp,kn r fs];exact q
theorem oJ:bX X (.builtin "len") (fun xs H Q=>∃p ys,xs=[.ref p]/\(SqL X.K H p ys\/SqT X.K H p ys)/\Q (.int ys.length) H):=by
 intro pins s σ H xs us Q I r h;obtain⟨p,ys,rfl,hq,q⟩:=h;obtain⟨u,rfl,rx⟩:=eS r;cases rx;have hn:=rp;rcases hq with hq|hq
 ·obtain⟨its,r',pl,hz⟩:=I.list hq;have hlen:=r'.length;exact Calls.call_len_list pl.isList (by simp only[QM]<;>omega) ⟨.int ys.length,H,I.tok _,⟨s.toks+1,by rw[QM,hlen]⟩,q⟩
 ·obtain⟨its,r',pl,hz⟩:=I.tuple hq;have hlen:=r'.length;exact len_tuple pl (by simp only[QM]<;>omega) ⟨.int ys.length,H,I.tok _,⟨s.toks+1,by rw[QM,hlen]⟩,q⟩
theorem bX.or{f:Value}{r r':List V->Hp->VK->Prop}(h:bX X f r)(h':bX X f r'):bX X f (fun xs H Q=>r xs H Q\/r' xs H Q):=by
 intro pins s σ H xs us Q I rs q;rcases q with q|q
 ·exact h pins s σ H xs us Q I rs q
 ·exact h' pins s σ H xs us Q I rs q
theorem cN:bX X (.type "list") (fun xs H Q=>∃p ys,xs=[.ref p]/\(SqL X.K H p ys\/SqT X.K H p ys)/\∀l,H l=none->Q (.ref l) (upd H l (.lst ys))):=by
 intro pins s σ H xs us Q I r h;obtain⟨p,ys,rfl,hq,q⟩:=h;obtain⟨u,rfl,rx⟩:=eS r;cases rx;have fin:∀(its:List Value),aX ys its->ys.length<=sizeLine->∀(h':Heap) (c':Nat),(∀b o',s.heap.get? b=some o'->h'.get? b=some o')->
   h'.get? s.heap.objs.size=some { cls:=.type "list",dict:=none,data:=.seq its.toArray c',slots:=#[] }->EP X pins σ Q (.ref s.heap.objs.size) { s with heap:=h' }:=fun its r' hz h' c' kp e=>
  ⟨.ref s.heap.objs.size,_,I.laid (t':=s.toks) kp (QJ _) (show bF X.prog X.w _ h' _ (.lst ys)from⟨hz,its,c',r',e⟩),rfl,q _ (I.hok.fresh (QJ _))⟩
 rcases hq with hq|hq
 ·obtain⟨its,r',pl,hz⟩:=I.list hq;have hlen:=r'.length;obtain⟨o,ho,hc,n,hd⟩:=pl.isList;exact call_list_seq p (.inl rfl) ho hc hd (fun h' c' kp e=>fin its r' hz h' c' kp e) (by simp only[QM]<;>omega)
 ·obtain⟨its,r',pl,hz⟩:=I.tuple hq;have hlen:=r'.length;obtain⟨o,ho,hc,n,hd⟩:=pl;exact call_list_seq p (.inr rfl) ho hc hd (fun h' c' kp e=>fin its r' hz h' c' kp e) (by simp only[QM]<;>omega)
theorem bD:bX X (.type "tuple") (fun xs H Q=>∃p ys,xs=[.ref p]/\((SqL X.K H p ys/\∀l,H l=none->Q (.ref l) (upd H l (.tup ys)))\/(SqT X.K H p ys/\Q (.ref p) H))):=by
 intro pins s σ H xs us Q I r h;obtain⟨p,ys,rfl,h⟩:=h;obtain⟨u,rfl,rx⟩:=eS r;cases rx;rcases h with⟨hq,q⟩|⟨hq,q⟩
 ·obtain⟨its,r',pl,hz⟩:=I.list hq;have hlen:=r'.length;refine call_tuple_list pl.isList (fun h' kp=>?_) (by simp only[QM]<;>omega);have I1:Inv X pins σ H { s with heap:=h' }:=I.kept (t':=s.toks) kp;have I2:Inv X pins σ (upd H h'.objs.size (.tup ys)) { s with heap:=h'.push { cls:=.type "tuple",data:=.seq its.toArray } }:=
   I1.laid (t':=s.toks) (fun b o e=>Q3 _ e) (QJ _) (show bF X.prog X.w _ _ _ (.tup ys)from⟨hz,its,r',IsTup.new _ _⟩)
  exact⟨.ref h'.objs.size,_,I2,rfl,q _ (I1.hok.fresh (QJ _))⟩
 ·obtain⟨its,r',pl,hz⟩:=I.tuple hq;exact call_tuple_same pl ⟨.ref p,H,I,rfl,q⟩
def tyV(K:Q5)(T:String)(x:V)(H:Hp):Prop:=match x with
 |.str _=>T="str"
 |.int _=>T="int"
 | .ref p=>(T="list"/\∃xs,SqL K H p xs)\/(T="tuple"/\∃o,K.lookup p=some o/\o.cls=.type "tuple"/\o.dict=none)\/
   (T="dict"/\((∃kvs,H p=some (.dK kvs))\/∃kvs,H p=some (.dT kvs)))\/(T="set"/\∃S n,H p=some (.set S n))
 |_=>False
theorem An{pins:List (Addr×Obj)}{σ:St}{H:Hp}{s:Shared}{T:String}{x:V}{v:Value}(I:Inv X pins σ H s)(r:bR x v)(ty:tyV X.K T x H) :
  s.TypeIs v T/\∀a,v=.ref a->∃ob,s.heap.get? a=some ob/\ob.dict=none:=by
 cases x with
 |str z=>
  obtain⟨t,rfl⟩:=r;cases (show T="str" from ty);exact⟨typeIs_str s z t,fun _ e=>nomatch e⟩
 |int i=>
  obtain⟨t,rfl⟩:=r;cases (show T="int" from ty);exact⟨typeIs_int s i t,fun _ e=>nomatch e⟩
 |ref p=>
  cases r;rcases ty with⟨rfl,xs,hq⟩|⟨rfl,o,hk,hc,hd⟩|⟨rfl,hk⟩|⟨rfl,S,n,hk⟩
  ·obtain⟨its,_,pl,_⟩:=I.list hq;refine⟨pl.isList.typeIs,fun a e=>?_⟩;cases e;obtain⟨o,n,e,c,hd,_⟩:=pl;exact⟨o,e,hd⟩
  ·refine⟨⟨o,I.kIn p o hk,hc⟩,fun a e=>?_⟩;cases e;exact⟨o,I.kIn _ o hk,hd⟩
  ·have z:∃o,s.heap.get? p=some o/\o.ExactDict:=by
    rcases hk with⟨kvs,hk⟩|⟨kvs,hk⟩
    ·obtain⟨_,_,_,_,o,_,_,e,ex,_⟩:=I.hok p _ hk;exact⟨o,e,ex⟩
    ·obtain⟨_,_,_,_,o,_,_,e,ex,_⟩:=I.hok p _ hk;exact⟨o,e,ex⟩
   obtain⟨o,e,ex⟩:=z;refine⟨⟨o,e,ex.1⟩,fun a e2=>?_⟩;cases e2;exact⟨o,e,ex.2.1⟩
  ·obtain⟨o,_,_,_,e,ex,_⟩:=I.hok p _ hk;refine⟨⟨o,e,ex.1⟩,fun a e2=>?_⟩;cases e2;exact⟨o,e,ex.2.1⟩
 |_=>exact False.elim ty
def JC(K:Q5)(T:String)(r:V->List V->Hp->VK->Prop)(to:TE):TE:=fun σ H Q=>to σ H fun x H1=>tyV K T x H1/\r x [] H1 Q
def tBM(K:Q5)(T:String)(r:V->List V->Hp->VK->Prop)(to:TE)(t:TA):TE:=fun σ H Q=>to σ H fun x H1=>tyV K T x H1/\t σ H1 fun xs H2=>r x xs H2 Q
variable{es:List Expr}{to:TE}{t:TA}{name:Str}{apos cpos:Pos}{T id:String}{r:V->List V->Hp->VK->Prop}
theorem FL(pa:PlainAttrs T)(slot:Slot T name id)(hty:typeOf (.builtin id)=pure (.type "method_descriptor"))(hm:MtR X id r)(ho:PE X o to)
  (hbase:attributeBase o name X.env (eval o X.env)=eval o X.env:=by rfl) (hline:(apos.endLine == cpos.line)=true:=by rfl):PE X (.Call (.Attribute o name apos) [] [] cpos) (JC X.K T r to):=by
 intro pins s σ H Q I h;refine wpAny_Call_method0_late hbase hline (thn (ho pins s σ H _ I h) fun v s1 hz=>?_);obtain⟨x,H1,I1,r1,ty,q1⟩:=hz;obtain⟨h1,h2⟩:=An I1 r1 ty;exact⟨T,id,pa,slot,hty,h1,h2,Calls.callWith_builtin rfl (PySem.evalArgs_none (hm pins s1 σ H1 x [] v [] Q I1 r1 .nil q1))⟩
theorem IB(pa:PlainAttrs T)(slot:Slot T name id)(hty:typeOf (.builtin id)=pure (.type "method_descriptor"))(hm:MtR X id r)(ho:PE X o to)(ha:PA X (e::es) t)
  (hbase:attributeBase o name X.env (eval o X.env)=eval o X.env:=by rfl)
  (hfew:((backTo cpos (starEach (e::es) X.env)).all (fun x=>!x.1)&&(backToKw cpos (keywordEach [] X.env)).all (fun x=>x.1.isSome)
   && decide ((e::es).length+([]:List Keyword).length+(if ([]:List Keyword).isEmpty then 0 else 1)<30))=true:=by rfl)
  (hline:(apos.endLine == cpos.line)=true:=by rfl) (hs:starEach (e::es) X.env=(false,eval e X.env)::starEach es X.env:=by rfl) (hplain:(backTo cpos (starEach es X.env)).any (·.1)=false:=by rfl) :
  PE X (.Call (.Attribute o name apos) (e::es) [] cpos) (tBM X.K T r to t):=by
 intro pins s σ H Q I h;refine wpAny_Call_method_late hbase hfew hline rfl (thn (ho pins s σ H _ I h) fun v s1 hz=>?_);obtain⟨x,H1,I1,r1,ty,q1⟩:=hz;obtain⟨h1,h2⟩:=An I1 r1 ty;refine⟨T,id,pa,slot,hty,h1,h2,?_⟩;have hA:=ha cpos pins s1 σ H1 _ I1 q1;rw[hs]at hA ⊢;refine Calls.callWith_builtin (by show(false||(backTo cpos (starEach es X.env)).any (·.1))=false;rw[hplain]<;>rfl) (Calls.evalArgs_plain ?_);exact thn hA fun us s2 ⟨vs,H2,I2,r2,q2⟩=>hm pins s2 σ H2 x vs v us Q I2 r1 r2 q2
end
def MtM(X:Cx)(id:String)(r:V->List V->Hp->VK->Prop):Prop:=
 ∀(pins:List (Addr×Obj)) (s:Shared) (σ:St) (H:Hp) (x:V) (xs:List V) (v:Value) (us:List Value) (Q:VK),Inv X pins σ H s->bR x v->aX xs us->r x xs H Q->
  wpAny (model X.prog X.w) X.A (call (.builtin id) (v::us)) (EP X pins σ Q) X.xe s
theorem aX.one:∀{x:V} {us:List Value},aX [x] us->∃u,us=[u]/\bR x u
 |_,_,.cons r .nil=>⟨_,rfl,r⟩
theorem aX.zero:∀{us:List Value},aX [] us->us=[]
 |_,.nil=>rfl
theorem aX.eraseIdx:∀{xs:List V} {us:List Value} (i:Nat),aX xs us->aX (xs.eraseIdx i) (us.eraseIdx i)
 |_,_,_,.nil=>.nil
 |_,_,0,.cons _ t=>t
 |_,_,i+1,.cons r t=>.cons r (aX.eraseIdx i t)
theorem nW{α:Type}:∀(l:List α) (i:Nat),(l.eraseIdx i).length<=l.length
 |[],_=>QJ _
 |_::_,0=>XR _
 |_::r,i+1=>Nat.succ_le_succ (nW r i)
variable{pins:List (Addr×Obj)}{σ:St}{H:Hp}{s:Shared}
section
variable{l:Addr}{xs ys:List V}
theorem Inv.lset{its its':List Value}{n:Nat}{f:Array Value->Array Value}{t':Nat}(I:Inv X pins σ H s)(hH:H l=some (.lst xs))
  (e:s.heap.get? l=some { cls:=.type "list",data:=.seq its.toArray n }) (hf:f its.toArray=its'.toArray) (hv:aX ys its') (hz:ys.length<=sizeLine) :
  Inv X pins σ (upd H l (.lst ys)) { s with heap:=s.heap.update l (Obj.mapSeq f),toks:=t' }:=by
 have q:=PySem.IsL.update e f;rw[hf]at q;refine I.write (x:=l) (e:=l) (by rw[hH];exact trivial) (.inl rfl) (fun b' u hb hu=>(Zp s.heap (Obj.mapSeq f) (Ne.symm hb)).trans hu) ⟨_,q⟩ ?_;exact⟨hz,its',_,hv,q⟩
theorem Inv.lnew{its:List Value}{t':Nat}(I:Inv X pins σ H s)(hv:aX ys its)(hz:ys.length<=sizeLine) :
  Inv X pins σ (upd H s.heap.objs.size (.lst ys)) { s with heap:=s.heap.push { cls:=.type "list",data:=.seq its.toArray },toks:=t' }:=
 I.laid (fun _ _ q=>Q3 _ q) (QJ _) ⟨hz,its,0,hv,QU _ rfl⟩
theorem Inv.fresh(I:Inv X pins σ H s):H s.heap.objs.size=none:=I.hok.fresh (QJ _)
theorem Inv.lstM(I:Inv X pins σ H s)(hH:H l=some (.lst xs)):xs.length<=sizeLine/\∃(its:List Value) (n:Nat),aX xs its/\xs.length=its.length/\s.heap.get? l=some { cls:=.type "list",data:=.seq its.toArray n }:=by
 obtain⟨z,its,n,r,e⟩:=I.hok l _ hH;exact⟨z,its,n,r,r.length,e⟩
theorem y4{n:Nat}(h:n<=sizeLine):Builtin.List.listTooLong n=false:=by
 unfold Builtin.List.listTooLong;exact decide_eq_false (by omega)
end
def u0:V->List V->Hp->VK->Prop:=fun x vs H Q=>∃l xs y,x=.ref l/\vs=[y]/\H l=some (.lst xs)/\xs.length<sizeLine/\Q .non (upd H l (.lst (xs++[y])))
theorem jO:MtM X "list.append" u0:=by
 intro pins s σ H x vs v us Q I rx rv h;obtain⟨l,xs,y,rfl,rfl,hH,hz,q⟩:=h;cases rx;obtain⟨u,rfl,ru⟩:=rv.one;obtain⟨z,its,n,r,hl,e⟩:=I.lstM hH;refine call_meets F.slot_list_append ⟨_,e,rfl⟩ F.entry_list_append (F.args_list_append_2 _ _) (PySem.list_append l its.toArray n u (by rw[QM];omega)) ⟨e,?_⟩;refine⟨.non,_,I.lset (its':=its++[u]) hH e (by simp) (r.append (.cons ru .nil)) ?_,rfl,q⟩;rw[QZ,Qo];omega
def uZ:V->List V->Hp->VK->Prop:=fun x vs H Q=>∃l b xs zs,x=.ref l/\vs=[.ref b]/\H l=some (.lst xs)/\H b=some (.lst zs)/\xs.length+zs.length<=sizeLine/\Q .non (upd H l (.lst (xs++zs)))
theorem vH:MtM X "list.extend" uZ:=by
 intro pins s σ H x vs v us Q I rx rv h;obtain⟨l,b,xs,zs,rfl,rfl,hH,hB,hz,q⟩:=h;cases rx;obtain⟨u,rfl,ru⟩:=rv.one;cases ru;obtain⟨z,its,n,r,hl,e⟩:=I.lstM hH;obtain⟨z2,its2,n2,r2,hl2,e2⟩:=I.lstM hB;have hsz:its.toArray.size+its2.toArray.size<=sizeLine:=by rw[QM,QM];omega
 have hlong:¬(!its.toArray.isEmpty&&Builtin.List.listTooLong (its.toArray.size+its2.toArray.size))=true:=by
  rw[y4 hsz,Bool.and_false];exact Qq
 refine call_meets F.slot_list_extend ⟨_,e,rfl⟩ F.entry_list_extend (F.args_list_extend_2 _ _)
  (AutoSeq1.list_extend_list_list_0 l its.toArray n b its2.toArray n2 hlong (by rw[QM];omega) (by omega)) ⟨e,e2,?_⟩
 refine⟨.non,_,I.lset (its':=its++its2) hH e (by simp) (r.append r2) ?_,rfl,q⟩;rw[QZ];omega
def AA:V->List V->Hp->VK->Prop:=fun x vs H Q=>∃l xs i k y,x=.ref l/\vs=[.int i]/\H l=some (.lst xs)/\-(2^63)<=i/\i<2^63/\seqIndex? i xs.length=some k/\xs[k]?=some y/\Q y (upd H l (.lst (xs.eraseIdx k)))
theorem y8:MtM X "list.pop" AA:=by
 intro pins s σ H x vs v us Q I rx rv h;obtain⟨l,xs,i,k,y,rfl,rfl,hH,h1,h2,hk,hy,q⟩:=h;cases rx;obtain⟨u,rfl,ru⟩:=rv.one;obtain⟨t,rfl⟩:=ru;obtain⟨z,its,n,r,hl,e⟩:=I.lstM hH;obtain⟨w,hw,rw'⟩:=r.get hy;refine call_meets F.slot_list_pop ⟨_,e,rfl⟩ F.entry_list_pop (F.args_list_pop_2 _ _)
  (MeetsSeq.list_pop_at l its.toArray n i t k w (fitsIndex_both h1 h2) (by rw[QM,<-hl];exact hk) (by rw[<-QC];exact hw) (by rw[QM];omega)) ⟨e,?_⟩
 refine⟨y,_,I.lset (its':=its.eraseIdx k) hH e ?_ (r.eraseIdx k) ?_,rw',q⟩
 ·show its.toArray.eraseIdxIfInBounds k=(its.eraseIdx k).toArray;rw[List.eraseIdxIfInBounds_toArray]
 ·have:=nW xs k;omega
def He:R2:=fun x y H Q=>∃l b xs zs,x=.ref l/\y=.ref b/\H l=some (.lst xs)/\H b=some (.lst zs)/\xs.length+zs.length<=sizeLine/\∀p,H p=none->Q (.ref p) (upd H p (.lst (xs++zs)))
theorem FW:OpR X (binaryOp .Add) He:=by
 intro pins s σ H x y v u Q I rx ry h;obtain⟨l,b,xs,zs,rfl,rfl,hH,hB,hz,q⟩:=h;cases rx;cases ry;obtain⟨z,its,n,r,hl,e⟩:=I.lstM hH;obtain⟨z2,its2,n2,r2,hl2,e2⟩:=I.lstM hB;refine PySem.P.add_list e e2 ?_ (by rw[QM,QM];omega);have ea:its.toArray++its2.toArray=(its++its2).toArray:=by simp
 rw[ea];exact⟨.ref _,_,I.lnew (t':=s.toks) (r.append r2) (by rw[QZ];omega),rfl,q _ I.fresh⟩
section
variable{κ:Type}[DecidableEq κ]
def kr(kvs:List (κ×V))(k:κ):Option V:=(kvs.find? fun kv=>decide (kv.1=k)).map (·.2)
def o5(kvs:List (κ×V))(k:κ)(v:V):List (κ×V):=
 if (kvs.any fun kv=>decide (kv.1=k))=true then kvs.map (fun kv=>if kv.1=k then(kv.1,v)else kv)else kvs++[(k,v)]
theorem lQ{p:κ×V}{r:List (κ×V)}{k:κ}(e:p.1=k):kr (p::r) k=some p.2:=by simp[kr,Zl,e]
theorem lT{p:κ×V}{r:List (κ×V)}{k:κ}(e:¬p.1=k):kr (p::r) k=kr r k:=by simp[kr,Zl,e]
theorem qx(k:κ):∀kvs:List (κ×V),(kvs.any fun kv=>decide (kv.1=k))=(kr kvs k).isSome
 |[]=>rfl
 |p::r=>by
  rw[XH];by_cases e:p.1=k
  ·simp only[lQ e,decide_eq_true e,Bool.true_or,Option.isSome_some]
  ·rw[lT e,decide_eq_false e,Bool.false_or];exact qx k r
theorem jQ(kvs:List (κ×V))(k:κ)(v:V):(o5 kvs k v).length<=kvs.length+1:=by
 unfold o5;split
 ·rw[QX];omega
 ·rw[QZ,QH,List.length_nil];omega
theorem tV.isSome_eq{o:Option V}{u:Option Value}(r:tV o u):o.isSome=u.isSome:=by
 cases o with
 |none=>cases u with
  |none=>rfl
  |some _=>exact(show False from r).elim
 |some _=>cases u with
  |none=>exact(show False from r).elim
  |some _=>rfl
theorem KV.val{kvs:List (κ×V)}{vs:List (κ×Value)}(r:KV kvs vs)(k:κ):tV (kr kvs k) (valueAt vs k):=by
 unfold KV at r;induction r with
 |nil=>exact True.intro
 |@cons p q ps qs h t ih=>
  obtain⟨h1,h2⟩:=h;by_cases e:p.1=k
  ·have e':q.1=k:=h1.symm.trans e;have b:valueAt (q::qs) k=some q.2:=by simp[valueAt,Zl,e']
   rw[lQ e,b];exact h2
  ·have e':¬q.1=k:=fun z=>e (h1.trans z);have b:valueAt (q::qs) k=valueAt qs k:=by simp[valueAt,Zl,e']
   rw[lT e,b];exact ih
theorem KV.any{kvs:List (κ×V)}{vs:List (κ×Value)}(r:KV kvs vs)(k:κ):(kvs.any fun kv=>decide (kv.1=k))=vs.any fun kv=>decide (kv.1=k):=by
 unfold KV at r;induction r with
 |nil=>rfl
 |cons h t ih=>rw[XH,XH,ih,h.1]
theorem KV.repl{kvs:List (κ×V)}{vs:List (κ×Value)}(r:KV kvs vs)(k:κ){y:V}{u:Value}(ry:bR y u) :
  KV (kvs.map fun kv=>if kv.1=k then(kv.1,y)else kv) (vs.map fun kv=>if kv.1=k then(kv.1,u)else kv):=by
 unfold KV at r ⊢;induction r with
 |nil=>exact .nil
 |@cons p q ps qs h t ih=>
  rw[Qx,Qx];refine .cons ?_ ih;obtain⟨h1,h2⟩:=h;by_cases e:p.1=k
  ·rw[if_pos e,if_pos (h1.symm.trans e)];exact⟨h1,ry⟩
  ·rw[if_neg e,if_neg (fun z=>e (h1.trans z))];exact⟨h1,h2⟩
theorem KV.put{kvs:List (κ×V)}{vs:List (κ×Value)}(r:KV kvs vs)(k:κ){y:V}{u:Value}(ry:bR y u):KV (o5 kvs k y) (stored vs k u):=by
 unfold o5 stored;rw[r.any k];by_cases e:(vs.any fun kv=>decide (kv.1=k))=true
 ·rw[if_pos e,if_pos e];exact r.repl k ry
 ·rw[if_neg e,if_neg e];exact Paired.snoc r ⟨rfl,ry⟩
theorem KV.length{kvs:List (κ×V)}{vs:List (κ×Value)}(r:KV kvs vs):kvs.length=vs.length:=Paired.length r
end
theorem vZ{P:Program}{w:World}{k:Key}{u:Value}(r:bR (kV k) u):(bB P w).is k u=true:=by
 cases k with
 |inl i=>obtain⟨t,e⟩:=(show ∃t,u=Value.int i t from r);subst e;exact pL P w i t
 |inr x=>obtain⟨t,e⟩:=(show ∃t,u=Value.str x t from r);subst e;exact pK P w x t
theorem jS{P:Program}{w:World}:∀{ks:List Key} {us:List Value},aX (ks.map kV) us->ItemsAre (bB P w) ks us
 |[],_,r=>by rw[XU]at r;cases r;exact .nil
 |k::ks,_,r=>by
  rw[Qx]at r;cases r with
  |cons h t=>exact .cons (vZ h) (jS t)
abbrev KT(H:Hp):List (List Key×V)->List (List Key×Addr×Value)->Prop:=Paired fun p q=>p.1=q.1/\H q.2.1=some (.tup (p.1.map kV))/\bR p.2 q.2.2
theorem KT.val{H:Hp}{kvs:List (List Key×V)}{xs:List (List Key×Addr×Value)}(r:KT H kvs xs)(k:List Key):tV (kr kvs k) ((atKey xs k).map (·.2)):=by
 induction r with
 |nil=>exact True.intro
 |@cons p q ps qs h t ih=>
  obtain⟨h1,_,h2⟩:=h;by_cases e:p.1=k
  ·have e':q.1=k:=h1.symm.trans e;have b:atKey (q::qs) k=some q.2:=by simp[atKey,Zl,e']
   rw[lQ e,b];exact h2
  ·have e':¬q.1=k:=fun z=>e (h1.trans z);have b:atKey (q::qs) k=atKey qs k:=by simp[atKey,Zl,e']
   rw[lT e,b];exact ih
theorem KT.repl{H:Hp}{kvs:List (List Key×V)}{xs:List (List Key×Addr×Value)}(r:KT H kvs xs)(k:List Key){y:V}{u:Value}(ry:bR y u) :
  KT H (kvs.map fun kv=>if kv.1=k then(kv.1,y)else kv) (xs.map (putAt k u)):=by
 induction r with
 |nil=>exact .nil
 |@cons p q ps qs h t ih=>
  rw[Qx,Qx];refine .cons ?_ ih;obtain⟨h1,h2,h3⟩:=h;unfold putAt;by_cases e:p.1=k
  ·rw[if_pos e,if_pos (h1.symm.trans e)];exact⟨h1,h2,ry⟩
  ·rw[if_neg e,if_neg (fun z=>e (h1.trans z))];exact⟨h1,h2,h3⟩
theorem KT.put{H:Hp}{kvs:List (List Key×V)}{xs:List (List Key×Addr×Value)}(r:KT H kvs xs)(k:List Key){b:Addr}{y:V}{u:Value}(hb:H b=some (.tup (k.map kV)))(ry:bR y u) :
  KT H (o5 kvs k y) (storedH xs k b u):=by
 have e:(kvs.any fun kv=>decide (kv.1=k))=(atKey xs k).isSome:=by
  rw[qx,(r.val k).isSome_eq,Option.isSome_map]
 unfold o5 storedH;rw[e];by_cases q:(atKey xs k).isSome=true
 ·rw[if_pos q,if_pos q];exact r.repl k ry
 ·rw[if_neg q,if_neg q];exact Paired.snoc r ⟨rfl,hb,ry⟩
theorem KT.keeps{H H':Hp}{kvs:List (List Key×V)}{xs:List (List Key×Addr×Value)}(r:KT H kvs xs)(ht:∀b ys,H b=some (.tup ys)->H' b=some (.tup ys)):KT H' kvs xs:=
 Paired.mapP r fun _ _ z=>⟨z.1,ht _ _ z.2.1,z.2.2⟩
variable{a:Addr}
section
variable{P:Program}{w:World}{h:Heap}
theorem Fg{u:HO}(ok:HOk P w H h)(e:Rd H a u):bF P w H h a u:=e.ok ok
theorem tL{kvs:List (Key×V)}(ok:HOk P w H h)(e:Rd H a (.dK kvs)):kvs.length<=sizeLine/\(a == sysModules)=false/\∃vs,KV kvs vs/\h.DictOf (bB P w) a vs:=
 show bF P w H h a (.dK kvs)from Fg ok e
theorem DG{kvs:List (Key×V)}(ok:HOk P w H h)(e:H a=some (.dK kvs)):kvs.length<=sizeLine/\(a == sysModules)=false/\∃vs,KV kvs vs/\h.DictOf (bB P w) a vs:=tL ok (.inl e)
theorem nX{ks:List Key}(ok:HOk P w H h)(e:H a=some (.tup (ks.map kV))):(tupleKind (bB P w)).is h ks a:=by
 obtain⟨_,its,r,o,h1,h2,n,h3⟩:=(show bF P w H h a (.tup (ks.map kV))from ok a _ e);exact⟨o,its.toArray,n,h1,h2,h3,by simpa using jS r⟩
theorem pV{kvs:List (List Key×V)}(ok:HOk P w H h)(e:Rd H a (.dT kvs)):kvs.length<=sizeLine/\(a == sysModules)=false/\
  ∃xs,KT H kvs xs/\h.DictOfH (tupleKind (bB P w)) a xs:=by
 obtain⟨z,y,xs,r,o,es,ep,h1,h2,h3,h4,h5⟩:=(show bF P w H h a (.dT kvs)from Fg ok e);refine⟨z,y,xs,r,o,es,ep,h1,h2,h3,h4,fun x hx=>?_,h5⟩;have all:∀{l:List (List Key×V)} {m:List (List Key×Addr×Value)},KT H l m->∀x∈m,(tupleKind (bB P w)).is h x.1 x.2.1:=by
  intro l m q;induction q with
  |nil=>intro x hx;exact nomatch hx
  |@cons p q ps qs hq t ih=>
   intro x hx;rcases Qk.mp hx with e|hx
   ·subst e;exact nX ok (by rw[<-hq.1];exact hq.2.1)
   ·exact ih x hx
 exact all r x hx
theorem Jh{kvs:List (List Key×V)}(ok:HOk P w H h)(e:H a=some (.dT kvs)):kvs.length<=sizeLine/\(a == sysModules)=false/\
  ∃xs,KT H kvs xs/\h.DictOfH (tupleKind (bB P w)) a xs:=pV ok (.inl e)
end
def DGet(H:Hp)(a:Addr)(y:V)(r:Option V):Prop:=
 (∃kvs k,Rd H a (.dK kvs)/\y=kV k/\r=kr kvs k)\/∃kvs k b,Rd H a (.dT kvs)/\y=.ref b/\H b=some (.tup (k.map kV))/\r=kr kvs k
def Be(H:Hp)(a:Addr)(y v:V)(H':Hp):Prop:=
 (∃kvs k,H a=some (.dK kvs)/\y=kV k/\kvs.length<sizeLine/\H'=upd H a (.dK (o5 kvs k v)))\/
 ∃kvs k b,H a=some (.dT kvs)/\y=.ref b/\H b=some (.tup (k.map kV))/\kvs.length<sizeLine/\H'=upd H a (.dT (o5 kvs k v))
theorem DGet.k{H:Hp}{a:Addr}{kvs:List (Key×V)}{k:Key}(e:H a=some (.dK kvs)):DGet H a (kV k) (kr kvs k):=.inl ⟨kvs,k,.inl e,rfl,rfl⟩
theorem Be.k{H:Hp}{a:Addr}{kvs:List (Key×V)}{k:Key}{v:V}(e:H a=some (.dK kvs))(hl:kvs.length<sizeLine):Be H a (kV k) v (upd H a (.dK (o5 kvs k v))):=.inl ⟨kvs,k,e,rfl,hl,rfl⟩
theorem Be.t{H:Hp}{a b:Addr}{kvs:List (List Key×V)}{k:List Key}{v:V}(e:H a=some (.dT kvs))(eb:H b=some (.tup (k.map kV)))(hl:kvs.length<sizeLine) :
  Be H a (.ref b) v (upd H a (.dT (o5 kvs k v))):=.inr ⟨kvs,k,b,e,rfl,eb,hl,rfl⟩
variable{A:Around}{E:Value->Shared->Prop}
section
variable{y v:V}{u r:Value}{o:Option V}
theorem Inv.big(I:Inv X pins σ H s):sysModules<s.heap.objs.size:=by
 have h:mainGlobals<s.heap.objs.size:=(I.mod.glob.keeps I.bk).lt;exact Nat.lt_trans (by decide) h
theorem wU{Q:Value->Shared->Prop}(hu:A.units+1<cLine)(I:Inv X pins σ H s)(g:DGet H a y (some v))(ry:bR y u)(h:∀w' s',Inv X pins σ H s'->bR v w'->Q w' s') :
  wpAny (model X.prog X.w) A (getItem (.ref a) u) Q E s:=by
 rcases g with⟨kvs,k,e,ey,l⟩|⟨kvs,k,b,e,ey,eb,l⟩
 ·subst ey;obtain⟨z,hd,vs,rel,dd⟩:=tL I.hok e;obtain⟨w',hw,rw'⟩:=tV.some_of (v:=v) (o:=valueAt vs k) (by rw[l];exact rel.val k);exact wpAny_getItem_of (vZ ry) dd.mapOf hw (h w' _ (I.tok _) rw')
 ·subst ey;cases (show u=Value.ref b from ry);obtain⟨z,hd,xs,rel,dd⟩:=pV I.hok e;obtain⟨w',hw,rw'⟩:=tV.some_of (v:=v) (o:=(atKey xs k).map (·.2)) (by rw[l];exact rel.val k);obtain⟨p,hp,hp2⟩:=Qs.mp hw;refine wpAny_getItem_heap (tupleKind_room_in1 hu) (nX I.hok eb) dd hp ?_;rw[hp2];exact h w' _ (I.tok _) rw'
theorem Ko{Q:Value->Shared->Prop}(hu:A.units+1<cLine)(I:Inv X pins σ H s)(g:DGet H a y o)(ry:bR y u)(h:∀s',Inv X pins σ H s'->Q (.bool o.isSome) s') :
  wpAny (model X.prog X.w) A (compareOp .In u (.ref a)) Q E s:=by
 rcases g with⟨kvs,k,e,ey,l⟩|⟨kvs,k,b,e,ey,eb,l⟩
 ·subst ey;obtain⟨z,hd,vs,rel,dd⟩:=tL I.hok e;refine wpAny_in_of (vZ ry) hd dd.mapOf ?_;rw[<-(rel.val k).isSome_eq,<-l];exact h _ (I.tok _)
 ·subst ey;cases (show u=Value.ref b from ry);obtain⟨z,hd,xs,rel,dd⟩:=pV I.hok e;refine wpAny_in_heap (tupleKind_room_in1 hu) (nX I.hok eb) hd dd ?_;have q:=(rel.val k).isSome_eq;rw[Option.isSome_map]at q;rw[<-q,<-l];exact h _ (I.tok _)
theorem DL{Q:Value->Shared->Prop}(hu:A.units+1<cLine)(I:Inv X pins σ H s)(g:DGet H a y o)(ry:bR y u)(h:∀s',Inv X pins σ H s'->Q (.bool (!o.isSome)) s') :
  wpAny (model X.prog X.w) A (compareOp .NotIn u (.ref a)) Q E s:=by
 rcases g with⟨kvs,k,e,ey,l⟩|⟨kvs,k,b,e,ey,eb,l⟩
 ·subst ey;obtain⟨z,hd,vs,rel,dd⟩:=tL I.hok e;refine wpAny_notIn_of (vZ ry) hd dd.mapOf ?_;rw[<-(rel.val k).isSome_eq,<-l];exact h _ (I.tok _)
 ·subst ey;cases (show u=Value.ref b from ry);obtain⟨z,hd,xs,rel,dd⟩:=pV I.hok e;refine wpAny_notIn_heap (tupleKind_room_in1 hu) (nX I.hok eb) hd dd ?_;have q:=(rel.val k).isSome_eq;rw[Option.isSome_map]at q;rw[<-q,<-l];exact h _ (I.tok _)
theorem wQ{h':Heap}{t':Nat}{ob:HO}(I:Inv X pins σ H s)(mu:Mut (H a))(hs:XI a s.heap h')(he:∃q,h'.get? a=some q)(new:bF X.prog X.w (upd H a ob) h' a ob) :
  Inv X pins σ (upd H a ob) { s with heap:=h',toks:=t' }:=
 I.write (x:=a) (e:=a) mu (.inl rfl) (fun b q hb z=>(hs.2 b hb).trans z) he new
theorem GN{P:Program}{w:World}{H':Hp}{h':Heap}{kvs:List (Key×V)}{vs:List (Key×Value)}(z:kvs.length<=sizeLine)(hd:(a == sysModules)=false)(rel:KV kvs vs)(dd:h'.DictOf (bB P w) a vs) :
  bF P w H' h' a (.dK kvs):=⟨z,hd,vs,rel,dd⟩
theorem wR{H':Hp}{Q:Unit->Shared->Prop}(hu:A.units+1<cLine)(I:Inv X pins σ H s)(g:Be H a y v H')(ry:bR y u)(rv:bR v r)(h:∀s',Inv X pins σ H' s'->Q () s') :
  wpAny (model X.prog X.w) A (setItem (.ref a) u r) Q E s:=by
 rcases g with⟨kvs,k,e,ey,l,eH⟩|⟨kvs,k,b,e,ey,eb,l,eH⟩
 ·subst ey eH;obtain⟨z,hd,vs,rel,dd⟩:=DG I.hok e;have hz:vs.length<=sizeLine:=by rw[<-rel.length];exact z
  have hl:(o5 kvs k v).length<=sizeLine:=by have:=jQ kvs k v;omega
  refine wpAny_setItem_pairs (hsz:=hz) (vZ ry) dd fun h' dd' hs=>h _ ?_;have he:∃q,h'.get? a=some q:=let ⟨q,_,_,hq,_⟩:=dd';⟨q,hq⟩
  exact wQ I (by rw[e];exact True.intro) hs he (GN hl hd (rel.put k rv) dd')
 ·subst ey eH;cases (show u=Value.ref b from ry);obtain⟨z,hd,xs,rel,dd⟩:=Jh I.hok e;have hz:xs.length<=sizeLine:=by rw[<-Paired.length rel];exact z
  have hl:(o5 kvs k v).length<=sizeLine:=by have:=jQ kvs k v;omega
  refine wpAny_setItem_heap (hsz:=hz) (tupleKind_room_in1 hu) (nX I.hok eb) dd fun h' dd' hs=>h _ ?_;obtain⟨q,es,ep,hq,h2,h3,h4,_,h5⟩:=dd';refine wQ I (by rw[e];exact True.intro) hs ⟨q,hq⟩ ⟨hl,hd,_,(rel.put k eb rv).keeps fun c ys ec=>?_,q,es,ep,hq,h2,h3,h4,h5⟩;rw[aQ (IQ ec e (fun z=>nomatch z))];exact ec
end
section
variable{kvs:List (Key×V)}
theorem Ji{Q:Value->Shared->Prop}(I:Inv X pins σ H s)(e:Rd H a (.dK kvs))(h:∀t s',Inv X pins σ H s'->Q (.int kvs.length t) s'):wpAny (model X.prog X.w) A (call (.builtin "len") [.ref a]) Q E s:=by
 obtain⟨z,hd,vs,rel,dd⟩:=tL I.hok e;refine call_len_dict hd dd (by rw[<-rel.length];rw[sizeLine_eq]at z;omega) ?_;rw[<-rel.length];exact h _ _ (I.tok _)
end
def D6(i:Expr):Prop:=∀ov iv,subscripted i false ov iv=operate [ov,iv] (getItem ov iv)
theorem uF{prog:Program}{w:World}{A:Around}{E:Value->Shared->Prop}{s:Shared}{env:Env}{value slice:Expr}{pos:Pos}{T id:String}{Q:Value->Shared->Prop}
  (hl:typeLookup (.type T) "__getitem__"=pure (some (.builtin id))) (hs:D6 slice)
  (h:wpAny (model prog w) A (eval value env) (fun o s₁=>wpAny (model prog w) A (eval slice env) (fun i s₂=>s₂.TypeIs o T/\wpAny (model prog w) A (getItem o i) Q E s₂) E s₁) E s) :
  wpAny (model prog w) A (eval (.Subscript value slice pos) env) Q E s:=by
 refine Subscript_ (ZE h (fun o s₁ h₁=>ZE h₁ (fun i s₂ h₂=>?_) fun _ _ x=>x) fun _ _ x=>x);obtain⟨hT,h₂⟩:=h₂;unfold subscriptTail;refine Q0 ?_;rw[getitemInPython_of_ne hT.not_modules];refine Q0 (wpAny_specialOf hT hl ?_);have fin:wpAny (model prog w) A (subscripted slice false o i) (fun r s₃=>wpAny (model prog w) A (letTemporaryGo value o r >>= fun _=>pure r) Q E s₃) E s₂:=by
  rw[hs o i];exact wpAny_operating (ZE h₂ (fun r s₃ h₃=>Q0 (wpAny_letTemporaryGo (Q6 h₃))) fun _ _ x=>x)
 first
  |exact Q6 (Q0 fin)
  |exact Q0 (Q6 (Q0 fin))
  |exact Q0 fin
theorem pW{X:Cx}{pins:List (Addr×Obj)}{σ:St}{H:Hp}{s:Shared}{a:Addr}{y:V}{o:Option V}(I:Inv X pins σ H s)(g:DGet H a y o):s.TypeIs (.ref a) "dict":=by
 rcases g with⟨kvs,k,e,_,_⟩|⟨kvs,k,b,e,_,_,_⟩
 ·obtain⟨_,_,vs,_,dd⟩:=tL I.hok e;exact dd.typeIs
 ·obtain⟨_,_,xs,_,dd⟩:=pV I.hok e;exact dd.typeIs
def EZ(td ty:TE):TE:=fun σ H Q=>td σ H fun x H1=>ty σ H1 fun y H2=>∃a v,x=.ref a/\DGet H2 a y (some v)/\Q v H2
def Hb(ty td:TE):TE:=fun σ H Q=>ty σ H fun y H1=>td σ H1 fun x H2=>∃a o,x=.ref a/\DGet H2 a y o/\Q (.bl o.isSome) H2
def pC(ty td:TE):TE:=fun σ H Q=>ty σ H fun y H1=>td σ H1 fun x H2=>∃a o,x=.ref a/\DGet H2 a y o/\Q (.bl (!o.isSome)) H2
def Fc(td ty tv:TE):TS:=fun D σ H=>tv σ H fun v H1=>td σ H1 fun x H2=>ty σ H2 fun y H3=>∃a H4,x=.ref a/\Be H3 a y v H4/\D.nx σ H4
section
variable{i value:Expr}{pos':Pos}{td ty tv:TE}
theorem CL(hu:X.A.units+1<cLine)(ho:PE X o td)(hi:PE X i ty)(hs:D6 i):PE X (.Subscript o i pos) (EZ td ty):=by
 intro pins s σ H Q I h;refine uF PySem.F.slot_dict_getitem.lookup hs (thn (ho pins s σ H _ I h) fun u s1 ⟨x,H1,I1,rx,q1⟩=>thn (hi pins s1 σ H1 _ I1 q1) fun iv s2 hz=>?_);obtain⟨y,H2,I2,ry,a,v,ex,g,q2⟩:=hz;subst ex;obtain rfl:u=Value.ref a:=rx;exact⟨pW I2 g,wU hu I2 g ry fun w' s3 I3 rw'=>⟨v,H2,I3,rw',q2⟩⟩
theorem FO(hu:X.A.units+1<cLine)(hi:PE X i ty)(ho:PE X o td):PC X .In i o (Hb ty td):=by
 intro pins s σ H Q I h;refine thn (hi pins s σ H _ I h) fun iv s1 ⟨y,H1,I1,ry,q1⟩=>thn (ho pins s1 σ H1 _ I1 q1) fun u s2 hz=>?_;obtain⟨x,H2,I2,rx,a,ov,ex,g,q2⟩:=hz;subst ex;obtain rfl:u=Value.ref a:=rx;exact Ko hu I2 g ry fun s3 I3=>⟨.bl ov.isSome,H2,I3,rfl,q2⟩
theorem vv(hu:X.A.units+1<cLine)(hi:PE X i ty)(ho:PE X o td):PC X .NotIn i o (pC ty td):=by
 intro pins s σ H Q I h;refine thn (hi pins s σ H _ I h) fun iv s1 ⟨y,H1,I1,ry,q1⟩=>thn (ho pins s1 σ H1 _ I1 q1) fun u s2 hz=>?_;obtain⟨x,H2,I2,rx,a,ov,ex,g,q2⟩:=hz;subst ex;obtain rfl:u=Value.ref a:=rx;exact DL hu I2 g ry fun s3 I3=>⟨.bl (!ov.isSome),H2,I3,rfl,q2⟩
theorem CB(hu:X.A.units+1<cLine)(ho:PE X o td)(hi:PE X i ty)(hv:PE X value tv)(hs:swapsWith value (some (.Subscript o i pos')) pos.line X.env=pure false) :
  PS X (.Assign [.Subscript o i pos'] value pos) (Fc td ty tv):=by
 intro pins s σ H D I h;refine wpAny_Assign_Subscript (thn (hv pins s σ H _ I h) fun r s1 ⟨v,H1,I1,rv,q1⟩=>thn (ho pins s1 σ H1 _ I1 q1) fun u s2 ⟨x,H2,I2,rx,q2⟩=>thn (hi pins s2 σ H2 _ I2 q2) fun iv s3 hz=>?_) hs;obtain⟨y,H3,I3,ry,a,H4,ex,g,q3⟩:=hz;subst ex;obtain rfl:u=Value.ref a:=rx;exact wR hu I3 g ry rv fun s4 I4=>⟨σ,H4,I4,q3⟩
end
theorem zN{P:Program}{w:World}{H:Hp}(h:Heap)(hb:sysModules<h.objs.size):bF P w H (h.push { cls:=.type "dict",data:=.dict #[] }) h.objs.size (.dK []):=
 ⟨Qi _,beq_eq_false_iff_ne.mpr (Ne.symm (Qj hb)),[],.nil,Heap.DictOf.new h⟩
theorem zM{P:Program}{w:World}{H:Hp}(h:Heap)(hb:sysModules<h.objs.size):bF P w H (h.push { cls:=.type "dict",data:=.dict #[] }) h.objs.size (.dT []):=
 ⟨Qi _,beq_eq_false_iff_ne.mpr (Ne.symm (Qj hb)),[],.nil,_,#[],0,QU _ rfl,⟨rfl,rfl,rfl⟩,rfl,rfl,List.nodup_nil⟩
def Ap:TE:=fun _ H Q=>∀p,H p=none->Q (.ref p) (upd H p (.dK []))
def Ao:TE:=fun _ H Q=>∀p,H p=none->Q (.ref p) (upd H p (.dT []))
theorem yQ:PE X (.Dict [] [] pos) Ap:=fun pins s σ H Q I h=>
 wpAny_Dict_empty ⟨.ref s.heap.objs.size,_,I.laid (a:=s.heap.objs.size) (o:=.dK []) (t':=s.toks) (fun _ _ q=>Q3 _ q) (QJ _) (zN s.heap I.big),rfl,h _ (I.hok.fresh (QJ _))⟩
theorem yP:PE X (.Dict [] [] pos) Ao:=fun pins s σ H Q I h=>
 wpAny_Dict_empty ⟨.ref s.heap.objs.size,_,I.laid (a:=s.heap.objs.size) (o:=.dT []) (t':=s.toks) (fun _ _ q=>Q3 _ q) (QJ _) (zM s.heap I.big),rfl,h _ (I.hok.fresh (QJ _))⟩
end L2
namespace Att
open PySem PySem.W PySem.Calls PyProof.Rows
theorem jT{P:Params}{h:Heap}:∀(ns:List Int) (vs:List Value),WellAll P h vs (ns.map WData.int)->IntsAre vs ns:=by
 intro ns;induction ns with
 |nil=>
  intro vs w;rw[XU]at w;cases w;exact .nil
 |cons n ns ih=>
  intro vs w;rw[Qx]at w;cases w with
  |cons a b=>
   cases a;exact .cons _ _ (ih _ b)
theorem uM{l:OpenLaw}{n:Nat}(hn:l.most=some n){P:Params}{h:Heap}{args:List WData}{vals:List Value}
  (hpre:l.row.toRowW.claim.pre args=true) (hwl:WellAll P h vals args) :
  ∃a vs ns,vals=[Value.ref a]/\args=[WData.list (ns.map WData.int)]/\h.get? a=some { cls:=.type "list",data:=.seq vs.toArray }/\IntsAre vs ns/\ns.length<=n:=by
 have hsh:WShape.hasAll [] args [.list .int]=true:=(pre_splitW hpre).1;have hc:l.pre.holds [] { args:=args }=true:=(pre_splitW hpre).2;obtain⟨d,r,rfl,h1,h2⟩:=hasAllW_cons hsh;obtain rfl:=hasAllW_nil h2;obtain⟨xs,rfl,h3⟩:=hasW_list h1;obtain⟨ns,rfl⟩:=items_int h3;have hlen:ns.length<=n:=by
  unfold OpenLaw.pre at hc;have h4:(WTm.not (.lt (.lit (.int (n:Int))) (.len (.arg 0)))).holds [] { args:=[.list (ns.map .int)] }=true:=by
   have h4:=(holds_andW hc).1;rw[hn]at h4;exact h4
  have h5:=condW_of h4 (w_not (w_lt w_lit (w_len_list (w_arg rfl))));rw[QX]at h5;refine Nat.le_of_not_lt fun q=>?_;have q':(n:Int)<((ns.length:Nat):Int):=by omega
  first
   |(rw[decide_eq_true q']at h5;exact absurd h5 (by decide))
   |(simp at h5;omega)
 cases hwl with
 |cons w1 w2=>
  cases w2;cases w1 with
  |list ho hall=>exact⟨_,_,ns,rfl,rfl,ho,jT ns _ hall,hlen⟩
theorem vj(l:OpenLaw)(args:List WData):l.row.toRowW.claim.post args (.bool true) args=true:=
 postW_of (r:=l.row.toRowW) (X:=(true == true))
  (show WShape.has [] (.bool true) .bool=true by first|rfl|decide|simp[WShape.has,WShape.arms,WShape.armsAll])
  (show(WTm.eq .res (.lit (.bool true))).value [] { args:=args,res:=some (.bool true),after:=args }=some (.bool (true == true))from w_eq_bool (w_res rfl) w_lit) rfl
theorem attach_call{l:OpenLaw}{n:Nat}{q:Program}{loose:List Str}{XP:(Str->Option Value)->Heap->Prop}{YP:World->Heap->Prop}{d:DefRec}
  (hn:l.most=some n) (hdf:d.params.defaults=[])
  (call:∀(w:World) (s₀ s₁:Shared) (mg mb:Str->Option Value) (fa:Addr) (o:Obj) (pm cd doc:Value) (a:Addr) (vs:List Value) (ns:List Int),
   Ground q loose [] XP w s₀ mg mb s₁.heap->YP w s₁.heap->
   s₁.heap.get? fa=some o->o.data=.func (docDef d.name d.params d.body d.scope pm cd doc)->s₁.heap.CodeRec cd d.name->mg d.name=some (.ref fa)->
   s₁.heap.get? a=some { cls:=.type "list",data:=.seq vs.toArray }->IntsAre vs ns->ns.length<=n->s₁.gens=#[]->
   codeAny (model l.prog w) callerA (.call (.ref fa) ⟨[.ref a],[]⟩) (fun r s'=>r=.ok (.ret (.bool true))/\OldK s₁.heap s'.heap/\s'.os=s₁.os/\AllBare s'.gens) s₁) :
  WalkO q loose XP YP l.row.toRowW d [] (fun f vs=>PySem.call f vs):=by
 intro w s₀ s₁ mg mb G Y fa o pm cd doc dV kV ho hd hcd hD hmg hg args vals as hpre hlay hrd hwl hlo;obtain rfl:dV=.none:=Dflts.none hD hdf;obtain rfl:kV=.none:=Dflts.noKw hD;obtain⟨a,vs,ns,rfl,rfl,hobj,hints,hlen⟩:=uM hn hpre hwl;refine enter_call (codeAny_mono (call w s₀ s₁ mg mb fa o pm cd doc a vs ns G Y ho (fd_plain hd) hcd hmg hobj hints hlen hg) fun r s' hq=>?_);obtain⟨rfl,h2,h3,h4⟩:=hq;exact⟨.inl ⟨.bool true,.bool true,[],rfl,fun _=>rfl,.bool true,vj l _,fun _=>⟨List.Pairwise.nil,fun _ hm=>(nomatch hm)⟩⟩,h2,h3,h4⟩
end Att
namespace L2
open PySem PySem.Spec PyProof.Rows
theorem eR:∀{vs:List Value} {ns:List Int},IntsAre vs ns->aX (ns.map V.int) vs
 |_,_,.nil=>.nil
 |_,_,.cons n t h=>.cons ⟨t,rfl⟩ (eR h)
def Hl(H:Hp):Prop:=∀b,H b=none\/∃o xs,H b=some (.frz o (.lst xs))
theorem zo{P:Program}{w:World}{K:Q5}{mg mb:Str->Option Value}{CX:CXT}{k:Nat}{fa a:Addr}{fd:FuncData}{x:Str}{sp:Sp}{s₁:Shared}{vs:List Value}{ns:List Int}
  (KX:K.In s₁.heap) (hns:s₁.heap.Ns mainGlobals mg) (hb:s₁.heap.Ns builtinsNs mb) (hbb:∀x:Str,x≠"__name__"->mb x=bootBuiltins x) (hlim:s₁.heap.NoLimit) (hg:s₁.gens=#[])
  (ha:s₁.heap.get? a=some { cls:=.type "list",data:=.seq vs.toArray }) (hi:IntsAre vs ns) (hl:ns.length<=sizeLine) (hr:ko k callerA)
  (F:∀base:Heap,K.In base->base.Ns mainGlobals mg->o8 P w K mg base CX k fa fd [x] sp) (hbind:∀(s:Shared) (u:Value),BindsTo s fd ⟨[u],[]⟩ [(x,u)])
  (hsp:∀H:Hp,Hl H->SqL K H a (ns.map V.int)->sp [.ref a] H (fun v _=>v=.bl true) fun _ _ _=>False)
  (hCX:∀H e s',CX [] H s₁ (fun _ _ _=>False) e s'->False) :
  codeAny (model P w) callerA (.call (.ref fa) ⟨[.ref a],[]⟩) (fun r s'=>r=.ok (.ret (.bool true))/\OldK s₁.heap s'.heap/\s'.os=s₁.os/\AllBare s'.gens) s₁:=by
 have rv:=eR hi;have lenV:=hi.length;have core:∀H:Hp,Hl H->SqL K H a (ns.map V.int)->HOk P w H s₁.heap->(∀b,H b≠none->b=a)->(H a≠none->K.lookup a=none)->
   codeAny (model P w) callerA (.call (.ref fa) ⟨[.ref a],[]⟩) (fun r s'=>r=.ok (.ret (.bool true))/\OldK s₁.heap s'.heap/\s'.os=s₁.os/\AllBare s'.gens) s₁:=by
  intro H hO hS hok hA hK;have base_of:∀{b:Addr} {o:Obj},s₁.heap.get? b=some o->H b=none->(zE s₁.heap H).get? b=some o:=fun e n=>zD e n;have noA:∀{b:Addr} {o:Obj} {es:Array DictEntry} {ep:Nat},s₁.heap.get? b=some o->o.data=.dict es ep->H b=none:=fun{b o es ep} e d=>by
   cases q:H b with
   |none=>rfl
   |some u=>
    have e':b=a:=hA b (by rw[q];simp);subst e';rw[ha]at e;cases e;have d':Data.seq vs.toArray _=Data.dict es ep:=d;cases d'
  have nsK:∀{b:Addr} {m:Str->Option Value},s₁.heap.Ns b m->(zE s₁.heap H).Ns b m:=fun{b m} ⟨o,es,ep,e,d,r⟩=>⟨o,es,ep,base_of e (noA e d),d,r⟩;have hKb:K.In (zE s₁.heap H):=fun b o e=>base_of (KX b o e) (by
   cases q:H b with
   |none=>rfl
   |some u=>
    have e':b=a:=hA b (by rw[q];simp);subst e';rw[hK (by rw[q];simp)]at e;cases e)
  have hM:Mod K mg (zE s₁.heap H):=⟨hKb,nsK hns,⟨mb,nsK hb,hbb⟩,let ⟨mc,h1,h2⟩:=hlim;⟨mc,nsK h1,h2⟩⟩;have e0:Hm P w K mg (zE s₁.heap H) callerA [] s₁ H:=⟨rfl,hM,fun b o e=>C5 e,Nat.le_of_eq (wo _ _),trivial,fun b hb=>absurd (show b∈([]:List Addr)from hb) (by simp),hok,.of_eq hg⟩;refine codeAny_mono ((F _ hKb (nsK hns)).run callerA [] s₁ H ⟨[.ref a],[]⟩ [.ref a] [.ref a] _ _ hr e0 (hbind s₁ (.ref a)) (.cons rfl .nil) (hsp H hO hS)) fun r s' h=>?_;cases r with
  |error e=>exact(hCX H e s' h).elim
  |ok fl=>
   cases fl with
   |next=>exact False.elim h
   |brk=>exact False.elim h
   |cont=>exact False.elim h
   |ret u=>
    obtain⟨v,H',os,bare,un,hok',r',q⟩:=h;have q':v=.bl true:=q;subst q';obtain rfl:u=Value.bool true:=r';refine⟨rfl,OldK.of_keep fun b o e=>?_,os,bare⟩;cases q:H b with
    |none=>exact un.keep b o e q (by intro z;exact absurd (show b∈([]:List Addr)from z) (by simp)) (by simp)
    |some u=>
     rcases hO b with z|⟨ob,xs,z⟩
     ·rw[q]at z;cases z
     ·have z2:=un.frzs b ob _ z;obtain⟨e1,_⟩:=hok b _ z;obtain⟨e2,_⟩:=hok' b _ z2;rw[e]at e1;cases e1;exact e2
 cases hk:K.lookup a with
 |some o=>
  have e:=KX a o hk;rw[ha]at e;cases e;refine core (fun _=>none) (fun _=>.inl rfl) (.inr ⟨_,vs.toArray,_,hk,rfl,rfl,rfl,by rw[QM,lenV];exact hl,by simpa using rv⟩) (fun b u z=>by have z':(none:Option HO)=some u:=z;cases z') (fun b z=>absurd rfl z) fun z=>absurd rfl z
 |none=>
  refine core (fun b=>if b=a then some (.frz { cls:=.type "list",data:=.seq vs.toArray } (.lst (ns.map V.int)))else none) (fun b=>?_) (.inl (.inr ⟨{ cls:=.type "list",data:=.seq vs.toArray },if_pos rfl⟩)) (fun b u z=>?_) (fun b z=>?_) fun _=>hk
  ·by_cases hb:b=a
   ·exact .inr ⟨_,_,if_pos hb⟩
   ·exact .inl (if_neg hb)
  ·by_cases hb:b=a
   ·have z':=(if_pos hb).symm.trans z;cases z';subst hb;exact⟨ha,by rw[QX];exact hl,vs,_,rv,ha⟩
   ·have z':=(if_neg hb).symm.trans z;cases z'
  ·by_cases hb:b=a
   ·exact hb
   ·exact absurd (if_neg hb) z
theorem BX{l:PySem.W.OpenLaw}{n k:Nat}{q:Program}{loose:List Str}{XP:(Str->Option Value)->Heap->Prop}{YP:World->Heap->Prop}{d:DefRec}{K:Params->Q5}{CX:World->CXT}{sp:World->Sp}{x:Str}
  (hn:l.most=some n) (hn2:n<=sizeLine) (hdf:d.params.defaults=[]) (hr:ko k callerA)
  (hY:∀(w:World) (h:Heap),YP w h->(K w.params).In h)
  (F:∀(w:World) (mg:Str->Option Value) (fa:Addr) (h:Heap),(K w.params).In h->h.Ns mainGlobals mg->mg d.name=some (.ref fa)->
   ∃fd:FuncData,(∀(s:Shared) (u:Value),BindsTo s fd ⟨[u],[]⟩ [(x,u)])/\
    ∀base:Heap,(K w.params).In base->base.Ns mainGlobals mg->o8 l.prog w (K w.params) mg base (CX w) k fa fd [x] (sp w))
  (hsp:∀(w:World) (H:Hp) (a:Addr) (ns:List Int),ns.length<=n->Hl H->SqL (K w.params) H a (ns.map V.int)->sp w [.ref a] H (fun v _=>v=.bl true) fun _ _ _=>False)
  (hCX:∀(w:World) (H:Hp) (s:Shared) (e:Value) (s':Shared),CX w [] H s (fun _ _ _=>False) e s'->False) :
  PySem.W.WalkO q loose XP YP l.row.toRowW d [] (fun f vs=>PySem.call f vs):=by
 refine Att.attach_call hn hdf fun w s₀ s₁ mg mb fa o pm cd doc a vs ns G Y ho hd hcd hmg hobj hints hlen hg=>?_;have KX:=hY w _ Y;obtain⟨fd,hb,hF⟩:=F w mg fa _ KX G.T.g hmg;exact zo KX G.T.g G.T.b G.T.builtins G.T.nolimit hg hobj hints (Qu hlen hn2) hr hF hb (fun H hO hS=>hsp w H a ns hlen hO hS) fun H e s'=>hCX w H s₁ e s'
def gD(s:Stmt):Arguments:=match s with
 |.FunctionDef _ a _ _ _ _ _ _ _ _=>a
 |_=>{ posonlyargs:=[],args:=[],vararg:=none,kwonlyargs:=[],kw_defaults:=[],kwarg:=none,defaults:=[] }
def dq(s:Stmt):List Stmt:=match s with
 |.FunctionDef _ _ b _ _ _ _ _ _ _=>b
 |_=>[]
def aF(s:Stmt):Scope:=match s with
 |.FunctionDef _ _ _ _ _ _ sc _ _ _=>sc
 |_=>{ kind:=.function,names:=[],isGenerator:=false,isCoroutine:=false }
abbrev CX0:CXT:=fun _ _ _ _ _ _=>False
abbrev E0:XK:=fun _ _ _=>False
theorem ID{X:Cx}:xD CX0 X E0:=fun _ _ _ _ _ _ _ h=>h.elim
structure Fun(K:Q5)(x qual:Str)(st:Stmt)(f:Addr)(fd:FuncData):Prop where
 ex:∃(oc:Value) (od:Option Addr) (kV doc pm:Value) (an:Option Addr) (cdv ct:Value) (osl:Array (Option Value)),
  fd=PySem.W.fnOf x qual (gD st) (dq st) (aF st) .none kV doc pm an cdv ct/\K.lookup f=some ⟨oc,od,.func fd,osl⟩/\PySem.W.codeIn K cdv qual=true
 kp:PySem.W.keepIn K (.ref f)=true
section
variable{P:Program}{w:World}{K:Q5}{mg:Str->Option Value}{base:Heap}
theorem Fun.ok{x qual:Str}{st:Stmt}{f:Addr}{fd:FuncData}{N ps:List Str}{k:Nat}{sp:Sp}(F:Fun K x qual st f fd)(S:br N ps (aF st))(len:∀vs H Q E,sp vs H Q E->vs.length=ps.length)
  (hbody:∀(cdv:Value) (A:Around) (outer:List Env) (s:Shared) (H:Hp) (vs:List V) (Q:VK) (E:XK),ko k (A.deeper (envOfC qual (aF st) s.heap.objs.size f cdv))->sp vs H Q E->
   ∃t,PSs (xH CX0 P w K mg base N qual (aF st) f cdv A outer s H E).nox (dq st) t/\t { nx:=fun _ H'=>Q .non H',rt:=Q } (start N vs) H):o8 P w K mg base CX0 (k+1) f fd ps sp:=by
 obtain⟨oc,od,kV,doc,pm,an,cdv,ct,osl,rfl,lk,hcd⟩:=F.ex;refine Je lk hcd S len fun A outer s H vs Q E hr hsp=>?_;obtain⟨t,h,q⟩:=hbody cdv A outer s H vs Q E hr hsp;exact⟨t,h.nox,q⟩
theorem Fun.binds{x qual:Str}{st:Stmt}{f:Addr}{fd:FuncData}{ps:List Str}(F:Fun K x qual st f fd)
  (h:∀(kV doc pm:Value) (an:Option Addr) (cdv ct:Value) (us:List Value),us.length=ps.length->bindArgs (PySem.W.fnOf x qual (gD st) (dq st) (aF st) .none kV doc pm an cdv ct) ⟨us,[]⟩=pure (ps.zip us)):qm K fd ps []:=by
 obtain⟨oc,od,kV,doc,pm,an,cdv,ct,osl,rfl,lk,hcd⟩:=F.ex;exact .all (h kV doc pm an cdv ct)
theorem GD{x qual:Str}{st:Stmt}{f:Addr}{oc:Value}{od an:Option Addr}{osl:Array (Option Value)}{kV doc pm cdv ct:Value}(l:K.lookup f=some ⟨oc,od,.func (PySem.W.fnOf x qual (gD st) (dq st) (aF st) .none kV doc pm an cdv ct),osl⟩)
  (c:PySem.W.codeIn K cdv qual=true) (k:PySem.W.keepIn K (.ref f)=true):Fun K x qual st f (PySem.W.fnOf x qual (gD st) (dq st) (aF st) .none kV doc pm an cdv ct):=⟨⟨oc,od,kV,doc,pm,an,cdv,ct,osl,rfl,l,c⟩,k⟩
end
theorem iE{A:Around}{k:Nat}(hr:ko k A):A.units+1<cLine:=Nat.lt_of_le_of_lt (Nat.add_le_add_left (by decide:1<=64) _) hr.units
theorem uG{n:Nat}(h:n<=1000):n<sizeLine:=Nat.lt_of_le_of_lt h (by decide)
section
variable{X:Cx}
theorem pv(i:Nat){x:Str}{pos:Pos}(hN:X.N[i]?=some x:=by rfl)(hv:Vis X.env.scope x:=by first|exact Or.inl rfl|exact Or.inr (Or.inl rfl)|exact Or.inr (Or.inr rfl))(hd:(x == ("__debug__":Str))=false:=by decide)
  (hcd:(x == ("__classdict__":Str))=false:=by decide):PE X (.Name x pos) (Ha i):=FD hN hv hd hcd
theorem w9:bX X (.builtin "len") (fun xs H Q=>∃a kvs,xs=[V.ref a]/\H a=some (.dK kvs)/\Q (.int kvs.length) H):=by
 intro pins s σ H xs us Q I r h;obtain⟨a,kvs,rfl,ha,q⟩:=h;obtain⟨u,rfl,ru⟩:=eS r;cases ru;exact Ji I (.inl ha) fun t s' I'=>⟨.int kvs.length,H,I',⟨t,rfl⟩,q⟩
end
theorem Gs{A B:Prop}(h:B):if false=true then A else B:=by
 rw[if_neg Qq];exact h
theorem Gr{A B:Prop}(h:A):if true=true then A else B:=by
 rw[if_pos rfl];exact h
def si(H H':Hp):Prop:=∀b o,H b=some o->H' b=some o
theorem si.refl(H:Hp):si H H:=fun _ _ h=>h
end L2
namespace OG
open PySem PySem.Spec PyProof.Rows L2
structure WE(X:Cx)(e:Expr)(t:TE):Prop where
 h:PE X e t
structure WT(X:Cx)(e:Expr)(t:TT):Prop where
 h:PT X e t
structure WW(X:Cx)(e:Expr)(t:TT):Prop where
 h:PW X e t
structure WA(X:Cx)(es:List Expr)(t:TA):Prop where
 h:PA X es t
structure WS(X:Cx)(st:Stmt)(t:TS):Prop where
 h:PS X st t
structure WSs(X:Cx)(st:List Stmt)(t:TS):Prop where
 h:PSs X st t
structure WI(X:Cx)(tg iter:Expr)(wi:TI):Prop where
 h:PI X tg iter wi
structure WG(X:Cx)(target:Expr)(t:TG):Prop where
 h:PG X target t
structure WGs(X:Cx)(ts:List Expr)(t:TGs):Prop where
 h:PGs X ts t
structure WC(X:Cx)(op:CmpOp)(a b:Expr)(t:TE):Prop where
 h:PC X op a b t
structure WO(X:Cx)(e:Option Expr)(t:TO):Prop where
 h:PO X e t
variable{X:Cx}
theorem ak{i j pos}:WE X (.Constant (.int i) j pos) (tC (.int i)):=⟨FJ ⟩
theorem i8{b j pos}:WE X (.Constant (.bool b) j pos) (tC (.bl b)):=⟨IC ⟩
theorem fX{x j pos}:WE X (.Constant (.str x) j pos) (tC (.str x)):=⟨FF ⟩
variable{a b:Expr}{pos:Pos}
theorem BS{op:CmpOp}{t:TE}(h:WC X op a b t)(h1:behindInMarks op b=false:=by first|exact nobehind _ (by decide) (by decide)|rfl):WE X (.Compare a [op] [b] pos) t:=⟨FK h.h h1⟩
theorem uf{op:CmpOp}{t:TE}(h:WC X op a b t)(h1:behindInMarks op b=false:=by first|exact nobehind _ (by decide) (by decide)|rfl):WT X (.Compare a [op] [b] pos) (tB t):=⟨Ft h.h h1⟩
theorem BG{e:Expr}{t:TE}(h:WE X e t)(he:∀whole,isTrue e X.env whole=(do let v <-whole;standAt e.pos;holding [v] (truthy v)):=by intro _;rfl):WT X e (tB t):=⟨Fq h.h he⟩
variable{tA:TT}
theorem xU(ha:WT X a tA):WW X (.BoolOp .And [a] pos) tA:=⟨Cu ha.h⟩
theorem BE(ha:WT X a tA):WW X (.BoolOp .Or [a] pos) tA:=⟨Fm ha.h⟩
variable{rest:List Expr}
section
variable{tB':TT}
theorem BF(ha:WT X a tA)(hb:WW X (.BoolOp .And (b::rest) pos) tB'):WW X (.BoolOp .And (a::b::rest) pos) (JD tA tB'):=⟨Fo ha.h hb.h⟩
theorem EH(ha:WT X a tA)(hb:WW X (.BoolOp .Or (b::rest) pos) tB'):WW X (.BoolOp .Or (a::b::rest) pos) (tOr tA tB'):=⟨Iq ha.h hb.h⟩
end
theorem BH(ha:WT X a tA):WT X (.UnaryOp .Not a pos) (Jy tA):=⟨Fs ha.h⟩
theorem BP{op}{t:TE}(h:WE X a t):WE X (.BoolOp op [a] pos) t:=⟨FG h.h⟩
variable{ta tb:TE}
theorem BV(ha:WE X a ta)(hb:WE X (.BoolOp .And (b::rest) pos) tb):WE X (.BoolOp .And (a::b::rest) pos) (E4 ta tb):=⟨FN ha.h hb.h⟩
theorem BQ(ha:WE X a ta):WE X (.UnaryOp .Not a pos) (EV ta):=⟨FH ha.h⟩
theorem xW :WSs X [] EW:=⟨Cy ⟩
variable{st:Stmt}{t u:TS}
section
variable{rest:List Stmt}
theorem ug(h1:WS X st t)(h2:WSs X rest u):WSs X (st::rest) (Jw t u):=⟨yH h1.h h2.h⟩
end
theorem xV(h1:WS X st t):WSs X [st] t:=⟨Cw h1.h⟩
variable{e:Expr}{te:TE}
theorem xX(he:WE X e te)(hs:swapsWith e none pos.line X.env=pure false:=by rfl):WS X (.Expr e pos) (EX te):=⟨Cz he.h hs⟩
theorem BJ(he:WE X e te):WS X (.Return (some e) pos) (Jx te):=⟨Fv he.h⟩
theorem EI{c:Expr}{a b:List Stmt}{tc:TT}(hc:WT X c tc)(ha:WSs X a t)(hb:WSs X b u):WS X (.If c a b pos) (JB tc t u):=⟨Ir hc.h ha.h hb.h⟩
theorem aA{i:Nat}{x:Str}(hN:X.N.Nodup)(hi:X.N[i]?=some x)(hx:Loc X.env.scope x)(hf:X.fn x=true\/X.env.scope.names.lookup x=some .local:=by first|exact .inl rfl|exact .inr rfl|assumption):WG X (.Name x pos) (tF i):=⟨CK hN hi hx hf⟩
theorem x5 :WGs X [] JU:=⟨CJ ⟩
theorem uj{e:Expr}{es:List Expr}{t:TG}{u:TGs}(h1:WG X e t)(h2:WGs X es u)(hs:(assignEach (e::es) X.env).map (·.2)=assign e X.env::(assignEach es X.env).map (·.2):=by rfl):WGs X (e::es) (GC t u):=⟨yM h1.h h2.h hs⟩
theorem BM{es:List Expr}{k:Nat}{t:TGs}{n:Nat}(hc:X.calm=true)(h:WGs X es t)(hn:(assignEach es X.env).length=n:=by rfl)(hst:(assignEach es X.env).findIdx? (·.1)=none:=by rfl):WG X (.Tuple es k pos) (JS X.K n t):=⟨FA hc h.h hn hst⟩
theorem BN {o i : Expr} {to ti : TE} {t : Hk} (ho : WE X o to) (hi : WE X i ti) (hs : Js X t) (ha : ∀ v, assign (.Subscript o i pos) X.env v = (do
   let ov <-holding [v] (eval o X.env)
   let iv <-holding [v,ov] (eval i X.env)
   standAt pos
   holding [v,ov,iv] (setItem ov iv v)
   release [v,ov,iv] []):=by intro _;rfl):WG X (.Subscript o i pos) (JT to ti t):=⟨FC ho.h hi.h hs ha⟩
theorem ui{tg e:Expr}{te:TE}{g:TG}(he:WE X e te)(hg:WG X tg g)(hs:swapsWithSole [tg] e pos.line X.env=pure false:=by rfl)(hw:swappedStores [tg] e X.env=pure none:=by rfl)(h1:(assignEach [tg] X.env).map (·.2)=[assign tg X.env]:=by rfl):WS X (.Assign [tg] e pos) (E3 te g):=⟨Fy he.h hg.h hs hw h1⟩
theorem BI{i:Nat}{x:Str}{e:Expr}{te:TE}{pos':Pos}(hN:X.N.Nodup)(hi:X.N[i]?=some x)(hx:Loc X.env.scope x)(he:WE X e te)(hs:swapsWith e (some (.Name x pos')) pos.line X.env=pure false:=by rfl)(hf:X.fn x=true\/X.env.scope.names.lookup x=some .local:=by first|exact .inl rfl|exact .inr rfl|assumption):WS X (.Assign [.Name x pos'] e pos) (E3 te (tF i)):=⟨Fu hN hi hx he.h hs hf⟩
theorem uh{c:Expr}{body:List Stmt}{tc:TT}{tb:TS}(hp:PassesOwn (model X.prog X.w) X.A X.env X.xe)(hc:WT X c tc)(hb:WSs X body tb):WS X (.While c body [] pos) (uD tc tb):=⟨yI hp hc.h hb.h⟩
section
variable{tg:Expr}
theorem x4{l:Expr}{tl:TE}(hl:WE X l tl):WI X tg l (GA X.K tl):=⟨CH hl.h⟩
theorem BL{l:Expr}{tl:TE}(hl:WE X l tl):WI X tg l (JR X.K tl):=⟨Fz hl.h⟩
theorem sC{a:Expr}{ta:TA}{p pos:Pos}(hg:Gl X "range")(hm:X.mg "range"=none)(ha:WA X [a] ta)(hs:starEach [a] X.env=[(false,eval a X.env)]:=by rfl):WI X tg (.Call (.Name "range" p) [a] [] pos) (Gz ta):=⟨vo hg hm ha.h hs⟩
theorem BK{iter:Expr}{body:List Stmt}{wi:TI}{g:TG}{tb:TS}{pos:Pos}(hp:PassesOwn (model X.prog X.w) X.A X.env X.xe)(hc:X.calm=true)(hi:WI X tg iter wi)(hg:WG X tg g)(hb:WSs X body tb)(hs:∀x,foldedSetIterable iter X.env x=pure x:=by intro _;rfl):WS X (.For tg iter body [] pos) (HY wi g tb):=⟨Fx hp hc hi.h hg.h hb.h hs⟩
end
theorem EK{op:Operator}{r:R2}(ho:OpR X (binaryOp op) r)(ha:WE X a ta)(hb:WE X b tb):WE X (.BinOp a op b pos) (tOp r ta tb):=⟨Iy ho ha.h hb.h⟩
theorem EJ{op:UnaryOp}{r:V->Hp->VK->Prop}(ho:UnR X (unaryOp op) r)(ha:WE X a ta):WE X (.UnaryOp op a pos) (tUn r ta):=⟨Iw ho ha.h⟩
theorem qu{op:CmpOp}{r:R2}(ho:OpR X (compareOp op) r)(ha:WE X a ta)(hb:WE X b tb)(hm:behindInMarks op b=false):WE X (.Compare a [op] [b] pos) (tOp r ta tb):=⟨CM ho ha.h hb.h hm⟩
theorem lL{op:CmpOp}{r:R2}(ho:OpR X (compareOp op) r)(ha:WE X a ta)(hb:WE X b tb)(hm:behindInMarks op b=false):WT X (.Compare a [op] [b] pos) (ET (tOp r ta tb)):=⟨Cv ho ha.h hb.h hm⟩
theorem eQ :WA X [] Jz:=⟨FP ⟩
variable{es:List Expr}
section
variable{t:TA}
theorem cK(ha:WE X e te)(hr:WA X es t)(hs:starEach (e::es) X.env=(false,eval e X.env)::starEach es X.env:=by rfl):WA X (e::es) (E1 te t):=⟨CQ ha.h hr.h hs⟩
theorem uk{x1}(h:WA X es t):WE X (.Tuple es x1 pos) (Jv t):=⟨FE h.h⟩
theorem BR(h:WA X es t):WE X (.List es pos) (JA t):=⟨FI h.h⟩
end
variable{x:Str}{p:Pos}{r:List V->Hp->VK->Prop}
section
variable{t:TA}{id:String}
theorem gK(hc:bX X (.builtin id) r)(hg:Gl X x)(hm:X.mg x=none)(hv:bootBuiltins x=some (.builtin id))(ha:WA X (e::es) t)(hn:x≠"__name__":=by decide)(hdb:(x == ("__debug__":Str))=false:=by decide)(he:starEach (e::es) X.env=(false,eval e X.env)::starEach es X.env:=by rfl)(hpl:(backTo pos (starEach es X.env)).any (·.1)=false:=by rfl):WE X (.Call (.Name x p) (e::es) [] pos) (tCB r t):=⟨yR hc hg hm hv ha.h hn hdb he hpl⟩
end
variable{T:String}
section
variable{t:TA}
theorem iM(hc:bX X (.type T) r)(hg:Gl X x)(hm:X.mg x=none)(hv:bootBuiltins x=some (.type T))(ha:WA X (e::es) t)(hn:x≠"__name__":=by decide)(hdb:(x == ("__debug__":Str))=false:=by decide)(he:starEach (e::es) X.env=(false,eval e X.env)::starEach es X.env:=by rfl)(hpl:(backTo pos (starEach es X.env)).any (·.1)=false:=by rfl):WE X (.Call (.Name x p) (e::es) [] pos) (tCB r t):=⟨vt hc hg hm hv ha.h hn hdb he hpl⟩
end
theorem xZ :WO X none uE:=⟨CF ⟩
theorem xY(h:WE X e te):WO X (some e) (EU te):=⟨CD h.h⟩
section
variable{lo hi:Option Expr}{tl th:TO}{p2:Pos}
theorem nk{r:V->Option Int->Option Int->Hp->VK->Prop}(hr:SlR X r)(he:WE X e te)(hl:WO X lo tl)(hu:WO X hi th):WE X (.Subscript e (.Slice lo hi none p2) pos) (tSl r te tl th):=⟨yO hr he.h hl.h hu.h⟩
end
theorem EL{r:R2}(hr:IxR X r)(ha:WE X a ta)(hb:WE X b tb)(hs:qg b):WE X (.Subscript a b pos) (tOp r ta tb):=⟨IA hr ha.h hb.h hs⟩
variable{o:Expr}{to:TE}{name:Str}{apos cpos:Pos}
section
variable{id:String}{r:V->List V->Hp->VK->Prop}
theorem BU(pa:PlainAttrs T)(slot:Slot T name id)(hty:typeOf (.builtin id)=pure (.type "method_descriptor"))(hm:MtR X id r)(ho:WE X o to)(hbase:attributeBase o name X.env (eval o X.env)=eval o X.env:=by rfl)(hline:(apos.endLine == cpos.line)=true:=by rfl):WE X (.Call (.Attribute o name apos) [] [] cpos) (JC X.K T r to):=⟨FL pa slot hty hm ho.h hbase hline⟩
end
section
variable{t:TA}{id:String}{r:V->List V->Hp->VK->Prop}
theorem qv (pa : PlainAttrs T) (slot : Slot T name id) (hty : typeOf (.builtin id) = pure (.type "method_descriptor")) (hm : MtR X id r) (ho : WE X o to) (ha : WA X (e :: es) t) (hbase : attributeBase o name X.env (eval o X.env) = eval o X.env := by rfl) (hfew : ((backTo cpos (starEach (e :: es) X.env)).all (fun x => !x.1) && (backToKw cpos (keywordEach [] X.env)).all (fun x => x.1.isSome)
   && decide ((e::es).length+([]:List Keyword).length+(if ([]:List Keyword).isEmpty then 0 else 1)<30))=true:=by rfl) (hline:(apos.endLine == cpos.line)=true:=by rfl) (hs:starEach (e::es) X.env=(false,eval e X.env)::starEach es X.env:=by rfl) (hplain:(backTo cpos (starEach es X.env)).any (·.1)=false:=by rfl):WE X (.Call (.Attribute o name apos) (e::es) [] cpos) (tBM X.K T r to t):=⟨IB pa slot hty hm ho.h ha.h hbase hfew hline hs hplain⟩
end
variable{i:Expr}{td ty:TE}
theorem x6(hu:X.A.units+1<cLine)(ho:WE X o td)(hi:WE X i ty)(hs:D6 i):WE X (.Subscript o i pos) (EZ td ty):=⟨CL hu ho.h hi.h hs⟩
theorem ur(hu:X.A.units+1<cLine)(hi:WE X i ty)(ho:WE X o td):WC X .In i o (Hb ty td):=⟨FO hu hi.h ho.h⟩
theorem sE(hu:X.A.units+1<cLine)(hi:WE X i ty)(ho:WE X o td):WC X .NotIn i o (pC ty td):=⟨vv hu hi.h ho.h⟩
section
variable{value:Expr}{pos':Pos}{tv:TE}
theorem qq(hu:X.A.units+1<cLine)(ho:WE X o td)(hi:WE X i ty)(hv:WE X value tv)(hs:swapsWith value (some (.Subscript o i pos')) pos.line X.env=pure false):WS X (.Assign [.Subscript o i pos'] value pos) (Fc td ty tv):=⟨CB hu ho.h hi.h hv.h hs⟩
end
theorem uo :WE X (.Dict [] [] pos) Ap:=⟨yQ ⟩
theorem um :WE X (.Dict [] [] pos) Ao:=⟨yP ⟩
theorem wpv(i:Nat){x:Str}{pos:Pos}(hN:X.N[i]?=some x:=by rfl)(hv:Vis X.env.scope x:=by first|exact Or.inl rfl|exact Or.inr (Or.inl rfl)|exact Or.inr (Or.inr rfl))(hd:(x == ("__debug__":Str))=false:=by decide)(hcd:(x == ("__classdict__":Str))=false:=by decide):WE X (.Name x pos) (Ha i):=⟨pv i hN hv hd hcd⟩
theorem WW.pt{X:Cx}{e:Expr}{t:TT}(h:WW X e t):WT X e t:=⟨h.h.pt⟩
def tQ(i j:Int):Prop:=0<j/\j.natAbs.log2<9000
theorem qY:OpR X (binaryOp .FloorDiv) (rI tQ fun i j=>.int (i / j)):=opI fun i j _ _ _ _ _ hc q=>by
 refine PyProof.Rows.floordiv_int (by have:=hc.1;omega) ?_ (.inl (PyProof.noPylong_of_log2 hc.2));rw[Int.fdiv_eq_ediv_of_nonneg i (Int.le_of_lt hc.1)];exact q
theorem p6:bX X (.builtin "isinstance") (fun xs H Q=>∃(x:V) (T:String) (t:Value) (k:Bool),xs=[x,.ty T]/\sh X.K H x t/\PySem.W.kitOne X.K t (.type T)=some k/\Q (.bl k) H):=by
 rintro pins s σ H xs us Q I r ⟨x,T,t,k,rfl,ty,e,q⟩;obtain⟨u,w',rfl,ru,rw'⟩:=uz r;cases rw';exact wb I ru ty e fun tk=>⟨.bl k,H,I.tok tk,rfl,q⟩
theorem fE{H:Hp}{p:Addr}(h:H p=none)(o:HO):si H (upd H p o):=fun b u q=>by rw[aQ (b6 q h)];exact q
def Def(K:Q5)(mg:Str->Option Value)(x:Str)(st:Stmt)(ps:List Str):Prop:=
 ∃f fd,Fun K x x st f fd/\qm K fd ps []/\mg x=some (.ref f)
def Has(P:Program)(w:World)(K:Q5)(mg:Str->Option Value)(base:Heap)(x:Str)(k:Nat)(ps:List Str)(sp:Sp):Prop:=
 ∃f fd,o8 P w K mg base CX0 k f fd ps sp/\qm K fd ps []/\PySem.W.keepIn K (.ref f)=true/\mg x=some (.ref f)
section
variable{P:Program}{w:World}{K:Q5}{mg:Str->Option Value}{base:Heap}{ps N:List Str}{k j:Nat}{sp:Sp}
theorem Has.mono(h:Has P w K mg base x j ps sp)(l:j<=k):Has P w K mg base x k ps sp:=by
 obtain⟨f,fd,a,b,c,d⟩:=h;exact⟨f,fd,a.mono l,b,c,d⟩
theorem Def.has(d:Def K mg x st ps)(S:br N ps (aF st))(len:∀vs H Q E,sp vs H Q E->vs.length=ps.length)
  (hbody:∀(f:Addr) (cdv:Value) (A:Around) (outer:List Env) (s:Shared) (H:Hp) (vs:List V) (Q:VK) (E:XK),ko k (A.deeper (envOfC x (aF st) s.heap.objs.size f cdv))->sp vs H Q E->
   ∃t,WSs (xH CX0 P w K mg base N x (aF st) f cdv A outer s H E).nox (dq st) t/\t { nx:=fun _ H'=>Q .non H',rt:=Q } (start N vs) H):Has P w K mg base x (k+1) ps sp:=by
 obtain⟨f,fd,F,b,m⟩:=d;exact⟨f,fd,F.ok S len (fun cdv A outer s H vs Q E hr h=>let ⟨t,a,b⟩:=hbody f cdv A outer s H vs Q E hr h;⟨t,a.h,b⟩),b,F.kp,m⟩
end
theorem EM{X:Cx}{k:Nat}{ps:List Str}{sp:Sp}{x:Str}{p pos:Pos}{e:Expr}{es:List Expr}{t:TA}(F:Has X.prog X.w X.K X.mg X.base x k ps sp)(hr:ko k X.A)(hg:Gl X x)
  (ha:WA X (e::es) t) (hdb:(x == ("__debug__":Str))=false:=by decide) (he:starEach (e::es) X.env=(false,eval e X.env)::starEach es X.env:=by rfl) (hpl:(backTo pos (starEach es X.env)).any (·.1)=false:=by rfl) :
  WE X (.Call (.Name x p) (e::es) [] pos) (E2 sp [] E0 t):=by
 obtain⟨f,fd,a,b,c,d⟩:=F;exact⟨CN a hr hg d c b .nil ID ha.h hdb he hpl⟩
structure Blt(mg:Str->Option Value):Prop where
 len:mg "len"=none
 isinstance:mg "isinstance"=none
 int:mg "int"=none
 bool:mg "bool"=none
 str:mg "str"=none
 tuple:mg "tuple"=none
 list:mg "list"=none
 range:mg "range"=none
 min:mg "min"=none
 sum:mg "sum"=none
 all:mg "all"=none
 zip:mg "zip"=none
 sorted:mg "sorted"=none
 dict:mg "dict"=none
 enumerate:mg "enumerate"=none
 any:mg "any"=none
 max:mg "max"=none
 set:mg "set"=none
theorem Aq{n:Nat}(h:n<=1000):n<=sizeLine:=Zf (uG h)
theorem tq{n:Nat}(h:n<2^60):n.log2<1920:=by
 by_cases e:n=0
 ·subst e;decide
 ·have:=(Nat.log2_lt e).mpr h;omega
theorem mS:bootBuiltins "int"=some (.type "int"):=rfl
theorem xg:bootBuiltins "bool"=some (.type "bool"):=rfl
theorem b8:bootBuiltins "tuple"=some (.type "tuple"):=rfl
theorem bW:bootBuiltins "list"=some (.type "list"):=rfl
theorem km:bootBuiltins "isinstance"=some (.builtin "isinstance"):=rfl
theorem zY:bootBuiltins "min"=some (.builtin "min"):=rfl
theorem zZ:bootBuiltins "max"=some (.builtin "max"):=rfl
theorem mU:bootBuiltins "all"=some (.builtin "all"):=rfl
theorem z9:bootBuiltins "any"=some (.builtin "any"):=rfl
theorem cH:bootBuiltins "sorted"=some (.builtin "sorted"):=rfl
theorem qr{X:Cx}{x:Str}{T:String}{pos:Pos}(hg:Gl X x)(hm:X.mg x=none)(hv:bootBuiltins x=some (.type T))(hn:x≠"__name__":=by decide)(hd:(x == ("__debug__":Str))=false:=by decide):WE X (.Name x pos) (tC (.ty T)):=
 ⟨CO hg hm hv rfl hn hd⟩
theorem Fun.okW{P:Program}{w:World}{K:Q5}{mg:Str->Option Value}{base:Heap}{x qual:Str}{st:Stmt}{f:Addr}{fd:FuncData}{N ps:List Str}{k:Nat}{sp:Sp}(F:Fun K x qual st f fd)(S:br N ps (aF st))(len:∀vs H Q E,sp vs H Q E->vs.length=ps.length)
  (hbody:∀(cdv:Value) (A:Around) (outer:List Env) (s:Shared) (H:Hp) (vs:List V) (Q:VK) (E:XK),ko k (A.deeper (envOfC qual (aF st) s.heap.objs.size f cdv))->sp vs H Q E->
   ∃t,WSs (xH CX0 P w K mg base N qual (aF st) f cdv A outer s H E).nox (dq st) t/\t { nx:=fun _ H'=>Q .non H',rt:=Q } (start N vs) H):o8 P w K mg base CX0 (k+1) f fd ps sp:=
 F.ok S len fun cdv A outer s H vs Q E hr h=>let ⟨t,a,b⟩:=hbody cdv A outer s H vs Q E hr h;⟨t,a.h,b⟩
def o9(env:Env):List (Str×Addr)->Prop
 |[]=>True
 |p::r=>env.cells.lookup p.1=some p.2/\o9 env r
theorem o9.look{env:Env}:∀{cl:List (Str×Addr)} {y:Str} {c:Addr},o9 env cl->cl.lookup y=some c->env.cells.lookup y=some c
 |[],_,_,_,h=>by simp at h
 |(n,d)::r,y,c,a,h=>by
  obtain⟨a1,a2⟩:=a;rw[List.lookup_cons]at h;by_cases e:(y == n)=true
  ·rw[e]at h;have e':y=n:=by simpa using e
   subst e';cases h;exact a1
  ·have e':(y == n)=false:=by simpa using e
   rw[e']at h;exact o9.look a2 h
abbrev cxC(X:Cx)(Nc:List Str)(scope:Scope)(cl:List (Str×Addr))(s3:Shared)(H3:Hp)(fp:List Addr):Cx where
 prog:=X.prog
 w:=X.w
 K:=X.K
 mg:=X.mg
 base:=X.base
 A:=X.A
 N:=Nc
 s₀:=s3
 H₀:=H3
 env:=compEnvC scope cl s3.heap.objs.size X.env
 outer:=X.stack
 stack:=X.stack
 ex:=fp
 fn:=fun _=>false
 calm:=X.calm
 pn:=[]
 xe:=fun _ _=>False
def stC(n:Nat)(caps:List Nat)(σ:L2.St):L2.St:=Za n none++caps.map fun i=>(σ[i]?).getD none
def yj(wi:TI)(g:TG)(te:TE)(n:Nat)(caps:List Nat):TE:=fun σ H Q=>wi σ H fun J H1=>∀l,H1 l=none->∃W:Nat->Nat->L2.St->Hp->Prop,(∃m,W 0 m (stC n caps σ) (upd H1 l (.lst [])))/\
 ∀i m σ' H2,W i m σ' H2->(J.stop i H2/\Q (.ref l) H2)\/(J.go i H2/\∃N:L2.St->Hp->Prop,(∀σ'' H',N σ'' H'->∃m',m'<m/\W (i+1) m' σ'' H')/\
  ∀x H3,J.yld i H2 x H3->g x σ' H3 fun σ2 H4=>te σ2 H4 fun v H5=>∃ys,H5 l=some (.lst ys)/\ys.length<sizeLine/\N σ2 (upd H5 l (.lst (ys++[v]))))
theorem oH{prog:Program}{w:World}{A:Around}{R:Result->Shared->Prop}{s:Shared}{elt target iter:Expr}{scope:Scope}{pos:Pos}{it acc:Value}{env:Env}(I:Nat->Shared->Prop)
  (turn:∀n s,I n s->wpAny (model prog w) A (pyNext it) (fun r s₁=>match r with
   |none=>R (.ok .next) s₁
   | some v=>wpAny (model prog w) A (letOwnedTupleGo target it v) (fun _ s₁'=>wpAny (model prog w) A (assign target env v) (fun _ s₂=>wpAny (model prog w) A (eval elt env) (fun x s₃=>
     wpAny (model prog w) A (call (.builtin "list.append") [acc,x]) (fun _ s₄=>∃m,m<n/\I m s₄) (fun _ _=>False) s₃)
     (fun _ _=>False) s₂) (fun _ _=>False) s₁') (fun _ _=>False) s₁) (fun _ _=>False) s)
  (n:Nat) (h:I n s) :
  codeAny (model prog w) A (.compLoop (.ListComp elt [⟨target,iter,[],0⟩] scope pos) 0 it acc env) R s:=by
 refine codeAny_loop rfl I (fun n s hI=>?_) n h;show wpAny _ _ ((compTurn (.ListComp elt [⟨target,iter,[],0⟩] scope pos) 0 it acc env).onRaise (fun x=>do noteFrame x env;theTreesLotGoes x)) _ _ s;refine wpAny_noted ?_;rw[compTurn_list1];refine Q0 (wpAny_standAt (Q0 (ZE (turn n s hI) (fun r s₁ h₁=>?_) fun _ _ h'=>h'.elim)));cases r with
 |none=>exact Q6 h₁
 |some v=>
  refine Q0 (ZE h₁ (fun _ s₁' h₁'=>?_) fun _ _ h'=>h'.elim);exact Q0 (ZE h₁' (fun _ s₂ h₂=>Q0 (Q0 (ZE h₂ (fun x s₃ h₃=>Q0 (ZE h₃
   (fun _ s₄ h₄=>Q6 (Q6 ⟨rfl,h₄⟩)) fun _ _ h'=>h'.elim)) fun _ _ h'=>h'.elim))) fun _ _ h'=>h'.elim)
section
variable{pins:List (Addr×Obj)}{σ:L2.St}{H:Hp}{s:Shared}{Nc capN:List Str}{scope:Scope}{cl:List (Str×Addr)}{fp:List Addr}{n:Nat}{caps:List Nat}
def Cap(X:Cx)(scope:Scope)(cl:List (Str×Addr))(i:Nat)(y:Str):Prop:=X.N[i]?=some y/\X.env.scope.names.lookup y=some .cell/\(relabel scope X.env).names.lookup y=some .cell/\∃c,cl.lookup y=some c
theorem Inv.comp{h1:Heap}{t':Nat}(I:Inv X pins σ H s)(hc:X.calm=true)(f2:∀b∈fp,xG X pins H b)(fo:∀b∈fp,b<s.heap.objs.size)(hkind:scope.kind=.function)(hcl:o9 X.env cl)
  (hhas:((relabel scope X.env).names.all fun p=>!(p.2 == .cell||p.2 == .free)||(cl.lookup p.1).isSome)=true)
  (hcap:Paired (Cap X scope cl) caps capN) (tn:List Str) (hN:Nc=tn++capN) (hn:tn.length=n)
  (hns:h1.Ns s.heap.objs.size (fun _=>none)) (hk:∀b o,s.heap.get? b=some o->h1.get? b=some o) :
  Inv (cxC X Nc scope cl s H fp) [] (stC n caps σ) H { s with heap:=h1,toks:=t' }:=by
 have lkc:∀y c,cl.lookup y=some c->X.env.cells.lookup y=some c:=fun y c e=>hcl.look e;refine⟨⟨I.ok.mod,?_,I.ok.glob,I.ok.blt,QJ _,fun x y c a b=>I.ok.inj x y c (lkc _ _ a) (lkc _ _ b),fun x hx=>?_,fun x c z=>(nomatch z),I.ok.hd,I.ok.frames,.inl rfl,fun b hb=>⟨Qj (fo b hb),fun x c e=>(f2 b hb).2.2.2.2.1 x c (lkc _ _ e)⟩,I.bs,Qu I.ok.bsz I.sz,
  fun b o e hb=>?_,fun b hb z=>?_,I.stack,I.stkFree⟩,rfl,I.bare,Un.kept hk,⟨_,hns,fun i y v h1' h2 h3=>?_⟩,fun y c e=>?_,I.hok.fresh (QJ _),fun y c e=>I.freeC y c (lkc _ _ e),fun p hp=>(by simp at hp),I.hok.kept hk,?_⟩
 ·exact hkind
 ·have hx':(relabel scope X.env).names.lookup x=some .cell\/(relabel scope X.env).names.lookup x=some .free:=hx;have mem:∀{k},(relabel scope X.env).names.lookup x=some k->(x,k)∈(relabel scope X.env).names:=fun{k} e=>by
   generalize (relabel scope X.env).names=L at e;induction L with
   |nil=>simp at e
   |cons p r ih=>
    obtain⟨a,b⟩:=p;rw[List.lookup_cons]at e;by_cases q:(x == a)=true
    ·rw[q]at e;cases e;have:x=a:=by simpa using q
     subst this;exact QB
    ·rw[show(x == a)=false by simpa using q]at e;exact QF _ (ih e)
  have fin:∀{k},(k=NameKind.cell\/k=.free)->(relabel scope X.env).names.lookup x=some k->∃c,cl.lookup x=some c:=fun{k} hk' e=>by
   have:=List.all_eq_true.mp hhas _ (mem e);dsimp only at this;have q:(cl.lookup x).isSome=true:=by
    rcases hk' with z|z<;>subst z<;>simpa using this
   exact Option.isSome_iff_exists.mp q
  rcases hx' with e|e
  ·exact fin (.inl rfl) e
  ·exact fin (.inr rfl) e
 ·rcases(f2 b hb).2.2.2.1 with z|z
  ·exact I.ok.noex b o e z
  ·exact absurd (Qw (QV e) I.ok.bsz) (XG.mpr z)
 ·rcases Qk.mp (I.stkSub b z)with q|q
  ·exact(f2 b hb).2.1 q
  ·exact(f2 b hb).2.2.1 q
 ·obtain⟨m,hm,hl⟩:=I.loc;have h2':(stC n caps σ)[i]?=some (some v):=h2;have h1'':Nc[i]?=some y:=h1';unfold stC at h2';by_cases hi:i<n
  ·rw[QD (by simpa using hi),XF,if_pos hi]at h2';cases h2'
  ·rw[QK (by simp;omega),List.length_replicate,Qb]at h2';rw[hN,QK (by omega),hn]at h1'';have key:∀(j:Nat) {caps:List Nat} {capN:List Str},Paired (Cap X scope cl) caps capN->capN[j]?=some y->(Option.map (fun i=>(σ[i]?).getD none) caps[j]?)=some (some v)->∃k,Cap X scope cl k y/\σ[k]?=some (some v):=by
    intro j;induction j with
    |zero=>
     intro caps capN P e1 e2;cases P with
     |nil=>simp at e1
     |@cons a b l r p t=>
      simp at e1 e2;subst e1;cases q:σ[a]? with
      |none=>rw[q]at e2;simp at e2
      |some w'=>rw[q]at e2;simp at e2;subst e2;exact⟨a,p,q⟩
    |succ j ih=>
     intro caps capN P e1 e2;cases P with
     |nil=>simp at e1
     |cons p t=>exact ih t (by simpa using e1) (by simpa using e2)
   obtain⟨k,⟨c1,c2,c3,c,c4⟩,e⟩:=key _ hcap h1'' h2';obtain⟨u,r,lk⟩:=hl k y v c1 e (.inr (.inl c2));refine⟨u,r,.inr ⟨.inl c3,c,c4,?_⟩⟩;rcases lk with⟨z,_⟩|⟨_,c',e',o,ho,hd⟩
   ·have z':X.env.scope.names.lookup y=some .local:=z;rw[c2]at z';cases z'
   ·rw[lkc _ _ c4]at e';cases e';exact⟨o,hk _ _ ho,hd⟩
 ·obtain⟨v,o,ho,hd⟩:=I.cell y c (lkc _ _ e);exact⟨v,o,hk _ _ ho,hd⟩
 ·show(stC n caps σ).length=Nc.length;have pl:caps.length=capN.length:=Paired.length hcap;unfold stC;rw[QZ,List.length_replicate,QX,hN,QZ,hn,pl]
end
theorem rS{X:Cx}{Nc capN tn:List Str}{scope:Scope}{cl:List (Str×Addr)}{n:Nat}{caps:List Nat}{tg iter elt:Expr}{pos:Pos}{wi:TI}{g:TG}{te:TE}
  (hc:X.calm=true) (hi:WI X tg iter wi) (hg:∀s3 H3 fp,WG (cxC X Nc scope cl s3 H3 fp) tg g) (he:∀s3 H3 fp,WE (cxC X Nc scope cl s3 H3 fp) elt te)
  (hclos:closureFor scope X.env=pure cl) (hkind:scope.kind=.function) (hnl:∀x∈scope.names,x.2=.local->scope.names.lookup x.1=some .local) (hcell:∀x∈scope.names,x.2≠.cell)
  (hcl:o9 X.env cl) (hhas:((relabel scope X.env).names.all fun p=>!(p.2 == .cell||p.2 == .free)||(cl.lookup p.1).isSome)=true)
  (hcap:Paired (Cap X scope cl) caps capN) (hN:Nc=tn++capN) (hn:tn.length=n)
  {use:Option (Value->Sem Unit)} {pins:List (Addr×Obj)} {σ:L2.St} {H:Hp} {s:Shared} {Q:VK} {Qf:Value->Shared->Prop} (I:Inv X pins σ H s) (h:yj wi g te n caps σ H Q)
  (hend:∀(D C:Addr) (s6:Shared) (H5:Hp) (m:Str->Option Value),Inv X pins σ H5 s6->s6.heap.Ns C m->H5 C=none->C≠X.env.locals->X.s₀.heap.objs.size<=C->(∀x c,X.env.cells.lookup x=some c->c≠C)->(∀p∈X.pn++pins,p.1≠C)->Q (.ref D) H5->compPost (model X.prog X.w) X.A X.xe use Qf (.ref D) C (.ok .next) s6)
  (hs:∀x,foldedSetIterable iter X.env x=pure x) :
  wpAny (model X.prog X.w) X.A (comprehension (.ListComp elt [⟨tg,iter,[],0⟩] scope pos) scope X.env (firstIterPos [⟨tg,iter,[],0⟩] pos) (newList []) (firstAsync [⟨tg,iter,[],0⟩]) (firstIter [⟨tg,iter,[],0⟩] X.env) use) Qf X.xe s:=by
 refine wpAny_comprehension_free (use:=use) (g:=⟨tg,iter,[],0⟩) (gs:=[]) rfl hs hclos hkind hnl (thn (hi.h pins s σ H _ I h) fun v s1 h1=>thn h1 fun itv s2 h2=>?_);obtain⟨it,fp,tnn,J,H2,rfl,I2,T,st2,f2,hW⟩:=h2;have hD:=I2.fresh;obtain⟨W,⟨m0,w0⟩,turn⟩:=hW _ hD;refine wpAny_newObj_type (wpAny_newFunctionEnv hcell (by intro y hy;simp at hy) (fun h₁ hns₁ hsb₁=>?_) hkind);dsimp only at hns₁ hsb₁ ⊢;have I3:Inv X pins σ (upd H2 s2.heap.objs.size (.lst [])) { s2 with heap:=s2.heap.push { cls:=.type "list",dict:=none,data:=.seq ([]:List Value).toArray },toks:=s2.toks }:=I2.lnew (its:=[]) .nil (Qi _);generalize hs3:({ s2 with heap:=s2.heap.push { cls:=.type "list",dict:=none,data:=.seq ([]:List Value).toArray },toks:=s2.toks }:Shared)=s3 at I3;have es3:s3.heap=s2.heap.push { cls:=.type "list",dict:=none,data:=.seq ([]:List Value).toArray }:=by rw[<-hs3]
 generalize hDD:s2.heap.objs.size=D at *;have kept:∀b o,s3.heap.get? b=some o->h₁.get? b=some o:=fun b o e=>by
  have lt:=QV e;rw[es3]at lt e;exact hsb₁.extBut b o (Qj lt) (Q3 _ e)
 have old:∀b o,s2.heap.get? b=some o->s3.heap.get? b=some o:=fun b o e=>by rw[es3];exact Q3 _ e
 have ltD:∀b∈fp,b<D:=fun b hb=>by
  obtain⟨o,e,_⟩:=T.obj 0 _ st2 b hb;rw[<-hDD];exact QV e
 have fo:∀b∈fp,b<s3.heap.objs.size:=fun b hb=>by
  obtain⟨o,e,_⟩:=T.obj 0 _ st2 b hb;exact QV (old _ _ e)
 have f3:∀b∈fp,xG X pins (upd H2 D (.lst [])) b:=fun b hb=>by
  refine⟨?_,(f2 b hb).2⟩;rw[aQ (Qj (ltD b hb))];exact(f2 b hb).1
 rw[<-es3]at hns₁ hsb₁ ⊢;have Ic:=fun t'=>Inv.comp (h1:=h₁) (t':=t') (Nc:=Nc) (n:=n) I3 hc f3 fo hkind hcl hhas hcap tn hN hn hns₁ kept;have stat:∀{H':Hp},(∀b∈fp,H' b=none)->∀b∈fp,xG (cxC X Nc scope cl s3 (upd H2 D (.lst [])) fp) [] H' b:=fun hn' b hb=>by
  refine⟨hn' b hb,Qj (fo b hb),fun z=>?_,.inl hb,fun x c e=>(f2 b hb).2.2.2.2.1 x c (hcl.look e),fun p hp=>(by simp at hp)⟩;rcases Qk.mp (I3.stkSub b z)with q|q
  ·exact(f2 b hb).2.1 q
  ·exact(f2 b hb).2.2.1 q
 have loop:∀s4:Shared,(∃t',s4={ s3 with heap:=h₁,toks:=t' })->codeAny (model X.prog X.w) X.A (.compLoop (.ListComp elt [⟨tg,iter,[],0⟩] scope pos) 0 (.ref it) (.ref D) (compEnvC scope cl s3.heap.objs.size X.env))
   (compPost (model X.prog X.w) X.A X.xe use Qf (.ref D) s3.heap.objs.size) s4:=by
  rintro s4 ⟨t',rfl⟩;refine oH (fun n' s'=>∃i σ' H',Inv (cxC X Nc scope cl s3 (upd H2 D (.lst [])) fp) [] σ' H' s'/\tnn i s'.heap/\(∀b∈fp,H' b=none)/\W i n' σ' H') ?_ m0
   ⟨0,_,_,Ic t',T.keep 0 _ _ st2 fun b hb o e=>kept _ _ (old _ _ e),fun b hb=>(f3 b hb).1,w0⟩
  rintro n' s5 ⟨i,σ5,H5,I5,st5,fr5,w5⟩;rcases turn i n' σ5 H5 w5 with⟨stop,qn⟩|⟨go,N,hN',step⟩
  ·refine thn (T.done (cxC X Nc scope cl s3 (upd H2 D (.lst [])) fp) rfl rfl rfl hc i [] s5 σ5 H5 (fun _ _=>False) I5 (stat fr5) st5 stop) fun r s6 ⟨hr,I6⟩=>?_;subst hr;obtain⟨m,hm,_⟩:=I6.loc;have I7:Inv X pins σ H5 s6:=Inv.call' (ch:=fp) I3 I6.os I6.base I6.hok I6.bare fun b hb=>⟨(f2 b hb).2.2.2.1,(f2 b hb).2.1,(f2 b hb).2.2.2.2.1,(f2 b hb).2.2.2.2.2⟩;exact hend D _ s6 H5 m I7 hm I6.free (Ne.symm (Qj I3.lt)) I3.sz (fun x c e=>by
     obtain⟨v',o,ho,_⟩:=I3.cell x c e;exact Qj (QV ho)) (fun p hp=>Qj (QV (I3.pin p hp).1)) qn
  ·refine thn (T.item (cxC X Nc scope cl s3 (upd H2 D (.lst [])) fp) rfl rfl rfl hc i [] s5 σ5 H5 (fun _ _=>False) I5 (stat fr5) st5 go) fun r s6 ⟨u,hr,h6⟩=>?_;subst hr;refine thn h6 fun _ s7 hz=>?_;obtain⟨x,H7,I7,r7,y7,st7,fr7⟩:=hz;have I7':=I7.pinned (stat fr7) (T.obj _ _ st7);refine thn ((hg s3 (upd H2 D (.lst [])) fp).h _ s7 σ5 H7 x u _ I7' r7 (step x H7 y7)) fun _ s8 hz=>?_;obtain⟨σ8,H8,I8,q8⟩:=hz;refine thn ((he s3 (upd H2 D (.lst [])) fp).h _ s8 σ8 H8 _ I8 q8) fun v9 s9 hz=>?_;obtain⟨x9,H9,I9,r9,ys,hy,hlt,q9⟩:=hz;refine thn (jO (X:=cxC X Nc scope cl s3 (upd H2 D (.lst [])) fp) _ s9 σ8 H9 (.ref D) [x9] (.ref D) [v9] (fun _ H'=>N σ8 H') I9 rfl (.cons r9 .nil) ⟨D,ys,x9,rfl,rfl,hy,hlt,q9⟩) fun _ s10 hz=>?_;obtain⟨_,H10,I10,_,q10⟩:=hz;obtain⟨m',hm,w10⟩:=hN' σ8 H10 q10;refine⟨m',hm,i+1,σ8,H10,I10.unpinned,T.keep _ _ _ st7 fun b hb o e=>(I10.pin (b,o) (QL _ (QL _ (c7 hb e)))).1,fun b hb=>?_,w10⟩;obtain⟨o,e,d⟩:=T.obj _ _ st7 b hb;exact(I10.pin (b,o) (QL _ (QL _ (c7 hb e)))).2.1
 have e4:∀t',({ s2 with heap:=h₁,toks:=t' }:Shared)={ s3 with heap:=h₁,toks:=t' }:=fun t'=>by rw[<-hs3]
 refine codeAny_compStart_list (loop _ ⟨_,e4 _⟩) (T.self _ 0 _ _ _ (T.keep 0 _ _ st2 fun b hb o e=>kept _ _ (old _ _ e)) (loop _ ⟨_,e4 _⟩))
theorem qt{X:Cx}{Nc capN tn:List Str}{scope:Scope}{cl:List (Str×Addr)}{n:Nat}{caps:List Nat}{tg iter elt:Expr}{pos:Pos}{wi:TI}{g:TG}{te:TE}
  (hc:X.calm=true) (hi:WI X tg iter wi) (hg:∀s3 H3 fp,WG (cxC X Nc scope cl s3 H3 fp) tg g) (he:∀s3 H3 fp,WE (cxC X Nc scope cl s3 H3 fp) elt te)
  (hclos:closureFor scope X.env=pure cl) (hkind:scope.kind=.function) (hnl:∀x∈scope.names,x.2=.local->scope.names.lookup x.1=some .local) (hcell:∀x∈scope.names,x.2≠.cell)
  (hcl:o9 X.env cl) (hhas:((relabel scope X.env).names.all fun p=>!(p.2 == .cell||p.2 == .free)||(cl.lookup p.1).isSome)=true)
  (hcap:Paired (Cap X scope cl) caps capN) (hN:Nc=tn++capN) (hn:tn.length=n)
  (hs:∀x,foldedSetIterable iter X.env x=pure x:=by intro _;rfl) :
  WE X (.ListComp elt [⟨tg,iter,[],0⟩] scope pos) (yj wi g te n caps):=by
 constructor;intro pins s σ H Q I h;rw[eval_ListComp];refine rS hc hi hg he hclos hkind hnl hcell hcl hhas hcap hN hn I h (fun D C s6 H5 m I7 hm fr nl sz cn pn qn=>⟨m,hm,fun h' hs'=>?_⟩) hs;exact⟨.ref D,H5,I7.turned (t':=s6.toks) (it:=C) (fun b o hb e=>hs'.extBut b o hb e) fr nl (.inr sz) cn pn,rfl,qn⟩
theorem pA:∀{bs:List Bool} {us:List Value} {i:Nat} {v:Value},aX (bs.map V.bl) us->us[i]?=some v->∃b,bs[i]?=some b/\v=.bool b
 |[],_,_,_,r,e=>by cases r;simp at e
 |b::bs,_,0,_,.cons r _,e=>by
  have r':_=Value.bool b:=r;simp at e;subst e;exact⟨b,by simp,r'⟩
 |b::bs,_,i+1,v,.cons _ t,e=>by
  obtain⟨b',e1,e2⟩:=pA (i:=i) (v:=v) t (by simpa using e);exact⟨b',by simpa using e1,e2⟩
theorem Ad(bs:List Bool):(Qz bs.length).all (fun i=>(bs[i]?).getD true)=bs.all id:=by
 rw[Zi,List.all_eq_true,List.all_eq_true];constructor
 ·intro h b hb;obtain⟨i,hi,e⟩:=List.mem_iff_getElem.mp hb;have:=h i (Qy.mpr hi);rw[Q4 hi,ZX,e]at this;exact this
 ·intro h i hi;have hi':=Qy.mp hi;have:=h _ (ZR hi');rw[Q4 hi',ZX];exact this
theorem vF{h:Heap}{b:Addr}{o:Obj}(e:h.get? b=some o):¬b∈[h.objs.size]:=fun z=>by
 have z':b=h.objs.size:=by simpa using z
 exact absurd (QV e) (by rw[z'];exact Nat.lt_irrefl _)
theorem mP(hc:X.calm=true):bX X (.builtin "all") (fun xs H Q=>∃(p:Addr) (bs:List Bool),xs=[.ref p]/\SqL X.K H p (bs.map V.bl)/\Q (.bl (bs.all id)) H):=by
 intro pins s σ H xs us Q I r h;obtain⟨p,bs,rfl,hq,q⟩:=h;obtain⟨u,rfl,rx⟩:=eS r;cases rx;obtain⟨its,rv,pl,hz⟩:=I.list hq;have hlen:=rv.length;rw[QX]at hlen;refine call_all_walk (wpAny_pyIter_list pl.isList ?_);have lt:p<s.heap.objs.size:=by obtain⟨o,e,_⟩:=pl.isList;exact QV e
 refine⟨s.heap.objs.size,_,_,_,_,_,fun i=>(bs[i]?).getD true,rfl,Walks.list (show X.A.in1.handled=none from I.ok.hd hc) s.heap.objs.size p (Qj lt) its.toArray,⟨⟨_,QU _ rfl,rfl,rfl⟩,pl.isList.at fun o e=>Q3 _ e⟩,?_,fun h' tk hk=>?_⟩
 ·intro i v s' Q' E' hP hQ;have hP':its.toArray[i]?=some v:=hP;obtain⟨b,e1,e2⟩:=pA rv (by simpa using hP');subst e2;dsimp only at hQ;rw[e1,ZX]at hQ;exact wpAny_truthy_bool hQ
 ·have e:(Qz its.toArray.size).all (fun i=>(bs[i]?).getD true)=bs.all id:=by
   rw[QM,<-hlen];exact Ad bs
  rw[e];exact⟨.bl (bs.all id),H,I.kept fun b o e=>hk b o (vF e) (Q3 _ e),rfl,q⟩
open PySem.AutoSeq1 (wpAny_loadPart')
theorem zR{prog:Program}{w:World}{A:Around}{E:Value->Shared->Prop}{s:Shared}{t b:Addr}{vs ws:List Value}{Q:Value->Shared->Prop}(ht:IsTup s.heap t vs.toArray)(hb:IsTup s.heap b ws.toArray)(hv:vs=[])
  (h1:Q (.ref b) s):wpAny (model prog w) A (binaryOp .Add (.ref t) (.ref b)) Q E s:=by
 obtain⟨⟨cls,dd,data,sl⟩,ho,hc,n,hd⟩:=id ht;obtain⟨⟨cls2,dd2,data2,sl2⟩,ho2,hc2,n2,hd2⟩:=id hb;simp only at hc hd hc2 hd2;subst hc hd hc2 hd2;exact concat_meets ⟨_,ho,rfl⟩ ⟨_,ho2,rfl⟩ noFill_tuple_add seq_tuple_add PySem.F.slot_tuple_add PySem.F.entry_tuple_add (PySem.F.args_tuple_add_2 _ _)
   (tuple_addW0 t b vs.toArray ws.toArray n n2 dd dd2 sl sl2 (by simp[hv])) ⟨ho,ho2,h1⟩
theorem vS{m:Int}(h0:0<=m)(h:m<2^60):m.natAbs.log2<9000:=by
 have:=tq (n:=m.natAbs) (by omega);omega
end OG
namespace OP
open PySem PySem.Spec PyProof.Rows L2 OG
inductive U where
 |non|bl (b:Bool)|int (i:Int)|str (x:Str)|tup (us:List U)|ref (l:Nat)|kl (ns:List Int)
structure Cl where
 C:Addr
 ns:List Str
inductive O where
 |lst (us:List U)|dic (kvs:List (Key×U))|ins (c:Cl) (fs:List (Option U))|fdc (ep:Nat) (kvs:List (Key×U))|dit (kvs:List (List Key×U))|fdt (ep:Nat) (kvs:List (List Key×U))|dnt (kvs:List (List (List Int)×U))|fdn (ep:Nat) (kvs:List (List (List Int)×U))|cod (p:Addr) (pos:Pos) (q:Str)
abbrev Sto:=List O
abbrev Rho:=List (Option U)
def KL(K:Q5)(H:Hp)(a:Addr)(ns:List Int):Prop:=
 (∃o,H a=some (.frz o (.lst (ns.map V.int))))\/
  ∃(o:Obj) (its:Array Value) (n:Nat),K.lookup a=some o/\o.cls=.type "list"/\o.dict=none/\o.data=.seq its n/\its.size<=sizeLine/\aX (ns.map V.int) its.toList
theorem KL.sq{K:Q5}{H:Hp}{a:Addr}{ns:List Int}(h:KL K H a ns):SqL K H a (ns.map V.int):=by
 rcases h with h|h
 ·exact .inl (.inr h)
 ·exact .inr h
mutual
def Is(K:Q5)(m:List Addr)(H:Hp):V->U->Prop
 |v,.non=>v=.non
 |v,.bl b=>v=.bl b
 |v,.int i=>v=.int i
 |v,.str x=>v=.str x
 |v,.tup us=>∃a xs,v=.ref a/\SqT K H a xs/\IsL K m H xs us
 |v,.ref l=>∃a,m[l]?=some a/\v=.ref a
 |v,.kl ns=>∃a,v=.ref a/\KL K H a ns
def IsL(K:Q5)(m:List Addr)(H:Hp):List V->List U->Prop
 |xs,[]=>xs=[]
 |xs,u::us=>∃x r,xs=x::r/\Is K m H x u/\IsL K m H r us
end
structure Ai(K:Q5)(H H':Hp):Prop where
 t:∀a xs,SqT K H a xs->SqT K H' a xs
 l:∀a ns,KL K H a ns->KL K H' a ns
 c:∀a ob,H a=some (.frz ob (.own 0))->H' a=some (.frz ob (.own 0))
structure Ext(K:Q5)(m:List Addr)(H:Hp)(m':List Addr)(H':Hp):Prop where
 pre:∃t,m'=m++t
 keep:Ai K H H'
variable{K:Q5}{m m':List Addr}{H H':Hp}{v:V}{u:U}{us:List U}{a q:Addr}
section
variable{m'':List Addr}{H'':Hp}{x:V}{xs ys:List V}{ws:List U}{o:HO}
theorem Ext.refl:Ext K m H m H:=⟨⟨[],by simp⟩,fun _ _ h=>h,fun _ _ h=>h,fun _ _ h=>h⟩
theorem Ext.trans(a:Ext K m H m' H')(b:Ext K m' H' m'' H''):Ext K m H m'' H'':=by
 obtain⟨t,rfl⟩:=a.pre;obtain⟨t',rfl⟩:=b.pre;exact⟨⟨t++t',by simp⟩,fun c ys h=>b.keep.t c ys (a.keep.t c ys h),fun c ys h=>b.keep.l c ys (a.keep.l c ys h),fun c ob h=>b.keep.c c ob (a.keep.c c ob h)⟩
theorem Ext.of(k:Ai K H H'):Ext K m H m H':=⟨⟨[],by simp⟩,k⟩
theorem Ext.new(k:Ai K H H'):Ext K m H (m++[q]) H':=⟨⟨[q],rfl⟩,k⟩
theorem Ext.get{l:Nat}(e:Ext K m H m' H')(h:m[l]?=some a):m'[l]?=some a:=by
 obtain⟨t,rfl⟩:=e.pre;rw[QD (Q7.mp h).1];exact h
mutual
theorem Is.mono(e:Ext K m H m' H'):∀{v:V} {u:U},Is K m H v u->Is K m' H' v u
 |v,.non,h=>by unfold Is at h ⊢;exact h
 |v,.bl b,h=>by unfold Is at h ⊢;exact h
 |v,.int i,h=>by unfold Is at h ⊢;exact h
 |v,.str x,h=>by unfold Is at h ⊢;exact h
 |v,.tup us,h=>by
  unfold Is at h ⊢;obtain⟨a,xs,e1,k,l⟩:=h;exact⟨a,xs,e1,e.keep.t _ _ k,IsL.mono e l⟩
 |v,.ref l,h=>by
  unfold Is at h ⊢;obtain⟨a,k,e1⟩:=h;exact⟨a,e.get k,e1⟩
 |v,.kl ns,h=>by
  unfold Is at h ⊢;obtain⟨a,e1,k⟩:=h;exact⟨a,e1,e.keep.l _ _ k⟩
theorem IsL.mono(e:Ext K m H m' H'):∀{xs:List V} {us:List U},IsL K m H xs us->IsL K m' H' xs us
 |xs,[],h=>by unfold IsL at h ⊢;exact h
 |xs,u::us,h=>by
  unfold IsL at h ⊢;obtain⟨x,r,e1,k,l⟩:=h;exact⟨x,r,e1,Is.mono e k,IsL.mono e l⟩
end
theorem Is.int_{i:Int}:Is K m H (.int i) (.int i):=by unfold Is;rfl
theorem Is.bl_{b:Bool}:Is K m H (.bl b) (.bl b):=by unfold Is;rfl
theorem Is.non_:Is K m H .non .non:=by unfold Is;rfl
theorem Is.str_{x:Str}:Is K m H (.str x) (.str x):=by unfold Is;rfl
theorem Is.of_int{i:Int}(h:Is K m H v (.int i)):v=.int i:=by unfold Is at h;exact h
theorem Is.of_bl{b:Bool}(h:Is K m H v (.bl b)):v=.bl b:=by unfold Is at h;exact h
theorem Is.of_non(h:Is K m H v .non):v=.non:=by unfold Is at h;exact h
theorem Is.of_str{x:Str}(h:Is K m H v (.str x)):v=.str x:=by unfold Is at h;exact h
theorem Is.of_tup(h:Is K m H v (.tup us)):∃a xs,v=.ref a/\SqT K H a xs/\IsL K m H xs us:=by unfold Is at h;exact h
theorem Is.of_ref{l:Nat}(h:Is K m H v (.ref l)):∃a,m[l]?=some a/\v=.ref a:=by unfold Is at h;exact h
theorem Is.of_kl{ns:List Int}(h:Is K m H v (.kl ns)):∃a,v=.ref a/\KL K H a ns:=by unfold Is at h;exact h
theorem Is.kl_{ns:List Int}(e:KL K H a ns):Is K m H (.ref a) (.kl ns):=by unfold Is;exact⟨a,rfl,e⟩
theorem Is.tup_(e:SqT K H a xs)(h:IsL K m H xs us):Is K m H (.ref a) (.tup us):=by unfold Is;exact⟨a,xs,rfl,e,h⟩
theorem Is.ref_{l:Nat}(e:m[l]?=some a):Is K m H (.ref a) (.ref l):=by unfold Is;exact⟨a,e,rfl⟩
theorem IsL.nil_:IsL K m H [] []:=by unfold IsL;rfl
theorem IsL.cons_(h:Is K m H x u)(t:IsL K m H xs us):IsL K m H (x::xs) (u::us):=by unfold IsL;exact⟨x,xs,rfl,h,t⟩
theorem IsL.of_nil(h:IsL K m H xs []):xs=[]:=by unfold IsL at h;exact h
theorem IsL.of_cons(h:IsL K m H xs (u::us)):∃x r,xs=x::r/\Is K m H x u/\IsL K m H r us:=by unfold IsL at h;exact h
theorem IsL.length:∀{xs:List V} {us:List U},IsL K m H xs us->xs.length=us.length
 |xs,[],h=>by rw[h.of_nil];rfl
 |xs,d::ds,h=>by
  obtain⟨x,r,rfl,_,t⟩:=h.of_cons;rw[QH,QH,IsL.length t]
theorem IsL.getD:∀{xs:List V} {us:List U} {i:Nat} {u:U},IsL K m H xs us->us[i]?=some u->∃x,xs[i]?=some x/\Is K m H x u
 |xs,[],i,x,h,e=>by simp at e
 |xs,d::ds,0,x,h,e=>by
  obtain⟨y,r,rfl,k,t⟩:=h.of_cons;simp at e;subst e;exact⟨y,by simp,k⟩
 |xs,d::ds,i+1,x,h,e=>by
  obtain⟨y,r,rfl,k,t⟩:=h.of_cons;obtain⟨d',e1,e2⟩:=IsL.getD (i:=i) (u:=x) t (by simpa using e);exact⟨d',by simpa using e1,e2⟩
theorem IsL.append:∀{xs:List V} {us:List U},IsL K m H xs us->IsL K m H ys ws->IsL K m H (xs++ys) (us++ws)
 |xs,[],h,k=>by rw[h.of_nil];exact k
 |xs,d::ds,h,k=>by
  obtain⟨y,r,rfl,z,t⟩:=h.of_cons;exact .cons_ z (IsL.append t k)
theorem IsL.set:∀{xs:List V} {us:List U} {j:Nat},IsL K m H xs us->Is K m H x u->IsL K m H (xs.set j x) (us.set j u)
 |xs,[],j,h,k=>by rw[h.of_nil];exact .nil_
 |xs,d::ds,0,h,k=>by
  obtain⟨y,r,rfl,z,t⟩:=h.of_cons;exact .cons_ k t
 |xs,d::ds,j+1,h,k=>by
  obtain⟨y,r,rfl,z,t⟩:=h.of_cons;exact .cons_ z (IsL.set t k)
theorem IsL.drop:∀{xs:List V} {us:List U} (n:Nat),IsL K m H xs us->IsL K m H (xs.drop n) (us.drop n)
 |xs,us,0,h=>h
 |xs,[],n+1,h=>by rw[h.of_nil];exact .nil_
 |xs,d::ds,n+1,h=>by
  obtain⟨y,r,rfl,z,t⟩:=h.of_cons;exact IsL.drop n t
theorem IsL.take:∀{xs:List V} {us:List U} (n:Nat),IsL K m H xs us->IsL K m H (xs.take n) (us.take n)
 |xs,us,0,h=>.nil_
 |xs,[],n+1,h=>by rw[h.of_nil];exact .nil_
 |xs,d::ds,n+1,h=>by
  obtain⟨y,r,rfl,z,t⟩:=h.of_cons;exact .cons_ z (IsL.take n t)
theorem IsL.erase:∀{xs:List V} {us:List U} (n:Nat),IsL K m H xs us->IsL K m H (xs.eraseIdx n) (us.eraseIdx n)
 |xs,[],n,h=>by rw[h.of_nil];exact .nil_
 |xs,d::ds,0,h=>by
  obtain⟨y,r,rfl,z,t⟩:=h.of_cons;exact t
 |xs,d::ds,n+1,h=>by
  obtain⟨y,r,rfl,z,t⟩:=h.of_cons;exact .cons_ z (IsL.erase n t)
theorem IsL.rev:∀{xs:List V} {us:List U},IsL K m H xs us->IsL K m H xs.reverse us.reverse
 |xs,[],h=>by rw[h.of_nil];exact .nil_
 |xs,d::ds,h=>by
  obtain⟨y,r,rfl,z,t⟩:=h.of_cons;rw[List.reverse_cons,List.reverse_cons];exact IsL.append (IsL.rev t) (.cons_ z .nil_)
theorem rC(h:H a=some o)(nt:∀xs,o≠.tup xs)(nf:∀ob xs,o≠.frz ob (.tup xs))(nl:∀ob xs,o≠.frz ob (.lst xs))(nc:∀ob,o≠.frz ob (.own 0))(o':HO):Ai K H (upd H a o'):=by
 refine⟨fun b xs q=>?_,fun b ns q=>?_,fun b ob q=>by rw[aQ (fun z=>by subst z;rw[q]at h;cases h;exact nc _ rfl)];exact q⟩
 ·rcases q with(q|⟨ob,q⟩)|q
  ·have n:b≠a:=fun z=>by subst z;rw[q]at h;cases h;exact nt _ rfl
   exact .inl (.inl (by rw[aQ n];exact q))
  ·have n:b≠a:=fun z=>by subst z;rw[q]at h;cases h;exact nf _ _ rfl
   exact .inl (.inr ⟨ob,by rw[aQ n];exact q⟩)
  ·exact .inr q
 ·rcases q with⟨ob,q⟩|q
  ·have n:b≠a:=fun z=>by subst z;rw[q]at h;cases h;exact nl _ _ rfl
   exact .inl ⟨ob,by rw[aQ n];exact q⟩
  ·exact .inr q
theorem cq(s:si H H'):Ai K H H':=by
 refine⟨fun b xs q=>?_,fun b ns q=>?_,fun b ob q=>s _ _ q⟩
 ·rcases q with(q|⟨ob,q⟩)|q
  ·exact .inl (.inl (s _ _ q))
  ·exact .inl (.inr ⟨ob,s _ _ q⟩)
  ·exact .inr q
 ·rcases q with⟨ob,q⟩|q
  ·exact .inl ⟨ob,s _ _ q⟩
  ·exact .inr q
theorem bp(h:H q=none)(o':HO):Ai K H (upd H q o'):=cq (fE h o')
end
abbrev NK:=List (List Int)
def hNK(ks:NK):Int:=reduceHash (Builtin.Tuple.tupleHashOf (ks.map fun k=>reduceHash (Builtin.Tuple.tupleHashOf (k.map hashInt))))
abbrev KN:List ((NK×Addr)×V)->List (NK×Addr×Value)->Prop:=Paired fun p q=>p.1.1=q.1/\p.1.2=q.2.1/\bR p.2 q.2.2
def dNo(a:Addr)(kvs:List ((NK×Addr)×V)):HO:=.ext fun h=>kvs.length<=sizeLine/\(a == sysModules)=false/\∃xs,KN kvs xs/\
 ∃o es ep,h.get? a=some o/\o.ExactDict/\o.data=.dict es ep/\es.toList=(xs.map fun x=>(⟨hNK x.1,.ref x.2.1,x.2.2⟩:DictEntry))/\(xs.map (·.1)).Nodup
def GZ(K:Q5)(H:Hp)(b:Addr)(k:NK):Prop:=∃cs:List Addr,SqT K H b (cs.map V.ref)/\Paired (fun(l:List Int) c=>SqT K H c (l.map V.int)) k cs
theorem GZ.mono{K:Q5}{H H':Hp}{b:Addr}{k:NK}(e:Ai K H H')(h:GZ K H b k):GZ K H' b k:=let ⟨cs,p,q⟩:=h;⟨cs,e.t _ _ p,Paired.mapP q fun _ _ z=>e.t _ _ z⟩
def nP(kvs:List ((NK×Addr)×V)):List (NK×V):=kvs.map fun p=>(p.1.1,p.2)
def IsP{κ:Type}(K:Q5)(m:List Addr)(H:Hp)(kvs:List (κ×V))(kus:List (κ×U)):Prop:=kvs.map (·.1)=kus.map (·.1)/\IsL K m H (kvs.map (·.2)) (kus.map (·.2))
def Rf(K:Q5)(m:List Addr)(H:Hp):Option V->Option U->Prop
 |some v,some u=>Is K m H v u
 |none,none=>True
 |_,_=>False
structure InF(K:Q5)(m:List Addr)(H:Hp)(c:Cl)(fs:List (Str×V))(fus:List (Option U)):Prop where
 nd:c.ns.Nodup
 few:c.ns.length<1000
 knd:(fs.map (·.1)).Nodup
 sub:∀x∈fs.map (·.1),x∈c.ns
 len:fus.length=c.ns.length
 at_:∀(i:Nat) (x:Str),c.ns[i]?=some x->Rf K m H (fs.lookup x) ((fus[i]?).join)
theorem Rf.mono{K:Q5}{m m':List Addr}{H H':Hp}{v:Option V}{u:Option U}(e:Ext K m H m' H')(h:Rf K m H v u):Rf K m' H' v u:=by
 cases v with
 |none=>cases u with
  |none=>trivial
  |some u=>exact h.elim
 |some v=>cases u with
  |none=>exact h.elim
  |some u=>exact Is.mono e h
theorem InF.mono{K:Q5}{m m':List Addr}{H H':Hp}{c:Cl}{fs:List (Str×V)}{fus:List (Option U)}(e:Ext K m H m' H')(h:InF K m H c fs fus):InF K m' H' c fs fus:=⟨h.nd,h.few,h.knd,h.sub,h.len,fun i x q=>(h.at_ i x q).mono e⟩
def Af(H:Hp)(pos:Pos)(q:Str)(ps:Array Value):Prop:=TriplesOk ps.toList/\(codeAmong pos ps.toList=none\/∃c ob vs t,codeAmong pos ps.toList=some (.ref c)/\H c=some (.frz ob (.own 0))/\ob.data=.fields vs/\vs[1]?=some (.str q t))
theorem Af.mono{K:Q5}{H H':Hp}{pos:Pos}{q:Str}{ps:Array Value}(e:Ai K H H')(h:Af H pos q ps):Af H' pos q ps:=⟨h.1,h.2.imp id fun⟨c,ob,vs,t,h1,h2,h3⟩=>⟨c,ob,vs,t,h1,e.c _ _ h2,h3⟩⟩
def Ob(K:Q5)(m:List Addr)(H:Hp)(a:Addr):O->Prop
 |.lst us=>∃xs,H a=some (.lst xs)/\IsL K m H xs us
 |.dic kus=>∃kvs,H a=some (.dK kvs)/\IsP K m H kvs kus
 |.ins c fus=>∃dx fs,H a=some (.ins c.C dx fs)/\InF K m H c fs fus
 |.fdc ep kus=>∃ob es kvs,H a=some (.frz ob (.dK kvs))/\ob.data=.dict es ep/\IsP K m H kvs kus
 |.dit kus=>∃kvs,H a=some (.dT kvs)/\IsP K m H kvs kus
 |.fdt ep kus=>∃ob es kvs,H a=some (.frz ob (.dT kvs))/\ob.data=.dict es ep/\IsP K m H kvs kus
 |.dnt kus=>∃kvs,H a=some (dNo a kvs)/\(∀p∈kvs,GZ K H p.1.2 p.1.1)/\IsP K m H (nP kvs) kus
 |.fdn ep kus=>∃ob es kvs,H a=some (.frz ob (dNo a kvs))/\ob.data=.dict es ep/\(∀p∈kvs,GZ K H p.1.2 p.1.1)/\IsP K m H (nP kvs) kus
 |.cod p pos q=>a=p/\∃ps,H a=some (.tbl ps)/\Af H pos q ps
structure Sr(K:Q5)(m:List Addr)(S:Sto)(H:Hp):Prop where
 len:m.length=S.length
 nd:m.Nodup
 ob:∀(l:Nat) (a:Addr) (o:O),m[l]?=some a->S[l]?=some o->Ob K m H a o
structure Lr(K:Q5)(m:List Addr)(H:Hp)(ρ:Rho)(σ:L2.St):Prop where
 len:ρ.length=σ.length
 at_:∀(i:Nat) (u:U),ρ[i]?=some (some u)->∃v,σ[i]?=some (some v)/\Is K m H v u
variable{S:Sto}{ρ:Rho}{σ:L2.St}{l:Nat}
section
variable{κ:Type}{o:O}{ho:HO}{kvs:List (κ×V)}{kus:List (κ×U)}
theorem IsP.mono(e:Ext K m H m' H')(h:IsP K m H kvs kus):IsP K m' H' kvs kus:=⟨h.1,h.2.mono e⟩
theorem IsP.length(h:IsP K m H kvs kus):kvs.length=kus.length:=by have:=h.2.length;simpa using this
theorem IsP.nil_:IsP (κ:=κ) K m H [] []:=⟨rfl,.nil_⟩
theorem IsP.cons_{k:κ}(h:Is K m H v u)(t:IsP K m H kvs kus):IsP K m H ((k,v)::kvs) ((k,u)::kus):=⟨by simp[t.1],.cons_ h t.2⟩
theorem IsP.ind{P:List (κ×V)->List (κ×U)->Prop}(h0:P [] [])(h1:∀k v u kvs kus,Is K m H v u->IsP K m H kvs kus->P kvs kus->P ((k,v)::kvs) ((k,u)::kus)):∀{kvs:List (κ×V)} {kus:List (κ×U)},IsP K m H kvs kus->P kvs kus
 |[],[],_=>h0
 |[],p::r,h=>by have:=h.length;simp at this
 |p::r,[],h=>by have:=h.length;simp at this
 |(k,v)::r,(k',u)::r',h=>by
  obtain⟨e,i⟩:=h;simp only[Qx,List.cons.injEq]at e;obtain⟨e1,e2⟩:=e;subst e1;obtain⟨x,t,e3,iu,it⟩:=i.of_cons;cases e3;exact h1 k v u r r' iu ⟨e2,it⟩ (IsP.ind h0 h1 (⟨e2,it⟩:IsP K m H r r'))
theorem Ob.mono(e:Ext K m H m' H')(h1:H' a=H a)(h:Ob K m H a o):Ob K m' H' a o:=by
 cases o with
 |lst us=>obtain⟨xs,k,i⟩:=h;exact⟨xs,h1.trans k,i.mono e⟩
 |dic kus=>obtain⟨xs,k,i⟩:=h;exact⟨xs,h1.trans k,i.mono e⟩
 |ins C fus=>obtain⟨dx,fs,k,i⟩:=h;exact⟨dx,fs,h1.trans k,i.mono e⟩
 |fdc ep kus=>obtain⟨ob,es,kvs,k,d,i⟩:=h;exact⟨ob,es,kvs,h1.trans k,d,i.mono e⟩
 |dit kus=>obtain⟨xs,k,i⟩:=h;exact⟨xs,h1.trans k,i.mono e⟩
 |fdt ep kus=>obtain⟨ob,es,kvs,k,d,i⟩:=h;exact⟨ob,es,kvs,h1.trans k,d,i.mono e⟩
 |dnt kus=>obtain⟨kvs,k,y,i⟩:=h;exact⟨kvs,h1.trans k,fun p hp=>(y p hp).mono e.keep,i.mono e⟩
 |fdn ep kus=>obtain⟨ob,es,kvs,k,d,y,i⟩:=h;exact⟨ob,es,kvs,h1.trans k,d,fun p hp=>(y p hp).mono e.keep,i.mono e⟩
 |cod p pos q=>obtain⟨z,ps,k,i⟩:=h;exact⟨z,ps,h1.trans k,i.mono e.keep⟩
theorem Ob.some(h:Ob K m H a o):∃ho,H a=some ho/\(∀xs,ho≠.tup xs)/\(∀ob xs,ho≠.frz ob (.tup xs))/\(∀ob xs,ho≠.frz ob (.lst xs))/\(∀ob,ho≠.frz ob (.own 0)):=by
 cases o with
 |lst us=>obtain⟨xs,k,i⟩:=h;exact⟨_,k,by simp,by simp,by simp,by simp⟩
 |dic kus=>obtain⟨xs,k,i⟩:=h;exact⟨_,k,by simp,by simp,by simp,by simp⟩
 |ins C fus=>obtain⟨dx,fs,k,i⟩:=h;exact⟨_,k,by simp,by simp,by simp,by simp⟩
 |fdc ep kus=>obtain⟨ob,es,kvs,k,d,i⟩:=h;exact⟨_,k,by simp,by simp,by simp,by simp⟩
 |dit kus=>obtain⟨xs,k,i⟩:=h;exact⟨_,k,by simp,by simp,by simp,by simp⟩
 |fdt ep kus=>obtain⟨ob,es,kvs,k,d,i⟩:=h;exact⟨_,k,by simp,by simp,by simp,by simp⟩
 |dnt kus=>obtain⟨kvs,k,y,i⟩:=h;exact⟨_,k,by simp[dNo],by simp[dNo],by simp[dNo],by simp[dNo]⟩
 |fdn ep kus=>obtain⟨ob,es,kvs,k,d,y,i⟩:=h;exact⟨_,k,by simp,by simp[dNo],by simp[dNo],by simp[dNo]⟩
 |cod p pos q=>obtain⟨z,ps,k,i⟩:=h;exact⟨_,k,by simp,by simp,by simp,by simp⟩
theorem Lr.mono(e:Ext K m H m' H')(h:Lr K m H ρ σ):Lr K m' H' ρ σ:=⟨h.len,fun i u e1=>let ⟨v,e2,e3⟩:=h.at_ i u e1;⟨v,e2,e3.mono e⟩⟩
theorem Lr.set(h:Lr K m H ρ σ)(i:Nat)(hv:Is K m H v u):Lr K m H (ρ.set i (some u)) (σ.set i (some v)):=by
 refine⟨by simp[h.len],fun j w e=>?_⟩;by_cases c:i=j
 ·subst c;rw[List.getElem?_set_self' ]at e;rw[List.getElem?_set_self'];have hl:=h.len;cases e1:ρ[i]? with
  |none=>rw[e1]at e;simp at e
  |some z=>
   rw[e1]at e;simp at e;subst e;have:i < σ.length:=by rw[<-hl];exact(Q7.mp e1).1
   rw[Q4 this];exact⟨v,rfl,hv⟩
 ·rw[Qa c]at e;rw[Qa c];exact h.at_ j w e
theorem Sr.get(r:Sr K m S H)(h:S[l]?=some o):∃a,m[l]?=some a/\Ob K m H a o:=by
 have hl:l<m.length:=by rw[r.len];exact(Q7.mp h).1
 exact⟨_,Q4 hl,r.ob _ _ _ (Q4 hl) h⟩
theorem Sr.at_(r:Sr K m S H)(h:m[l]?=some a):∃o,S[l]?=some o/\Ob K m H a o:=by
 have hl:l<S.length:=by rw[<-r.len];exact(Q7.mp h).1
 exact⟨_,Q4 hl,r.ob _ _ _ h (Q4 hl)⟩
theorem Sr.same(r:Sr K m S H)(s:si H H'):Sr K m S H':=⟨r.len,r.nd,fun l a o h1 h2=>by
 have q:=r.ob l a o h1 h2;obtain⟨ho,e,_⟩:=q.some;exact q.mono (.of (cq s)) (by rw[s _ _ e,e])⟩
theorem Sr.new(r:Sr K m S H)(h:H q=none)(n:Ob K (m++[q]) (upd H q ho) q o):Sr K (m++[q]) (S++[o]) (upd H q ho):=by
 have hq:q∉m:=fun z=>by
  obtain⟨l,e⟩:=Ze z;obtain⟨o,_,k⟩:=r.at_ e;obtain⟨ho,e2,_⟩:=k.some;rw[h]at e2;cases e2
 refine⟨by simp[r.len],?_,fun l a o' h1 h2=>?_⟩
 ·rw[XS];exact⟨r.nd,by simp,fun x hx y hy z=>by simp at hy;subst hy;subst z;exact hq hx⟩
 ·by_cases c:l<m.length
  ·rw[QD c]at h1;rw[QD (by rw[<-r.len];exact c)]at h2;have q':=r.ob l a o' h1 h2;obtain⟨ho',e,_⟩:=q'.some;exact q'.mono (.new (bp h _)) (by rw[aQ (b6 e h)])
  ·have e:l=m.length:=by
    have:=(Q7.mp h1).1;simp at this;omega
   subst e;rw[QK (QJ _)]at h1;rw[QK (by rw[r.len];exact QJ _)]at h2;simp[r.len]at h1 h2;subst h1;subst h2;exact n
theorem Sr.put(r:Sr K m S H)(h:m[l]?=some a)(n:Ob K m (upd H a ho) a o):Sr K m (S.set l o) (upd H a ho):=by
 obtain⟨o0,h0,k0⟩:=r.at_ h;obtain⟨ho',e,nt,nf,nl,nc⟩:=k0.some;refine⟨by simp[r.len],r.nd,fun l' a' o' h1 h2=>?_⟩;by_cases c:l=l'
 ·subst c;rw[h]at h1;cases h1;rw[List.getElem?_set_self (Q7.mp h0).1]at h2;cases h2;exact n
 ·rw[Qa c]at h2;have na:a'≠a:=fun z=>by
   subst z;obtain⟨p1,e1⟩:=Q7.mp h;obtain⟨p2,e2⟩:=Q7.mp h1;exact c ((List.getElem_inj r.nd).mp (e1.trans e2.symm))
  exact(r.ob l' a' o' h1 h2).mono (.of (rC e nt nf nl nc _)) (by rw[aQ na])
theorem Sr.keep(r:Sr K m S H)(h:m[l]?=some a)(ho:HO):Ai K H (upd H a ho):=by
 obtain⟨o0,h0,k0⟩:=r.at_ h;obtain⟨ho',e,nt,nf,nl,nc⟩:=k0.some;exact rC e nt nf nl nc _
end
def iK(K:Q5)(m:List Addr)(H:Hp)(Q:VK)(u:U)(S':Sto):Prop:=∀m' v H',Ext K m H m' H'->Sr K m' S' H'->Is K m' H' v u->Q v H'
abbrev CE:=Rho->Sto->Option (U×Sto)
abbrev CT:=Rho->Sto->Option (Bool×Sto)
abbrev CA:=Rho->Sto->Option (List U×Sto)
inductive Out where
 |nx|rt (u:U)|bk|ct
abbrev CS:=Rho->Sto->Option (Out×Rho×Sto)
def Ah(K:Q5)(m:List Addr)(H:Hp)(Q:Bool->Hp->Prop)(b:Bool)(S':Sto):Prop:=∀m' H',Ext K m H m' H'->Sr K m' S' H'->Q b H'
def Jp(K:Q5)(m:List Addr)(H:Hp)(Q:List V->Hp->Prop)(us:List U)(S':Sto):Prop:=∀m' vs H',Ext K m H m' H'->Sr K m' S' H'->IsL K m' H' vs us->Q vs H'
def fQ(K:Q5)(m:List Addr)(H:Hp)(Q:L2.St->Hp->Prop)(ρ':Rho)(S':Sto):Prop:=∀m' σ' H',Ext K m H m' H'->Sr K m' S' H'->Lr K m' H' ρ' σ'->Q σ' H'
def tP(K:Q5)(m:List Addr)(H:Hp)(D:Bc):Out->Rho->Sto->Prop
 |.nx,ρ',S'=>fQ K m H D.nx ρ' S'
 |.bk,ρ',S'=>fQ K m H D.bk ρ' S'
 |.ct,ρ',S'=>fQ K m H D.ct ρ' S'
 |.rt u,_,S'=>iK K m H D.rt u S'
theorem iF{α β γ δ ε:Type}{A B C D:α->β->γ->δ->ε->Prop}{p:Prop}(h:∃a b c d e,A a b c d e/\B a b c d e/\C a b c d e/\D a b c d e)(f:∀a b c d e,A a b c d e->B a b c d e->C a b c d e->D a b c d e->p):p:=by
 obtain⟨a,b,c,d,e,h1,h2,h3,h4⟩:=h;exact f a b c d e h1 h2 h3 h4
theorem tR{α β γ δ ε ζ:Type}{A B C D:α->β->γ->δ->ε->ζ->Prop}{p:Prop}(h:∃a b c d e g,A a b c d e g/\B a b c d e g/\C a b c d e g/\D a b c d e g)(f:∀a b c d e g,A a b c d e g->B a b c d e g->C a b c d e g->D a b c d e g->p):p:=by
 obtain⟨a,b,c,d,e,g,h1,h2,h3,h4⟩:=h;exact f a b c d e g h1 h2 h3 h4
theorem JV{α β γ δ ε ζ:Type}{A B C D E:α->β->γ->δ->ε->ζ->Prop}{p:Prop}(h:∃a b c d e g,A a b c d e g/\B a b c d e g/\C a b c d e g/\D a b c d e g/\E a b c d e g)(f:∀a b c d e g,A a b c d e g->B a b c d e g->C a b c d e g->D a b c d e g->E a b c d e g->p):p:=by
 obtain⟨a,b,c,d,e,g,h1,h2,h3,h4,h5⟩:=h;exact f a b c d e g h1 h2 h3 h4 h5
def tE(K:Q5)(c:CE):TE:=fun σ H Q=>∃m ρ S u S',Sr K m S H/\Lr K m H ρ σ/\c ρ S=some (u,S')/\iK K m H Q u S'
def tT(K:Q5)(c:CT):TT:=fun σ H Q=>∃m ρ S u S',Sr K m S H/\Lr K m H ρ σ/\c ρ S=some (u,S')/\Ah K m H Q u S'
def tA(K:Q5)(c:CA):TA:=fun σ H Q=>∃m ρ S u S',Sr K m S H/\Lr K m H ρ σ/\c ρ S=some (u,S')/\Jp K m H Q u S'
def tS(K:Q5)(c:CS):TS:=fun D σ H=>∃m ρ S o ρ' S',Sr K m S H/\Lr K m H ρ σ/\c ρ S=some (o,ρ',S')/\tP K m H D o ρ' S'
abbrev QE(X:Cx)(e:Expr)(c:CE):Prop:=WE X e (tE X.K c)
abbrev QT(X:Cx)(e:Expr)(c:CT):Prop:=WT X e (tT X.K c)
abbrev QW(X:Cx)(e:Expr)(c:CT):Prop:=WW X e (tT X.K c)
abbrev QS(X:Cx)(e:Stmt)(c:CS):Prop:=WS X e (tS X.K c)
abbrev QSs(X:Cx)(e:List Stmt)(c:CS):Prop:=WSs X e (tS X.K c)
structure QA(X:Cx)(es:List Expr)(c:CA):Prop where
 h:WA X es (tA X.K c)
 len:∀ρ S us S',c ρ S=some (us,S')->us.length=es.length
variable{X:Cx}{e:Expr}{es:List Expr}{st:Stmt}{sts:List Stmt}
theorem _root_.OG.WE.imp{t t':TE}(h:WE X e t)(i:∀σ H Q,t' σ H Q->t σ H Q):WE X e t':=⟨fun pins s σ H Q I k=>h.h pins s σ H Q I (i σ H Q k)⟩
theorem _root_.OG.WT.imp{t t':TT}(h:WT X e t)(i:∀σ H Q,t' σ H Q->t σ H Q):WT X e t':=⟨fun pins s σ H Q I k=>h.h pins s σ H Q I (i σ H Q k)⟩
theorem _root_.OG.WW.imp{t t':TT}(h:WW X e t)(i:∀σ H Q,t' σ H Q->t σ H Q):WW X e t':=⟨fun wh pins s σ H Q I k=>h.h wh pins s σ H Q I (i σ H Q k)⟩
theorem _root_.OG.WA.imp{t t':TA}(h:WA X es t)(i:∀σ H Q,t' σ H Q->t σ H Q):WA X es t':=⟨fun pos pins s σ H Q I k=>h.h pos pins s σ H Q I (i σ H Q k)⟩
theorem _root_.OG.WS.imp{t t':TS}(h:WS X st t)(i:∀D σ H,t' D σ H->t D σ H):WS X st t':=⟨fun pins s σ H D I k=>h.h pins s σ H D I (i D σ H k)⟩
theorem _root_.OG.WSs.imp{t t':TS}(h:WSs X sts t)(i:∀D σ H,t' D σ H->t D σ H):WSs X sts t':=⟨fun pins s σ H D I k=>h.h pins s σ H D I (i D σ H k)⟩
theorem _root_.OG.WI.imp{tg:Expr}{t t':TI}(h:WI X tg e t)(i:∀σ H R,t' σ H R->t σ H R):WI X tg e t':=⟨fun pins s σ H R I k=>h.h pins s σ H R I (i σ H R k)⟩
theorem _root_.OG.WG.imp{t t':TG}(h:WG X e t)(i:∀v σ H Q,t' v σ H Q->t v σ H Q):WG X e t':=⟨fun pins s σ H v u Q I r k=>h.h pins s σ H v u Q I r (i v σ H Q k)⟩
theorem _root_.OG.WGs.imp{t t':TGs}(h:WGs X es t)(i:∀v σ H Q,t' v σ H Q->t v σ H Q):WGs X es t':=⟨fun pins s σ H v u Q I r k=>h.h pins s σ H v u Q I r (i v σ H Q k)⟩
theorem _root_.OG.WE.or{t t':TE}(h:WE X e t)(h':WE X e t'):WE X e (fun σ H Q=>t σ H Q\/t' σ H Q):=⟨fun pins s σ H Q I k=>k.elim (h.h pins s σ H Q I) (h'.h pins s σ H Q I)⟩
theorem _root_.OG.WT.or{t t':TT}(h:WT X e t)(h':WT X e t'):WT X e (fun σ H Q=>t σ H Q\/t' σ H Q):=⟨fun pins s σ H Q I k=>k.elim (h.h pins s σ H Q I) (h'.h pins s σ H Q I)⟩
theorem _root_.OG.WS.or{t t':TS}(h:WS X st t)(h':WS X st t'):WS X st (fun D σ H=>t D σ H\/t' D σ H):=⟨fun pins s σ H D I k=>k.elim (h.h pins s σ H D I) (h'.h pins s σ H D I)⟩
theorem _root_.OG.WI.or{tg:Expr}{t t':TI}(h:WI X tg e t)(h':WI X tg e t'):WI X tg e (fun σ H D=>t σ H D\/t' σ H D):=⟨fun pins s σ H D I k=>k.elim (h.h pins s σ H D I) (h'.h pins s σ H D I)⟩
section
variable{Q:VK}{R:L2.St->Hp->Prop}{D:Bc}{o:Out}{S':Sto}{ρ':Rho}
theorem iK.mono(e:Ext K m H m' H')(p:iK K m H Q u S'):iK K m' H' Q u S':=fun m2 v H2 e2 r i=>p m2 v H2 (e.trans e2) r i
theorem Ah.mono{Q:Bool->Hp->Prop}{b:Bool}(e:Ext K m H m' H')(p:Ah K m H Q b S'):Ah K m' H' Q b S':=fun m2 H2 e2 r=>p m2 H2 (e.trans e2) r
theorem fQ.mono(e:Ext K m H m' H')(p:fQ K m H R ρ' S'):fQ K m' H' R ρ' S':=fun m2 v H2 e2 r i=>p m2 v H2 (e.trans e2) r i
theorem tP.mono(e:Ext K m H m' H')(p:tP K m H D o ρ' S'):tP K m' H' D o ρ' S':=by
 cases o with
 |nx=>exact fQ.mono e p
 |rt u=>exact iK.mono e p
 |bk=>exact fQ.mono e p
 |ct=>exact fQ.mono e p
end
noncomputable def LIM:Nat:=100000
theorem lim{n:Nat}(h:n<=LIM):n<=sizeLine:=Qu h (by unfold LIM sizeLine;decide)
theorem F9{n:Nat}(h:n<LIM):n<sizeLine:=Qw h (by unfold LIM sizeLine;decide)
def au(i:Nat):CE:=fun ρ S=>match ρ[i]? with
 |some (some u)=>some (u,S)
 |_=>none
def cC(u:U):CE:=fun _ S=>some (u,S)
variable{b c:Expr}{ca cb:CE}{pos:Pos}{ta tb:CT}{cr:CA}
section
variable{a:Expr}
theorem ah{i:Nat}(h:WE X e (Ha i)):QE X e (au i):=h.imp fun σ H Q hz=>iF hz fun m ρ S u S' sr lr hc post=>by
 unfold au at hc;split at hc
 ·rename_i u' e;cases hc;obtain⟨v,e1,e2⟩:=lr.at_ i u e;exact⟨v,e1,post m v H .refl sr e2⟩
 ·cases hc
theorem q_c{v:V}{u:U}(h:WE X e (tC v))(hi:∀m H,Is X.K m H v u):QE X e (cC u):=h.imp fun σ H Q hz=>iF hz fun m ρ S u' S' sr lr hc post=>by
 cases hc;exact post m v H .refl sr (hi m H)
theorem aD{i:Int}(h:WE X e (tC (.int i))):QE X e (cC (.int i)):=q_c h fun _ _=>.int_
theorem AF{i:Bool}(h:WE X e (tC (.bl i))):QE X e (cC (.bl i)):=q_c h fun _ _=>.bl_
theorem pH{i:Str}(h:WE X e (tC (.str i))):QE X e (cC (.str i)):=q_c h fun _ _=>.str_
def cOp(f:U->U->Sto->Option (U×Sto))(ca cb:CE):CE:=fun ρ S=>(ca ρ S).bind fun p=>(cb ρ p.2).bind fun q=>f p.1 q.1 q.2
def OpP(K:Q5)(r:R2)(f:U->U->Sto->Option (U×Sto)):Prop:=
 ∀m S H x y v w u S' Q,Sr K m S H->Is K m H v x->Is K m H w y->f x y S=some (u,S')->iK K m H Q u S'->r v w H Q
theorem vA{K:Q5}{r:R2}{f:U->U->Sto->Option (U×Sto)}(hp:OpP K r f):∀σ H Q,tE K (cOp f ca cb) σ H Q->tOp r (tE K ca) (tE K cb) σ H Q:=by
 rintro σ H Q ⟨m,ρ,S,u,S',sr,lr,hc,post⟩;obtain⟨⟨x,S1⟩,h1,h⟩:=Q2.mp hc;obtain⟨⟨y,S2⟩,h2,h3⟩:=Q2.mp h;exact⟨m,ρ,S,x,S1,sr,lr,h1,fun m1 v1 H1 e1 sr1 i1=>⟨m1,ρ,S1,y,S2,sr1,lr.mono e1,h2,fun m2 v2 H2 e2 sr2 i2=>hp m2 S2 H2 x y v1 v2 u S' Q sr2 (i1.mono e2) i2 h3 (post.mono (e1.trans e2))⟩⟩
theorem d5{op:Operator}{r:R2}{f:U->U->Sto->Option (U×Sto)}(ho:OpR X (binaryOp op) r)(hp:OpP X.K r f)(ha:QE X a ca)(hb:QE X b cb):QE X (.BinOp a op b pos) (cOp f ca cb):=(EK ho ha hb).imp (vA hp)
theorem sS{op:CmpOp}{r:R2}{f:U->U->Sto->Option (U×Sto)}(ho:OpR X (compareOp op) r)(hp:OpP X.K r f)(ha:QE X a ca)(hb:QE X b cb)(hm:behindInMarks op b=false):QE X (.Compare a [op] [b] pos) (cOp f ca cb):=(qu ho ha hb hm).imp (vA hp)
def aN(c:CE):CT:=fun ρ S=>(c ρ S).bind fun p=>match p.1 with
 |.bl b=>some (b,p.2)
 |_=>none
theorem jq{K:Q5}{c:CE}{t:TE}(h:∀σ H Q,tE K c σ H Q->t σ H Q):∀σ H Q,tT K (aN c) σ H Q->t σ H fun x H'=>∃k,x=.bl k/\Q k H':=by
 rintro σ H Q ⟨m,ρ,S,u,S',sr,lr,hc,post⟩;obtain⟨⟨x,S1⟩,h1,h2⟩:=Q2.mp hc;refine h σ H _ ⟨m,ρ,S,x,S1,sr,lr,h1,fun m1 v1 H1 e1 sr1 i1=>?_⟩;cases x<;>simp at h2;obtain⟨rfl,rfl⟩:=h2;exact⟨_,i1.of_bl,post m1 H1 e1 sr1⟩
theorem bu{op:CmpOp}{r:R2}{f:U->U->Sto->Option (U×Sto)}(ho:OpR X (compareOp op) r)(hp:OpP X.K r f)(ha:QE X a ca)(hb:QE X b cb)(hm:behindInMarks op b=false):QT X (.Compare a [op] [b] pos) (aN (cOp f ca cb)):=(lL ho ha hb hm).imp (jq (vA hp))
theorem kR(h:QE X e ca)(he:∀whole,isTrue e X.env whole=(do let v <-whole;standAt e.pos;holding [v] (truthy v)):=by intro _;rfl):QT X e (aN ca):=(BG h he).imp (jq fun _ _ _ z=>z)
variable{rest:List Expr}
def Hj(ta tb:CT):CT:=fun ρ S=>(ta ρ S).bind fun p=>if p.1=true then tb ρ p.2 else some (false,p.2)
def cOr(ta tb:CT):CT:=fun ρ S=>(ta ρ S).bind fun p=>if p.1=true then some (true,p.2)else tb ρ p.2
def DN(ta:CT):CT:=fun ρ S=>(ta ρ S).bind fun p=>some (!p.1,p.2)
theorem Cp(h:QW X e ta):QT X e ta:=WW.pt h
theorem AH(ha:QT X a ta):QW X (.BoolOp .And [a] pos) ta:=xU ha
theorem u7(ha:QT X a ta):QW X (.BoolOp .Or [a] pos) ta:=BE ha
theorem Fl(ha:QT X a ta)(hb:QW X (.BoolOp .And (b::rest) pos) tb):QW X (.BoolOp .And (a::b::rest) pos) (Hj ta tb):=(BF ha hb).imp fun σ H Q hz=>iF hz fun m ρ S u S' sr lr hc post=>by
 obtain⟨⟨x,S1⟩,h1,h2⟩:=Q2.mp hc;refine⟨m,ρ,S,x,S1,sr,lr,h1,fun m1 H1 e1 sr1=>?_⟩;cases x with
 |true=>exact Gr ⟨m1,ρ,S1,u,S',sr1,lr.mono e1,h2,post.mono e1⟩
 |false=>cases h2;exact Gs (post m1 H1 e1 sr1)
theorem D0(ha:QT X a ta)(hb:QW X (.BoolOp .Or (b::rest) pos) tb):QW X (.BoolOp .Or (a::b::rest) pos) (cOr ta tb):=(EH ha hb).imp fun σ H Q hz=>iF hz fun m ρ S u S' sr lr hc post=>by
 obtain⟨⟨x,S1⟩,h1,h2⟩:=Q2.mp hc;refine⟨m,ρ,S,x,S1,sr,lr,h1,fun m1 H1 e1 sr1=>?_⟩;cases x with
 |true=>cases h2;exact Gr (post m1 H1 e1 sr1)
 |false=>exact Gs ⟨m1,ρ,S1,u,S',sr1,lr.mono e1,h2,post.mono e1⟩
theorem nJ(ha:QT X a ta):QT X (.UnaryOp .Not a pos) (DN ta):=(BH ha).imp fun σ H Q hz=>iF hz fun m ρ S u S' sr lr hc post=>by
 obtain⟨⟨x,S1⟩,h1,h2⟩:=Q2.mp hc;cases h2;exact⟨m,ρ,S,x,_,sr,lr,h1,fun m1 H1 e1 sr1=>post m1 H1 e1 sr1⟩
def xf(ca cb:CE):CE:=fun ρ S=>(ca ρ S).bind fun p=>match p.1 with
 |.bl true=>cb ρ p.2
 |.bl false=>some (.bl false,p.2)
 |_=>none
def zU(ca:CE):CE:=fun ρ S=>(ca ρ S).bind fun p=>match p.1 with
 |.bl b=>some (.bl (!b),p.2)
 |_=>none
theorem Fh{op}(h:QE X a ca):QE X (.BoolOp op [a] pos) ca:=BP h
theorem AG(ha:QE X a ca)(hb:QE X (.BoolOp .And (b::rest) pos) cb):QE X (.BoolOp .And (a::b::rest) pos) (xf ca cb):=(BV ha hb).imp fun σ H Q hz=>iF hz fun m ρ S u S' sr lr hc post=>by
 obtain⟨⟨x,S1⟩,h1,h2⟩:=Q2.mp hc;refine⟨m,ρ,S,x,S1,sr,lr,h1,fun m1 v1 H1 e1 sr1 i1=>?_⟩;cases x with
 |bl k=>
  refine⟨k,i1.of_bl,?_⟩;cases k with
  |true=>exact Gr ⟨m1,ρ,S1,u,S',sr1,lr.mono e1,h2,post.mono e1⟩
  |false=>cases h2;exact Gs (post m1 _ H1 e1 sr1 .bl_)
 |_=>simp at h2
theorem Fi(ha:QE X a ca):QE X (.UnaryOp .Not a pos) (zU ca):=(BQ ha).imp fun σ H Q hz=>iF hz fun m ρ S u S' sr lr hc post=>by
 obtain⟨⟨x,S1⟩,h1,h2⟩:=Q2.mp hc;refine⟨m,ρ,S,x,S1,sr,lr,h1,fun m1 v1 H1 e1 sr1 i1=>?_⟩;cases x with
 |bl k=>cases h2;exact⟨k,i1.of_bl,post m1 _ H1 e1 sr1 .bl_⟩
 |_=>simp at h2
def aB:CA:=fun _ S=>some ([],S)
def ag(ca:CE)(cr:CA):CA:=fun ρ S=>(ca ρ S).bind fun p=>(cr ρ p.2).bind fun q=>some (p.1::q.1,q.2)
theorem av:QA X [] aB:=⟨eQ.imp fun σ H Q hz=>iF hz fun m ρ S u S' sr lr hc post=>by cases hc;exact post m [] H .refl sr .nil_,fun ρ S us S' h=>by cases h;rfl⟩
theorem ae(ha:QE X e ca)(hr:QA X es cr)(hs:starEach (e::es) X.env=(false,eval e X.env)::starEach es X.env:=by rfl):QA X (e::es) (ag ca cr):=⟨(cK ha hr.h hs).imp fun σ H Q hz=>iF hz fun m ρ S u S' sr lr hc post=>by
 obtain⟨⟨x,S1⟩,h1,h⟩:=Q2.mp hc;obtain⟨⟨y,S2⟩,h2,h3⟩:=Q2.mp h;cases h3;exact⟨m,ρ,S,x,S1,sr,lr,h1,fun m1 v1 H1 e1 sr1 i1=>⟨m1,ρ,S1,y,S2,sr1,lr.mono e1,h2,fun m2 v2 H2 e2 sr2 i2=>post m2 _ H2 (e1.trans e2) sr2 (.cons_ (i1.mono e2) i2)⟩⟩,
 fun ρ S us S' h=>by
 obtain⟨⟨x,S1⟩,h1,h⟩:=Q2.mp h;obtain⟨⟨y,S2⟩,h2,h3⟩:=Q2.mp h;cases h3;simp[hr.len ρ S1 y S2 h2]⟩
def fk(cr:CA):CE:=fun ρ S=>(cr ρ S).bind fun p=>some (.tup p.1,p.2)
def ki(cr:CA):CE:=fun ρ S=>(cr ρ S).bind fun p=>some (.ref p.2.length,p.2++[.lst p.1])
theorem cm{m:List Addr}{S:Sto}{q:Addr}(h:m.length=S.length):(m++[q])[S.length]?=some q:=by rw[QK (by omega)];simp[h]
theorem jv{K:Q5}{m:List Addr}{H:Hp}{S:Sto}{us:List U}{xs:List V}{Q:VK}{p:Addr}(sr:Sr K m S H)(i:IsL K m H xs us)(post:iK K m H Q (.tup us) S)(hp:H p=none):Q (.ref p) (upd H p (.tup xs)):=
 post m _ _ (.of (bp hp _)) (sr.same (fE hp _)) (.tup_ (SqT.of aH) (i.mono (.of (bp hp _))))
theorem bA{K:Q5}{m:List Addr}{H:Hp}{S:Sto}{us:List U}{xs:List V}{Q:VK}{p:Addr}(sr:Sr K m S H)(i:IsL K m H xs us)(post:iK K m H Q (.ref S.length) (S++[.lst us]))(hp:H p=none):Q (.ref p) (upd H p (.lst xs)):=
 post (m++[p]) _ _ (.new (bp hp _)) (sr.new hp ⟨xs,aH,i.mono (.new (bp hp _))⟩) (.ref_ (cm sr.len))
theorem cg{x1}(h:QA X es cr)(hl:es.length<=1000:=by exact Nat.le_of_ble_eq_true rfl):QE X (.Tuple es x1 pos) (fk cr):=(uk h.h).imp fun σ H Q hz=>iF hz fun m ρ S u S' sr lr hc post=>by
 obtain⟨⟨us,S1⟩,h1,h2⟩:=Q2.mp hc;cases h2;refine⟨m,ρ,S,us,_,sr,lr,h1,fun m1 v1 H1 e1 sr1 i1=>⟨Aq ?_,fun p hp=>jv sr1 i1 (post.mono e1) hp⟩⟩;rw[i1.length,h.len _ _ _ _ h1];exact hl
theorem g6(h:QA X es cr)(hl:es.length<=1000:=by exact Nat.le_of_ble_eq_true rfl):QE X (.List es pos) (ki cr):=(BR h.h).imp fun σ H Q hz=>iF hz fun m ρ S u S' sr lr hc post=>by
 obtain⟨⟨us,S1⟩,h1,h2⟩:=Q2.mp hc;cases h2;refine⟨m,ρ,S,us,_,sr,lr,h1,fun m1 v1 H1 e1 sr1 i1=>⟨Aq ?_,fun p hp=>bA sr1 i1 (post.mono e1) hp⟩⟩;rw[i1.length,h.len _ _ _ _ h1];exact hl
def cCB(f:List U->Sto->Option (U×Sto))(cr:CA):CE:=fun ρ S=>(cr ρ S).bind fun p=>f p.1 p.2
def gJ(K:Q5)(r:List V->Hp->VK->Prop)(f:List U->Sto->Option (U×Sto)):Prop:=
 ∀m S H us vs u S' Q,Sr K m S H->IsL K m H vs us->f us S=some (u,S')->iK K m H Q u S'->r vs H Q
theorem A7{K:Q5}{r:List V->Hp->VK->Prop}{f:List U->Sto->Option (U×Sto)}(hp:gJ K r f):∀σ H Q,tE K (cCB f cr) σ H Q->tCB r (tA K cr) σ H Q:=by
 rintro σ H Q ⟨m,ρ,S,u,S',sr,lr,hc,post⟩;obtain⟨⟨us,S1⟩,h1,h2⟩:=Q2.mp hc;exact⟨m,ρ,S,us,S1,sr,lr,h1,fun m1 v1 H1 e1 sr1 i1=>hp m1 S1 H1 us v1 u S' Q sr1 i1 h2 (post.mono e1)⟩
theorem aP{id:String}{x:Str}{p:Pos}{r:List V->Hp->VK->Prop}{f:List U->Sto->Option (U×Sto)}(hc:bX X (.builtin id) r)(hp:gJ X.K r f)(hg:Gl X x)(hm:X.mg x=none)(hv:bootBuiltins x=some (.builtin id))(ha:QA X (e::es) cr)(hn:x≠"__name__":=by decide)(hdb:(x == ("__debug__":Str))=false:=by decide)(he:starEach (e::es) X.env=(false,eval e X.env)::starEach es X.env:=by rfl)(hpl:(backTo pos (starEach es X.env)).any (·.1)=false:=by rfl) :
  QE X (.Call (.Name x p) (e::es) [] pos) (cCB f cr):=(gK hc hg hm hv ha.h hn hdb he hpl).imp (A7 hp)
theorem bz{id:String}{x:Str}{p:Pos}{r:List V->Hp->VK->Prop}{f:List U->Sto->Option (U×Sto)}(hc:bX X (.type id) r)(hp:gJ X.K r f)(hg:Gl X x)(hm:X.mg x=none)(hv:bootBuiltins x=some (.type id))(ha:QA X (e::es) cr)(hn:x≠"__name__":=by decide)(hdb:(x == ("__debug__":Str))=false:=by decide)(he:starEach (e::es) X.env=(false,eval e X.env)::starEach es X.env:=by rfl)(hpl:(backTo pos (starEach es X.env)).any (·.1)=false:=by rfl) :
  QE X (.Call (.Name x p) (e::es) [] pos) (cCB f cr):=(iM hc hg hm hv ha.h hn hdb he hpl).imp (A7 hp)
end
def Hc(K:Q5)(f:List U->Sto->Option (U×Sto)):Sp:=fun vs H Q _=>∃m us S u S',IsL K m H vs us/\Sr K m S H/\f us S=some (u,S')/\iK K m H Q u S'
abbrev Fn:=List U->Sto->Option (U×Sto)
abbrev gG(P:Program)(w:World)(K:Q5)(mg:Str->Option Value)(base:Heap)(x:Str)(k:Nat)(ps:List Str)(f:Fn):Prop:=Has P w K mg base x k ps (Hc K f)
noncomputable def nA(n:Nat)(us:List U):Rho:=us.map some++Za (n-us.length) none
def fnU(n k:Nat)(c:CS):Fn:=fun us S=>if us.length=k then(c (nA n us) S).bind fun r=>match r.1 with
 |.rt u=>some (u,r.2.2)
 |.nx=>some (.non,r.2.2)
 |_=>none else none
variable{w:World}
section
variable{P:Program}{mg:Str->Option Value}{base:Heap}{x:Str}{ps N:List Str}{k:Nat}{c:CS}{f:Fn}
theorem zg{m:List Addr}{H:Hp}{vs:List V}{us:List U}(i:IsL K m H vs us):Lr K m H (nA N.length us) (L2.start N vs):=by
 have hl:=i.length;refine⟨by simp[nA,L2.start,hl],fun j u e=>?_⟩;unfold nA at e;unfold L2.start;by_cases c:j<us.length
 ·rw[QD (by simpa using c),Qb]at e;rw[QD (by simpa [hl] using c),Qb];rw[Q4 c]at e;simp at e;obtain⟨v,e1,e2⟩:=i.getD (Q4 c);rw[e1];subst e;exact⟨v,rfl,e2⟩
 ·rw[QK (by simpa using c),XF]at e;split at e<;>cases e
theorem Du{X:Cx}{body:List Stmt}{Q:VK}{E:XK}{vs:List V}{H:Hp}(hK:X.K=K)(h:Hc K (fnU N.length ps.length c) vs H Q E):tS X.K c { nx:=fun _ H'=>Q .non H',rt:=Q } (L2.start N vs) H:=by
 subst hK;obtain⟨m,us,S,u,S',i,sr,hf,post⟩:=h;unfold fnU at hf;split at hf
 ·obtain⟨⟨o,ρ',S2⟩,h1,h2⟩:=Q2.mp hf;refine⟨m,_,S,o,ρ',S2,sr,zg i,h1,?_⟩;cases o with
  |rt v=>cases h2;exact post
  |nx=>cases h2;exact fun m1 σ1 H1 e1 sr1 _=>post m1 _ H1 e1 sr1 .non_
  |bk=>simp at h2
  |ct=>simp at h2
 ·cases hf
theorem ym{vs:List V}{H:Hp}{Q:VK}{E:XK}{n k:Nat}(h:Hc K (fnU n k c) vs H Q E):vs.length=k:=by
 obtain⟨m,us,S,u,S',i,sr,hf,post⟩:=h;unfold fnU at hf;split at hf
 ·rename_i e;rw[i.length,e]
 ·cases hf
theorem _root_.OG.Def.pure(d:Def K mg x st ps)(S:br N ps (aF st))
  (hb:∀(f:Addr) (cdv:Value) (A:Around) (outer:List Env) (s:Shared) (H:Hp) (E:XK),ko k (A.deeper (envOfC x (aF st) s.heap.objs.size f cdv))->
   WSs (xH CX0 P w K mg base N x (aF st) f cdv A outer s H E).nox (dq st) (tS K c)):gG P w K mg base x (k+1) ps (fnU N.length ps.length c):=
 d.has S (fun vs H Q E h=>ym h) fun f cdv A outer s H vs Q E hr h=>⟨_,hb f cdv A outer s H E hr,Du (X:=(xH CX0 P w K mg base N x (aF st) f cdv A outer s H E).nox) (body:=[]) (ps:=ps) rfl h⟩
theorem aR{X:Cx}{e:Expr}{es:List Expr}{cr:CA}{p pos:Pos}(F:Has X.prog X.w X.K X.mg X.base x k ps (Hc X.K f))(hr:ko k X.A)(hg:Gl X x)(ha:QA X (e::es) cr)
  (hdb:(x == ("__debug__":Str))=false:=by decide) (he:starEach (e::es) X.env=(false,eval e X.env)::starEach es X.env:=by rfl) (hpl:(backTo pos (starEach es X.env)).any (·.1)=false:=by rfl) :
  QE X (.Call (.Name x p) (e::es) [] pos) (cCB f cr):=(EM F hr hg ha.h hdb he hpl).imp fun σ H Q hz=>iF hz fun m ρ S u S' sr lr hc post=>by
 obtain⟨⟨us,S1⟩,h1,h2⟩:=Q2.mp hc;exact⟨m,ρ,S,us,S1,sr,lr,h1,fun m1 v1 H1 e1 sr1 i1=>⟨m1,us,S1,u,S',by simpa using i1,sr1,h2,post.mono e1⟩⟩
end
variable{c1 c2:CS}
section
variable{a:Expr}
def dM:CS:=fun ρ S=>some (.nx,ρ,S)
noncomputable def bo(c1 c2:CS):CS:=fun ρ S=>(c1 ρ S).bind fun r=>match r.1 with
 |.nx=>c2 r.2.1 r.2.2
 |o=>some (o,r.2.1,r.2.2)
theorem cy:QSs X [] dM:=xW.imp fun D σ H hz=>tR hz fun m ρ S o ρ' S' sr lr hc post=>by cases hc;exact post m σ H .refl sr lr
theorem aw(h1:QS X st c1)(h2:QSs X sts c2):QSs X (st::sts) (bo c1 c2):=(ug h1 h2).imp fun D σ H hz=>tR hz fun m ρ S o ρ' S' sr lr hc post=>by
 obtain⟨⟨o1,ρ1,S1⟩,h1,h2⟩:=Q2.mp hc;refine⟨m,ρ,S,o1,ρ1,S1,sr,lr,h1,?_⟩;cases o1 with
 |nx=>exact fun m1 σ1 H1 e1 sr1 lr1=>⟨m1,ρ1,S1,o,ρ',S',sr1,lr1,h2,post.mono e1⟩
 |rt u=>cases h2;exact post
 |bk=>cases h2;exact post
 |ct=>cases h2;exact post
theorem aI(h1:QS X st c1):QSs X [st] c1:=xV h1
def fP(ca:CE):CS:=fun ρ S=>(ca ρ S).bind fun p=>some (.nx,ρ,p.2)
theorem cD(he:QE X e ca)(hs:swapsWith e none pos.line X.env=pure false:=by rfl):QS X (.Expr e pos) (fP ca):=(xX he hs).imp fun D σ H hz=>tR hz fun m ρ S o ρ' S' sr lr hc post=>by
 obtain⟨⟨u,S1⟩,h1,h2⟩:=Q2.mp hc;cases h2;exact⟨m,ρ,S,u,_,sr,lr,h1,fun m1 v1 H1 e1 sr1 i1=>post m1 σ H1 e1 sr1 (lr.mono e1)⟩
def iL(ca:CE):CS:=fun ρ S=>(ca ρ S).bind fun p=>some (.rt p.1,ρ,p.2)
theorem bI(he:QE X e ca):QS X (.Return (some e) pos) (iL ca):=(BJ he).imp fun D σ H hz=>tR hz fun m ρ S o ρ' S' sr lr hc post=>by
 obtain⟨⟨u,S1⟩,h1,h2⟩:=Q2.mp hc;cases h2;exact⟨m,ρ,S,u,_,sr,lr,h1,post⟩
def kG(t:CT)(c1 c2:CS):CS:=fun ρ S=>(t ρ S).bind fun p=>if p.1=true then c1 ρ p.2 else c2 ρ p.2
theorem eP{t:CT}{s1 s2:List Stmt}(hc:QT X c t)(h1:QSs X s1 c1)(h2:QSs X s2 c2):QS X (.If c s1 s2 pos) (kG t c1 c2):=(EI hc h1 h2).imp fun D σ H hz=>tR hz fun m ρ S o ρ' S' sr lr hc post=>by
 obtain⟨⟨x,S1⟩,h1,h2⟩:=Q2.mp hc;refine⟨m,ρ,S,x,S1,sr,lr,h1,fun m1 H1 e1 sr1=>?_⟩;cases x with
 |true=>exact Gr ⟨m1,ρ,S1,o,ρ',S',sr1,lr.mono e1,h2,post.mono e1⟩
 |false=>exact Gs ⟨m1,ρ,S1,o,ρ',S',sr1,lr.mono e1,h2,post.mono e1⟩
abbrev CG:=U->Rho->Sto->Option (Rho×Sto)
def tG(K:Q5)(g:CG):TG:=fun v σ H Q=>∃m ρ S u ρ' S',Sr K m S H/\Lr K m H ρ σ/\Is K m H v u/\g u ρ S=some (ρ',S')/\fQ K m H Q ρ' S'
abbrev QG(X:Cx)(e:Expr)(g:CG):Prop:=WG X e (tG X.K g)
def gNm(i:Nat):CG:=fun u ρ S=>some (ρ.set i (some u),S)
theorem aS{i:Nat}(h:WG X e (tF i)):QG X e (gNm i):=h.imp fun v σ H Q hz=>JV hz fun m ρ S u ρ' S' sr lr iu hc post=>by
 cases hc;exact post m _ H .refl sr (lr.set i iu)
noncomputable def eF:List Nat->List U->Rho->Option Rho
 |[],[],ρ=>some ρ
 |i::is,u::us,ρ=>eF is us (ρ.set i (some u))
 |_,_,_=>none
def tGs(K:Q5)(is:List Nat):TGs:=fun vs σ H Q=>∃m ρ S us ρ',Sr K m S H/\Lr K m H ρ σ/\IsL K m H vs us/\eF is us ρ=some ρ'/\fQ K m H Q ρ' S
abbrev QGs(X:Cx)(es:List Expr)(is:List Nat):Prop:=WGs X es (tGs X.K is)
theorem iQ:QGs X [] []:=x5.imp fun v σ H Q ⟨m,ρ,S,us,ρ',sr,lr,iu,hc,post⟩=>by
 cases us with
 |nil=>cases hc;exact⟨iu.of_nil,post m σ H .refl sr lr⟩
 |cons a r=>simp[eF]at hc
theorem a8{i:Nat}{is:List Nat}{es:List Expr}(h:WG X e (tF i))(h2:QGs X es is)(hs:(assignEach (e::es) X.env).map (·.2)=assign e X.env::(assignEach es X.env).map (·.2):=by rfl):QGs X (e::es) (i::is):=(uj h h2 hs).imp fun v σ H Q ⟨m,ρ,S,us,ρ',sr,lr,iu,hc,post⟩=>by
 cases us with
 |nil=>simp[eF]at hc
 |cons u r=>
  obtain⟨x,xr,rfl,i1,i2⟩:=iu.of_cons;exact⟨x,xr,rfl,m,ρ.set i (some u),S,r,ρ',sr,lr.set i i1,i2,hc,post⟩
def gTp(is:List Nat):CG:=fun u ρ S=>match u with
 |.tup us=>(eF is us ρ).bind fun ρ'=>some (ρ',S)
 |_=>none
theorem kK:∀{is:List Nat} {us:List U} {ρ ρ':Rho},eF is us ρ=some ρ'->us.length=is.length
 |[],[],_,_,_=>rfl
 |[],_::_,_,_,h=>by simp[eF]at h
 |_::_,[],_,_,h=>by simp[eF]at h
 |i::is,u::us,ρ,ρ',h=>by
  have:=kK (is:=is) (us:=us) h;simp[this]
theorem kQ{is:List Nat}{es:List Expr}{k:Nat}(hc:X.calm=true)(h:QGs X es is)(hn:(assignEach es X.env).length=is.length:=by rfl)(hst:(assignEach es X.env).findIdx? (·.1)=none:=by rfl):QG X (.Tuple es k pos) (gTp is):=(BM hc h hn hst).imp fun v σ H Q hz=>JV hz fun m ρ S u ρ' S' sr lr iu hc post=>by
 cases u with
 |tup us=>
  obtain⟨ρ2,h1,h2⟩:=Q2.mp hc;cases h2;obtain⟨a,xs,rfl,sq,il⟩:=iu.of_tup;refine⟨a,xs,rfl,sq,?_,m,ρ,S,us,ρ',sr,lr,il,h1,post⟩;rw[il.length];exact kK h1
 |_=>simp[gTp]at hc
def D5(ca:CE)(g:CG):CS:=fun ρ S=>(ca ρ S).bind fun p=>(g p.1 ρ p.2).bind fun q=>some (.nx,q.1,q.2)
theorem DQ{K:Q5}{g:CG}:∀D σ H,tS K (D5 ca g) D σ H->E3 (tE K ca) (tG K g) D σ H:=by
 rintro D σ H ⟨m,ρ,S,o,ρ',S',sr,lr,hc,post⟩;obtain⟨⟨u,S1⟩,h1,h2⟩:=Q2.mp hc;obtain⟨⟨ρ2,S2⟩,h3,h4⟩:=Q2.mp h2;cases h4;exact⟨m,ρ,S,u,S1,sr,lr,h1,fun m1 v1 H1 e1 sr1 i1=>⟨m1,ρ,S1,u,_,_,sr1,lr.mono e1,i1,h3,fQ.mono e1 post⟩⟩
theorem u6{tg:Expr}{g:CG}(he:QE X e ca)(hg:QG X tg g)(hs:swapsWithSole [tg] e pos.line X.env=pure false:=by rfl)(hw:swappedStores [tg] e X.env=pure none:=by rfl)
  (h1:(assignEach [tg] X.env).map (·.2)=[assign tg X.env]:=by rfl):QS X (.Assign [tg] e pos) (D5 ca g):=(ui he hg hs hw h1).imp DQ
def cG(i:Nat)(ca:CE):CS:=fun ρ S=>(ca ρ S).bind fun p=>some (.nx,ρ.set i (some p.1),p.2)
theorem aL{i:Nat}{x:Str}{pos':Pos}(hN:X.N.Nodup)(hi:X.N[i]?=some x)(hx:Loc X.env.scope x)(he:QE X e ca)(hs:swapsWith e (some (.Name x pos')) pos.line X.env=pure false:=by rfl)(hf:X.fn x=true\/X.env.scope.names.lookup x=some .local:=by first|exact .inl rfl|exact .inr rfl|assumption) :
  QS X (.Assign [.Name x pos'] e pos) (cG i ca):=(BI hN hi hx he hs hf).imp fun D σ H hz=>tR hz fun m ρ S o ρ' S' sr lr hc post=>by
 obtain⟨⟨u,S1⟩,h1,h2⟩:=Q2.mp hc;cases h2;exact⟨m,ρ,S,u,_,sr,lr,h1,fun m1 v1 H1 e1 sr1 i1=>post m1 _ H1 e1 sr1 ((lr.mono e1).set i i1)⟩
abbrev CI:=Rho->Sto->Option (List U×(Sto->Prop)×Sto)
def Aj(K:Q5)(J:It)(m:List Addr)(H:Hp)(us:List U)(ok:Sto->Prop):Prop:=∀m2 S2 H2 i,Ext K m H m2 H2->Sr K m2 S2 H2->ok S2->
 (∀u,us[i]?=some u->J.go i H2/\∀x H3,J.yld i H2 x H3->Ext K m2 H2 m2 H3/\Sr K m2 S2 H3/\Is K m2 H3 x u)/\(us.length<=i->J.stop i H2)
def tI(K:Q5)(ci:CI):TI:=fun σ H R=>∃m ρ S us ok S',Sr K m S H/\Lr K m H ρ σ/\ci ρ S=some (us,ok,S')/\∀m' H' J,Ext K m H m' H'->Sr K m' S' H'->Aj K J m' H' us ok->R J H'
abbrev QI(X:Cx)(tg iter:Expr)(ci:CI):Prop:=WI X tg iter (tI X.K ci)
open Classical in
def cU(ok:Sto->Prop)(g:CG)(cb:CS):List U->CS
 |[]=>fun ρ S=>if ok S then some (.nx,ρ,S)else none
 |u::us=>fun ρ S=>if ok S then(g u ρ S).bind fun p=>(cb p.1 p.2).bind fun r=>match r.1 with
  |.nx=>cU ok g cb us r.2.1 r.2.2
  |.ct=>cU ok g cb us r.2.1 r.2.2
  |.bk=>some (.nx,r.2.1,r.2.2)
  |.rt v=>some (.rt v,r.2.1,r.2.2)else none
def lI(ci:CI)(g:CG)(cb:CS):CS:=fun ρ S=>(ci ρ S).bind fun p=>cU p.2.1 g cb p.1 ρ p.2.2
theorem ke{α:Type}{us:List α}{i:Nat}{u:α}(h:us[i]?=some u):us.drop i=u::us.drop (i+1):=by
 obtain⟨hl,e⟩:=Q7.mp h;rw[List.drop_eq_getElem_cons hl,e]
theorem zh{K:Q5}{g:CG}{cb:CS}{J:It}{us:List U}{ok:Sto->Prop}{D:Bc}{m1:List Addr}{H1:Hp}{ρ ρ':Rho}{σ:L2.St}{S1 S':Sto}{o:Out}(sr1:Sr K m1 S1 H1)(lr1:Lr K m1 H1 ρ σ)(ito:Aj K J m1 H1 us ok)(h2:cU ok g cb us ρ S1=some (o,ρ',S'))(post:tP K m1 H1 D o ρ' S') :
  ∃W:Nat->Nat->L2.St->Hp->Prop,(∃n,W 0 n σ H1)/\∀i n σ H,W i n σ H->
   (J.stop i H/\D.nx σ H)\/(J.go i H/\∃N:L2.St->Hp->Prop,(∀σ' H',N σ' H'->∃n',n'<n/\W (i+1) n' σ' H')/\∀x H',J.yld i H x H'->tG K g x σ H' fun σ2 H2=>tS K cb { D with nx:=N,ct:=N,bk:=D.nx } σ2 H2):=by
 let W:Nat->Nat->L2.St->Hp->Prop:=fun i n σ2 H2=>n=us.length-i/\i<=us.length/\∃m2 ρ2 S2,Ext K m1 H1 m2 H2/\Sr K m2 S2 H2/\Lr K m2 H2 ρ2 σ2/\cU ok g cb (us.drop i) ρ2 S2=some (o,ρ',S')
 refine⟨W,⟨us.length,by simp,Qi _,m1,ρ,S1,.refl,sr1,lr1,by simpa using h2⟩,?_⟩;rintro i n σ2 H2 ⟨rfl,hi,m2,ρ2,S2,e2,sr2,lr2,hl⟩;by_cases hlt:i<us.length
 ·have hu:=Q4 hlt;rw[ke hu]at hl;unfold cU at hl;split at hl
  ·rename_i hok;obtain⟨⟨ρ3,S3⟩,h3,hl⟩:=Q2.mp hl;obtain⟨⟨o4,ρ4,S4⟩,h4,hl⟩:=Q2.mp hl;obtain⟨hgo,hy⟩:=(ito m2 S2 H2 i e2 sr2 hok).1 _ hu;refine .inr ⟨hgo,W (i+1) (us.length-(i+1)),fun σ' H' w'=>⟨_,by omega,w'⟩,fun x H3 y=>?_⟩;obtain⟨e3,sr3,ix⟩:=hy x H3 y;refine⟨m2,ρ2,S2,_,ρ3,S3,sr3,lr2.mono e3,ix,h3,fun m4 σ4 H4 e4 sr4 lr4=>⟨m4,ρ3,S3,o4,ρ4,S4,sr4,lr4,h4,?_⟩⟩;have e14:=(e2.trans e3).trans e4;have nxt:cU ok g cb (us.drop (i+1)) ρ4 S4=some (o,ρ',S')->fQ K m4 H4 (W (i+1) (us.length-(i+1))) ρ4 S4:=fun hn m5 σ5 H5 e5 sr5 lr5=>⟨rfl,hlt,m5,ρ4,S4,e14.trans e5,sr5,lr5,hn⟩;cases o4 with
   |nx=>exact nxt hl
   |ct=>exact nxt hl
   |bk=>cases hl;exact fQ.mono e14 post
   |rt v=>cases hl;exact iK.mono e14 post
  ·cases hl
 ·have e:i=us.length:=by omega
  subst e;rw[List.drop_length]at hl;unfold cU at hl;split at hl
  ·rename_i hok;cases hl;exact .inl ⟨(ito m2 _ H2 _ e2 sr2 hok).2 (QJ _),post m2 σ2 H2 e2 sr2 lr2⟩
  ·cases hl
theorem Ds{K:Q5}{ci:CI}{g:CG}{cb:CS}:∀D σ H,tS K (lI ci g cb) D σ H->HY (tI K ci) (tG K g) (tS K cb) D σ H:=by
 rintro D σ H ⟨m,ρ,S,o,ρ',S',sr,lr,hc,post⟩;obtain⟨⟨us,ok,S1⟩,h1,h2⟩:=Q2.mp hc;exact⟨m,ρ,S,us,ok,S1,sr,lr,h1,fun m1 H1 J e1 sr1 ito=>zh sr1 (lr.mono e1) ito h2 (tP.mono e1 post)⟩
theorem eJ{tg iter:Expr}{body:List Stmt}{ci:CI}{g:CG}{cb:CS}(hp:PassesOwn (model X.prog X.w) X.A X.env X.xe)(hc:X.calm=true)(hi:QI X tg iter ci)(hg:QG X tg g)(hb:QSs X body cb)(hs:∀x,foldedSetIterable iter X.env x=pure x:=by intro _;rfl):QS X (.For tg iter body [] pos) (lI ci g cb):=(BK hp hc hi hg hb hs).imp Ds
noncomputable def ck(t:CT)(cb:CS):Nat->CS
 |0=>fun _ _=>none
 |n+1=>fun ρ S=>(t ρ S).bind fun p=>if p.1=true then(cb ρ p.2).bind fun r=>match r.1 with
  |.nx=>ck t cb n r.2.1 r.2.2
  |.ct=>ck t cb n r.2.1 r.2.2
  |.bk=>some (.nx,r.2.1,r.2.2)
  |.rt v=>some (.rt v,r.2.1,r.2.2)else some (.nx,ρ,p.2)
theorem uu{K:Q5}{t:CT}{cb:CS}{n:Nat}:∀D σ H,tS K (ck t cb n) D σ H->uD (tT K t) (tS K cb) D σ H:=by
 rintro D σ H ⟨m,ρ,S,o,ρ',S',sr,lr,hc,post⟩;let W:Nat->L2.St->Hp->Prop:=fun n σ2 H2=>∃m2 ρ2 S2,Ext K m H m2 H2/\Sr K m2 S2 H2/\Lr K m2 H2 ρ2 σ2/\ck t cb n ρ2 S2=some (o,ρ',S')
 refine⟨W,⟨n,m,ρ,S,.refl,sr,lr,hc⟩,?_⟩;rintro k σ2 H2 ⟨m2,ρ2,S2,e2,sr2,lr2,hl⟩;cases k with
 |zero=>cases hl
 |succ k=>
  unfold ck at hl;obtain⟨⟨x,S3⟩,h3,hl⟩:=Q2.mp hl;refine⟨m2,ρ2,S2,x,S3,sr2,lr2,h3,fun m3 H3 e3 sr3=>?_⟩;have e13:=e2.trans e3;cases x with
  |true=>
   rw[if_pos rfl]at hl;refine Gr ?_;obtain⟨⟨o4,ρ4,S4⟩,h4,hl⟩:=Q2.mp hl;refine⟨W k,fun σ' H' w'=>⟨k,Nat.lt_succ_self _,w'⟩,m3,ρ2,S3,o4,ρ4,S4,sr3,lr2.mono e3,h4,?_⟩;have nxt:ck t cb k ρ4 S4=some (o,ρ',S')->fQ K m3 H3 (W k) ρ4 S4:=fun hn m5 σ5 H5 e5 sr5 lr5=>⟨m5,ρ4,S4,e13.trans e5,sr5,lr5,hn⟩;cases o4 with
   |nx=>exact nxt hl
   |ct=>exact nxt hl
   |bk=>cases hl;exact fQ.mono e13 post
   |rt v=>cases hl;exact iK.mono e13 post
  |false=>
   rw[if_neg Qq]at hl;refine Gs ?_;cases hl;exact post m3 σ2 H3 e13 sr3 (lr2.mono e3)
theorem mj{body:List Stmt}{t:CT}{cb:CS}(n:Nat)(hp:PassesOwn (model X.prog X.w) X.A X.env X.xe)(hc:QT X c t)(hb:QSs X body cb):QS X (.While c body [] pos) (ck t cb n):=(uh hp hc hb).imp uu
def iTp(ca:CE):CI:=fun ρ S=>(ca ρ S).bind fun p=>match p.1 with
 |.tup us=>some (us,fun _=>True,p.2)
 |.ref l=>match p.2[l]? with
  |some (.lst us)=>some (us,fun S=>S[l]?=some (.lst us),p.2)
  |_=>none
 |_=>none
theorem Gu{K:Q5}{m:List Addr}{H:Hp}{us:List U}{a:Addr}{xs:List V}(sq:SqT K H a xs)(il:IsL K m H xs us):Aj K (Itt K a) m H us (fun _=>True):=by
 intro m2 S2 H2 i e2 sr2 _;have sq2:=e2.keep.t _ _ sq;have il2:=il.mono e2;refine⟨fun u hu=>?_,fun hi=>⟨xs,sq2,by rw[il2.length];exact hi⟩⟩;obtain⟨x,hx,ix⟩:=il2.getD hu;refine⟨⟨xs,x,sq2,hx⟩,fun y H3 hy=>?_⟩;obtain⟨rfl,hy⟩:=hy;have:=hy xs sq2;rw[hx]at this;cases this;exact⟨.refl,sr2,ix⟩
theorem Gv{K:Q5}{m:List Addr}{H:Hp}{us:List U}{a:Addr}{l:Nat}(hl:m[l]?=some a):Aj K (Itl K a) m H us (fun S=>S[l]?=some (.lst us)):=by
 intro m2 S2 H2 i e2 sr2 hok;obtain⟨a',ha',xs,hx,il⟩:=sr2.get hok;rw[e2.get hl]at ha';cases ha';refine⟨fun u hu=>?_,fun hi=>⟨xs,SqL.of hx,by rw[il.length];exact hi⟩⟩;obtain⟨x,hx',ix⟩:=il.getD hu;refine⟨⟨xs,x,SqL.of hx,hx'⟩,fun y H3 hy=>?_⟩;obtain⟨rfl,hy⟩:=hy;have:=hy xs (SqL.of hx);rw[hx']at this;cases this;exact⟨.refl,sr2,ix⟩
theorem dh{tg:Expr}(h:QE X e ca):QI X tg e (iTp ca):=((BL h).or (x4 h)).imp fun σ H R hz=>tR hz fun m ρ S us ok S' sr lr hc post=>by
 obtain⟨⟨u,S1⟩,h1,h2⟩:=Q2.mp hc;cases u with
 |tup ws=>
  cases h2;refine .inl ⟨m,ρ,S,.tup us,_,sr,lr,h1,fun m1 v1 H1 e1 sr1 i1=>?_⟩;obtain⟨a,xs,rfl,sq,il⟩:=i1.of_tup;exact⟨a,rfl,⟨xs,sq⟩,post m1 H1 _ e1 sr1 (Gu sq il)⟩
 |ref l=>
  simp only at h2;split at h2
  ·rename_i us' hS;cases h2;refine .inr ⟨m,ρ,S,.ref l,_,sr,lr,h1,fun m1 v1 H1 e1 sr1 i1=>?_⟩;obtain⟨a,hl,rfl⟩:=i1.of_ref;obtain⟨a',ha',xs,hx,il⟩:=sr1.get hS;rw[hl]at ha';cases ha';exact⟨a,rfl,⟨xs,SqL.of hx⟩,post m1 H1 _ e1 sr1 (Gv hl)⟩
  ·cases h2
 |_=>simp at h2
noncomputable def bH(lo:Int)(n:Nat):List U:=(Qz n).map fun i=>.int (lo+(i:Nat))
theorem zr{K:Q5}{m:List Addr}{H:Hp}{lo:Int}{n:Nat}:Aj K (Itr lo n) m H (bH lo n) (fun _=>True):=by
 intro m2 S2 H2 i e2 sr2 _;refine⟨fun u hu=>?_,fun hi=>by show n<=i;simpa [bH] using hi⟩;unfold bH at hu;rw[Qb]at hu;by_cases c:i<n
 ·rw[XD c]at hu;simp at hu;subst hu;refine⟨c,fun y H3 hy=>?_⟩;obtain⟨rfl,rfl⟩:=hy;exact⟨.refl,sr2,.int_⟩
 ·rw[ZU (by simpa using c)]at hu;cases hu
def bj(cr:CA):CI:=fun ρ S=>(cr ρ S).bind fun p=>match p.1 with
 |[.int j]=>if -(2^62)<=j/\j<2^62 then some (bH 0 j.toNat,fun _=>True,p.2)else none
 |_=>none
theorem bJ{tg:Expr}{cr:CA}{p:Pos}(hg:Gl X "range")(hm:X.mg "range"=none)(ha:QA X [a] cr)(hs:starEach [a] X.env=[(false,eval a X.env)]:=by rfl):QI X tg (.Call (.Name "range" p) [a] [] pos) (bj cr):=(sC hg hm ha.h hs).imp fun σ H R hz=>tR hz fun m ρ S us ok S' sr lr hc post=>by
 obtain⟨⟨ws,S1⟩,h1,h2⟩:=Q2.mp hc;simp only at h2;split at h2
 ·rename_i j;split at h2
  ·rename_i hj;cases h2;refine⟨m,ρ,S,_,S',sr,lr,h1,fun m1 v1 H1 e1 sr1 i1=>?_⟩;obtain⟨x,r,rfl,ix,ir⟩:=i1.of_cons;rw[ir.of_nil,ix.of_int];exact⟨j,rfl,hj.1,hj.2,post m1 H1 _ e1 sr1 zr⟩
  ·cases h2
 ·cases h2
end
noncomputable def fI(g:Int->Int->Option U):U->U->Sto->Option (U×Sto)
 |.int i,.int j,S=>(g i j).bind fun u=>some (u,S)
 |_,_,_=>none
section
theorem IE{C:Int->Int->Prop}{gV:Int->Int->V}{g:Int->Int->Option U}(h:∀i j u,g i j=some u->C i j/\∀m H,Is K m H (gV i j) u):OpP K (rI C gV) (fI g):=by
 intro m S H x y v w u S' Q sr ix iy hf post;cases x<;>cases y<;>simp only[fI]at hf<;>try cases hf
 rename_i i j;obtain⟨u1,h1,h2⟩:=Q2.mp hf;cases h2;obtain⟨hc,hi⟩:=h i j u h1;exact⟨i,j,ix.of_int,iy.of_int,hc,post m _ H .refl sr (hi m H)⟩
theorem yY{gV:Int->Int->V}{g:Int->Int->Option U}(h:∀i j u,g i j=some u->∀m H,Is K m H (gV i j) u):OpP K (rI0 gV) (fI g):=by
 intro m S H x y v w u S' Q sr ix iy hf post;cases x<;>cases y<;>simp only[fI]at hf<;>try cases hf
 rename_i i j;obtain⟨u1,h1,h2⟩:=Q2.mp hf;cases h2;exact⟨i,j,ix.of_int,iy.of_int,post m _ H .refl sr (h i j u h1 m H)⟩
def yz(K:Q5):R2:=fun x y H Q=>∃a b xs ys,x=.ref a/\y=.ref b/\SqT K H a xs/\SqT K H b ys/\xs.length+ys.length<=sizeLine/\∀q H',si H H'->SqT K H' q (xs++ys)->Q (.ref q) H'
theorem C4:OpR X (binaryOp .Add) (yz X.K):=by
 intro pins s σ H x y v u Q I rx ry h;obtain⟨a,b,xs,ys,rfl,rfl,ha,hb,hz,q⟩:=h;by_cases e:xs=[]
 ·cases rx;cases ry;obtain⟨its,r1,p1,_⟩:=I.tuple ha;obtain⟨its2,r2,p2,_⟩:=I.tuple hb;refine zR p1 p2 (r1.nil_iff.mpr e) ⟨.ref b,H,I,rfl,q b H (.refl _) (by rw[e];exact hb)⟩
 ·refine C3 pins s σ H _ _ v u Q I rx ry ⟨a,b,xs,ys,rfl,rfl,ha,hb,e,hz,fun z=>q a H (.refl _) (by rw[z,Qn];exact ha),fun _ p hp=>q p _ (fE hp _) (SqT.of aH)⟩
def wC:U->U->Sto->Option (U×Sto)
 |.tup a,.tup b,S=>if a.length+b.length<=LIM then some (.tup (a++b),S)else none
 |_,_,_=>none
theorem yV:OpP K (yz K) wC:=by
 intro m S H x y v w u S' Q sr ix iy hf post;cases x<;>cases y<;>simp only[wC]at hf<;>try cases hf
 split at hf<;>try cases hf
 rename_i hl;obtain⟨a,xs,rfl,sa,la⟩:=ix.of_tup;obtain⟨b,ys,rfl,sb,lb⟩:=iy.of_tup;refine⟨a,b,xs,ys,rfl,rfl,sa,sb,lim (by rw[la.length,lb.length];exact hl),fun q H' s sq=>?_⟩;exact post m _ H' (.of (cq s)) (sr.same s) (.tup_ sq ((la.append lb).mono (.of (cq s))))
def iZ:U->U->Sto->Option (U×Sto)
 |.ref l,.ref k,S=>match S[l]?,S[k]? with
  |some (.lst a),some (.lst b)=>if a.length+b.length<=LIM then some (.ref S.length,S++[.lst (a++b)])else none
  |_,_=>none
 |_,_,_=>none
theorem y0:OpP K He iZ:=by
 intro m S H x y v w u S' Q sr ix iy hf post;cases x<;>cases y<;>simp only[iZ]at hf<;>try cases hf
 rename_i l k;split at hf<;>try cases hf
 rename_i a b h1 h2;split at hf<;>try cases hf
 rename_i hl;obtain⟨p,hp,rfl⟩:=ix.of_ref;obtain⟨q,hq,rfl⟩:=iy.of_ref;obtain⟨p',hp',xs,hx,il⟩:=sr.get h1;obtain⟨q',hq',ys,hy,il'⟩:=sr.get h2;rw[hp]at hp';cases hp';rw[hq]at hq';cases hq';exact⟨p,q,xs,ys,rfl,rfl,hx,hy,lim (by rw[il.length,il'.length];exact hl),fun r hr=>bA sr (il.append il') post hr⟩
def wD:U->U->Sto->Option (U×Sto)
 |.str a,.str b,S=>if a.length+b.length<=LIM then some (.str (a++b),S)else none
 |_,_,_=>none
theorem yX:OpP K (fun x y H Q=>∃i j,x=.str i/\y=.str j/\i.length+j.length<=sizeLine/\Q (.str (i++j)) H) wD:=by
 intro m S H x y v w u S' Q sr ix iy hf post;cases x<;>cases y<;>simp only[wD]at hf<;>try cases hf
 split at hf<;>try cases hf
 rename_i hl;exact⟨_,_,ix.of_str,iy.of_str,lim hl,post m _ H .refl sr .str_⟩
def dS:U->U->Sto->Option (U×Sto)
 |.int i,.int j,S=>some (.int (i+j),S)
 |.tup a,.tup b,S=>if a.length+b.length<=LIM then some (.tup (a++b),S)else none
 |.str a,.str b,S=>if a.length+b.length<=LIM then some (.str (a++b),S)else none
 |.ref l,.ref k,S=>iZ (.ref l) (.ref k) S
 |_,_,_=>none
theorem dJ:OpR X (binaryOp .Add) (fun x y H Q=>rI0 (fun i j=>.int (i+j)) x y H Q\/(He x y H Q\/(yz X.K x y H Q\/∃i j,x=.str i/\y=.str j/\i.length+j.length<=sizeLine/\Q (.str (i++j)) H))):=FX.or (FW.or (C4.or sY))
theorem dI:OpP K (fun x y H Q=>rI0 (fun i j=>.int (i+j)) x y H Q\/(He x y H Q\/(yz K x y H Q\/∃i j,x=.str i/\y=.str j/\i.length+j.length<=sizeLine/\Q (.str (i++j)) H))) dS:=by
 intro m S H x y v w u S' Q sr ix iy hf post;cases x<;>cases y<;>simp only[dS]at hf<;>try cases hf
 ·exact .inl ⟨_,_,ix.of_int,iy.of_int,post m _ H .refl sr .int_⟩
 ·exact .inr (.inr (.inr (yX m S H _ _ v w u S' Q sr ix iy hf post)))
 ·exact .inr (.inr (.inl (yV m S H _ _ v w u S' Q sr ix iy hf post)))
 ·exact .inr (.inl (y0 m S H _ _ v w u S' Q sr ix iy hf post))
def Dv:=fI fun i j=>some (.int (i-j))
theorem yW:OpP K (rI0 fun i j=>.int (i-j)) Dv:=yY fun i j u h m H=>by cases h;exact .int_
instance {i j:Int}:Decidable (Bg i j):=by unfold Bg;exact inferInstance
def jZ:=fI fun i j=>if Bg i j then some (.int (i*j))else none
theorem mr:OpP K (rI Bg fun i j=>.int (i*j)) jZ:=IE fun i j u h=>by
 split at h
 ·rename_i c;cases h;exact⟨c,fun m H=>.int_⟩
 ·cases h
instance {i j:Int}:Decidable (tQ i j):=by unfold tQ;exact inferInstance
def A1:=fI fun i j=>if tQ i j then some (.int (i / j))else none
theorem FR:OpP K (rI tQ fun i j=>.int (i / j)) A1:=IE fun i j u h=>by
 split at h
 ·rename_i c;cases h;exact⟨c,fun m H=>.int_⟩
 ·cases h
def tJ:=fI fun i j=>if 0<j then some (.int (i % j))else none
theorem yZ:OpP K (rI (fun _ j=>0<j) fun i j=>.int (i % j)) tJ:=IE fun i j u h=>by
 split at h
 ·rename_i c;cases h;exact⟨c,fun m H=>.int_⟩
 ·cases h
instance {i j:Int}:Decidable (JZ i j):=by unfold JZ;exact inferInstance
def fLt:=fI fun i j=>some (.bl (decide (i<j)))
def fGt:=fI fun i j=>some (.bl (decide (j<i)))
def fGe:=fI fun i j=>some (.bl (decide (j<=i)))
theorem D1:OpP K (rI0 fun i j=>.bl (decide (i<j))) fLt:=yY fun i j u h m H=>by cases h;exact .bl_
theorem IJ:OpP K (rI0 fun i j=>.bl (decide (j<i))) fGt:=yY fun i j u h m H=>by cases h;exact .bl_
theorem JG:OpP K (rI0 fun i j=>.bl (decide (j<=i))) fGe:=yY fun i j u h m H=>by cases h;exact .bl_
noncomputable def eqS:U->U->Option Bool
 |.int i,.int j=>some (decide (i=j))
 |.bl i,.bl j=>some (decide (i=j))
 |.str i,.str j=>some (decide (i=j))
 |.non,.non=>some true
 |.non,.int _=>some false|.int _,.non=>some false
 |.non,.bl _=>some false|.bl _,.non=>some false
 |.non,.str _=>some false|.str _,.non=>some false
 |.int _,.str _=>some false|.str _,.int _=>some false
 |.bl _,.str _=>some false|.str _,.bl _=>some false
 |_,_=>none
def fEq:U->U->Sto->Option (U×Sto):=fun x y S=>(eqS x y).bind fun b=>some (.bl b,S)
def fNe:U->U->Sto->Option (U×Sto):=fun x y S=>(eqS x y).bind fun b=>some (.bl (!b),S)
theorem A4{m:List Addr}{H:Hp}{x y:U}{v w:V}{b:Bool}(ix:Is K m H v x)(iy:Is K m H w y)(h:eqS x y=some b):H0 v w=true/\decide (v=w)=b:=by
 cases x<;>cases y<;>simp only[eqS]at h<;>(first|cases h|skip);all_goals
  (first|(have e1:=ix.of_int)|(have e1:=ix.of_bl)|(have e1:=ix.of_str)|(have e1:=ix.of_non))
  (first|(have e2:=iy.of_int)|(have e2:=iy.of_bl)|(have e2:=iy.of_str)|(have e2:=iy.of_non))
  subst e1 e2;exact⟨rfl,by simp⟩
theorem CY:OpP K rEq fEq:=by
 intro m S H x y v w u S' Q sr ix iy hf post;obtain⟨b,h1,h2⟩:=Q2.mp hf;cases h2;obtain⟨e1,e2⟩:=A4 ix iy h1;exact⟨e1,by rw[e2];exact post m _ H .refl sr .bl_⟩
theorem AJ:OpP K rNe fNe:=by
 intro m S H x y v w u S' Q sr ix iy hf post;obtain⟨b,h1,h2⟩:=Q2.mp hf;cases h2;obtain⟨e1,e2⟩:=A4 ix iy h1;exact⟨e1,by rw[e2];exact post m _ H .refl sr .bl_⟩
section
variable{κ:Type}[DecidableEq κ]
noncomputable def kI{α:Type}(kvs:List (κ×α))(k:κ):Option α:=(kvs.find? fun kv=>decide (kv.1=k)).map (·.2)
noncomputable def jc{α:Type}(kvs:List (κ×α))(k:κ)(v:α):List (κ×α):=
 if (kvs.any fun kv=>decide (kv.1=k))=true then kvs.map (fun kv=>if kv.1=k then(kv.1,v)else kv)else kvs++[(k,v)]
variable{m:List Addr}{H:Hp}{kvs:List (κ×V)}{kus:List (κ×U)}{k:κ}{v:V}{u:U}
theorem IsP.val(h:IsP K m H kvs kus):Rf K m H (kr kvs k) (kI kus k):=by
 refine IsP.ind (P:=fun kvs kus=>Rf K m H (kr kvs k) (kI kus k)) trivial (fun k' v u kvs kus i _ ih=>?_) h;by_cases e:k'=k
 ·subst e;simp[kr,kI,Zl,Rf,i]
 ·simp only[kr,kI,Zl,decide_eq_false e]at ih ⊢;exact ih
theorem IsP.any_(h:IsP K m H kvs kus):(kvs.any fun kv=>decide (kv.1=k))=(kus.any fun kv=>decide (kv.1=k)):=
 IsP.ind (P:=fun kvs kus=>(kvs.any fun kv=>decide (kv.1=k))=(kus.any fun kv=>decide (kv.1=k))) rfl (fun k' v u kvs kus i _ ih=>by simp only[XH,ih]) h
theorem IsP.append{kvs':List (κ×V)}{kus':List (κ×U)}(h:IsP K m H kvs kus)(h':IsP K m H kvs' kus'):IsP K m H (kvs++kvs') (kus++kus'):=⟨by simp[h.1,h'.1],by simpa using h.2.append h'.2⟩
theorem IsP.put(h:IsP K m H kvs kus)(i:Is K m H v u):IsP K m H (o5 kvs k v) (jc kus k u):=by
 unfold o5 jc;rw[h.any_];split
 ·refine IsP.ind (P:=fun kvs kus=>IsP K m H (kvs.map fun kv=>if kv.1=k then(kv.1,v)else kv) (kus.map fun kv=>if kv.1=k then(kv.1,u)else kv)) .nil_ (fun k' v' u' kvs kus i' _ ih=>?_) h;simp only[Qx];by_cases e:k'=k
  ·simp only[e,if_true];exact .cons_ i ih
  ·simp only[e,if_false];exact .cons_ i' ih
 ·exact h.append (.cons_ i .nil_)
end
noncomputable def nY:U->Option Key
 |.int i=>some (.inl i)
 |.str x=>some (.inr x)
 |_=>none
theorem iV{m:List Addr}{H:Hp}{x:U}{v:V}{k:Key}(ix:Is K m H v x)(h:nY x=some k):v=kV k:=by
 cases x<;>simp only[nY]at h<;>cases h
 ·exact ix.of_int
 ·exact ix.of_str
def iX:U->Bool
 |.non=>true|.bl _=>true|.int _=>true|.str _=>true|_=>false
noncomputable def eqF:U->U->Bool
 |.non,.non=>true
 |.bl a,.bl b=>a == b
 |.bl a,.int b=>(if a then 1 else 0) == b
 |.int a,.bl b=>a == (if b then 1 else 0)
 |.int a,.int b=>a == b
 |.str a,.str b=>a == b
 |_,_=>false
def inU(x:U)(us:List U):Bool:=us.any fun y=>eqF y x
theorem pR{m:List Addr}{H:Hp}{x:U}{v:V}(ix:Is K m H v x)(h:iX x=true):kC v=true:=by
 cases x with
 |non=>rw[ix.of_non];rfl
 |bl b=>rw[ix.of_bl];rfl
 |int i=>rw[ix.of_int];rfl
 |str i=>rw[ix.of_str];rfl
 |tup us=>cases h
 |ref l=>cases h
 |kl l=>cases h
theorem GK{m:List Addr}{H:Hp}{x y:U}{v w:V}(ix:Is K m H v x)(iy:Is K m H w y)(hx:iX x=true)(hy:iX y=true):eqV v w=eqF x y:=by
 cases x<;>(first|cases hx|skip)<;>cases y<;>(first|cases hy|skip);all_goals
  (first|(have e1:=ix.of_int)|(have e1:=ix.of_bl)|(have e1:=ix.of_str)|(have e1:=ix.of_non))
  (first|(have e2:=iy.of_int)|(have e2:=iy.of_bl)|(have e2:=iy.of_str)|(have e2:=iy.of_non))
  subst e1 e2;rfl
theorem mK{m:List Addr}{H:Hp}:∀{xs:List V} {us:List U},IsL K m H xs us->us.all iX=true->xs.all kC=true
 |xs,[],h,_=>by rw[h.of_nil];rfl
 |xs,u::us,h,k=>by
  obtain⟨x,r,rfl,i,t⟩:=h.of_cons;rw[List.all_cons,Bool.and_eq_true]at k ⊢;exact⟨pR i k.1,mK t k.2⟩
theorem wk{m:List Addr}{H:Hp}{x:U}{v:V}(ix:Is K m H v x)(hx:iX x=true):∀{xs:List V} {us:List U},IsL K m H xs us->us.all iX=true->inV v xs=inU x us
 |xs,[],h,_=>by rw[h.of_nil];rfl
 |xs,u::us,h,k=>by
  obtain⟨y,r,rfl,i,t⟩:=h.of_cons;rw[List.all_cons,Bool.and_eq_true]at k;have ih:=wk ix hx t k.2;unfold inV inU at ih ⊢;rw[XH,XH,ih,GK i ix k.1 hx]
theorem _root_.L2.DGet.kz{H:Hp}{a:Addr}{ob:Obj}{kvs:List (Key×V)}{k:Key}(e:H a=some (.frz ob (.dK kvs))):DGet H a (kV k) (kr kvs k):=.inl ⟨kvs,k,.inr ⟨ob,e⟩,rfl,rfl⟩
def fIn(neg:Bool):U->U->Sto->Option (U×Sto):=fun x y S=>match y with
 |.tup us=>if iX x=true/\us.all iX=true then some (.bl (if neg then !inU x us else inU x us),S)else none
 |.ref l=>match S[l]? with
  |some (.lst us)=>if iX x=true/\us.all iX=true then some (.bl (if neg then !inU x us else inU x us),S)else none
  |some (.dic kus)=>(nY x).bind fun k=>some (.bl (if neg then !(kI kus k).isSome else(kI kus k).isSome),S)
  |some (.fdc ep kus)=>(nY x).bind fun k=>some (.bl (if neg then !(kI kus k).isSome else(kI kus k).isSome),S)
  |_=>none
 |_=>none
theorem Rf.isSome{m:List Addr}{H:Hp}{v:Option V}{u:Option U}(h:Rf K m H v u):v.isSome=u.isSome:=by
 cases v<;>cases u<;>first|rfl|exact h.elim
theorem wj{ca cb:CE}{neg:Bool}(t2:TE->TE->TE)(h2:∀ta tb σ H Q,(ta σ H fun y H1=>tb σ H1 fun x H2=>∃a o,x=.ref a/\DGet H2 a y o/\Q (.bl (if neg then !o.isSome else o.isSome)) H2)->t2 ta tb σ H Q):∀σ H Q,tE K (cOp (fIn neg) ca cb) σ H Q->tOp (rIn K neg) (tE K ca) (tE K cb) σ H Q\/t2 (tE K ca) (tE K cb) σ H Q:=by
 rintro σ H Q ⟨m,ρ,S,u,S',sr,lr,hc,post⟩;obtain⟨⟨x,S1⟩,h1,h⟩:=Q2.mp hc;obtain⟨⟨y,S2⟩,h3,h4⟩:=Q2.mp h;cases y with
 |tup us=>
  simp only[fIn]at h4;split at h4<;>try cases h4
  rename_i hf;refine .inl ⟨m,ρ,S,x,S1,sr,lr,h1,fun m1 v1 H1 e1 sr1 i1=>⟨m1,ρ,S1,.tup us,S',sr1,lr.mono e1,h3,fun m2 v2 H2 e2 sr2 i2=>?_⟩⟩;obtain⟨a,xs,rfl,sa,la⟩:=i2.of_tup;refine⟨a,xs,rfl,.inr sa,pR (i1.mono e2) hf.1,mK la hf.2,?_⟩;rw[wk (i1.mono e2) hf.1 la hf.2];exact post m2 _ H2 (e1.trans e2) sr2 .bl_
 |ref l=>
  simp only[fIn]at h4;split at h4<;>try cases h4
  ·rename_i us hS;split at h4<;>try cases h4
   rename_i hf;refine .inl ⟨m,ρ,S,x,S1,sr,lr,h1,fun m1 v1 H1 e1 sr1 i1=>⟨m1,ρ,S1,.ref l,S',sr1,lr.mono e1,h3,fun m2 v2 H2 e2 sr2 i2=>?_⟩⟩;obtain⟨a,ha,rfl⟩:=i2.of_ref;obtain⟨a',ha',xs,hx,la⟩:=sr2.get hS;rw[ha]at ha';cases ha';refine⟨a,xs,rfl,.inl (SqL.of hx),pR (i1.mono e2) hf.1,mK la hf.2,?_⟩;rw[wk (i1.mono e2) hf.1 la hf.2];exact post m2 _ H2 (e1.trans e2) sr2 .bl_
  ·rename_i kus hS;obtain⟨k,hk,h5⟩:=Q2.mp h4;cases h5;refine .inr (h2 _ _ _ _ _ ⟨m,ρ,S,x,S1,sr,lr,h1,fun m1 v1 H1 e1 sr1 i1=>⟨m1,ρ,S1,.ref l,S',sr1,lr.mono e1,h3,fun m2 v2 H2 e2 sr2 i2=>?_⟩⟩);obtain⟨a,ha,rfl⟩:=i2.of_ref;obtain⟨a',ha',kvs,hx,ip⟩:=sr2.get hS;rw[ha]at ha';cases ha';have ek:=iV (i1.mono e2) hk;subst ek;refine⟨a,_,rfl,DGet.k hx,?_⟩;rw[(IsP.val ip).isSome];exact post m2 _ H2 (e1.trans e2) sr2 .bl_
  ·rename_i ep kus hS;obtain⟨k,hk,h5⟩:=Q2.mp h4;cases h5;refine .inr (h2 _ _ _ _ _ ⟨m,ρ,S,x,S1,sr,lr,h1,fun m1 v1 H1 e1 sr1 i1=>⟨m1,ρ,S1,.ref l,S',sr1,lr.mono e1,h3,fun m2 v2 H2 e2 sr2 i2=>?_⟩⟩);obtain⟨a,ha,rfl⟩:=i2.of_ref;obtain⟨a',ha',ob,es,kvs,hx,hd,ip⟩:=sr2.get hS;rw[ha]at ha';cases ha';have ek:=iV (i1.mono e2) hk;subst ek;refine⟨a,_,rfl,DGet.kz hx,?_⟩;rw[(IsP.val ip).isSome];exact post m2 _ H2 (e1.trans e2) sr2 .bl_
 |_=>simp[fIn]at h4
variable{a:Expr}
theorem Kj(hu:X.A.units+1<cLine)(ha:QE X a ca)(hb:QE X b cb)(hm:behindInMarks .In b=false):QE X (.Compare a [.In] [b] pos) (cOp (fIn false) ca cb):=
 ((qu nR ha hb hm).or (BS (ur hu ha hb) hm)).imp (wj (neg:=false) Hb fun _ _ _ _ _ h=>h)
theorem Cq(hu:X.A.units+1<cLine)(ha:QE X a ca)(hb:QE X b cb)(hm:behindInMarks .In b=false):QT X (.Compare a [.In] [b] pos) (aN (cOp (fIn false) ca cb)):=
 ((lL nR ha hb hm).or (uf (ur hu ha hb) hm)).imp (jq (wj (neg:=false) Hb fun _ _ _ _ _ h=>h))
theorem yA(hu:X.A.units+1<cLine)(ha:QE X a ca)(hb:QE X b cb)(hm:behindInMarks .NotIn b=false):QT X (.Compare a [.NotIn] [b] pos) (aN (cOp (fIn true) ca cb)):=
 ((lL nO ha hb hm).or (uf (sE hu ha hb) hm)).imp (jq (wj (neg:=true) pC fun _ _ _ _ _ h=>h))
def fIx:U->U->Sto->Option (U×Sto):=fun x y S=>match x with
 |.tup us=>match y with
  |.int i=>(atI us i).bind fun u=>some (u,S)
  |_=>none
 |.ref l=>match S[l]? with
  |some (.lst us)=>(match y with
   |.int i=>(atI us i).bind fun u=>some (u,S)
   |_=>none)
  |some (.dic kus)=>(nY y).bind fun k=>(kI kus k).bind fun u=>some (u,S)
  |some (.fdc ep kus)=>(nY y).bind fun k=>(kI kus k).bind fun u=>some (u,S)
  |_=>none
 |.kl ns=>match y with
  |.int i=>(atI (ns.map U.int) i).bind fun u=>some (u,S)
  |_=>none
 |_=>none
theorem rG{K:Q5}{m:List Addr}{H:Hp}:∀ns:List Int,IsL K m H (ns.map V.int) (ns.map U.int)
 |[]=>.nil_
 |n::ns=>.cons_ .int_ (rG ns)
theorem xq{m:List Addr}{H:Hp}{xs:List V}{us:List U}{i:Int}{u:U}(l:IsL K m H xs us)(h:atI us i=some u):∃v,atI xs i=some v/\Is K m H v u:=by
 unfold atI at h ⊢;rw[l.length];obtain⟨j,e1,e2⟩:=Q2.mp h;rw[e1];obtain⟨v,e3,e4⟩:=l.getD e2;exact⟨v,e3,e4⟩
theorem eK(hu:X.A.units+1<cLine)(ha:QE X a ca)(hb:QE X b cb)(hs:qg b)(hs2:D6 b):QE X (.Subscript a b pos) (cOp fIx ca cb):=
 ((EL (Di.or Gq) ha hb hs).or (x6 hu ha hb hs2)).imp fun σ H Q hz=>iF hz fun m ρ S u S' sr lr hc post=>by
 obtain⟨⟨x,S1⟩,h1,h⟩:=Q2.mp hc;obtain⟨⟨y,S2⟩,h3,h4⟩:=Q2.mp h;cases x with
 |tup us=>
  simp only[fIx]at h4;split at h4<;>try cases h4
  rename_i i;obtain⟨w,hw,h5⟩:=Q2.mp h4;cases h5;refine .inl ⟨m,ρ,S,_,S1,sr,lr,h1,fun m1 v1 H1 e1 sr1 i1=>⟨m1,ρ,S1,_,S',sr1,lr.mono e1,h3,fun m2 v2 H2 e2 sr2 i2=>.inr ?_⟩⟩;obtain⟨a,xs,rfl,sa,la⟩:=(i1.mono e2).of_tup;obtain⟨z,ez,iz⟩:=xq la hw;exact⟨a,xs,i,z,rfl,i2.of_int,sa,ez,post m2 _ H2 (e1.trans e2) sr2 iz⟩
 |ref l=>
  simp only[fIx]at h4;split at h4<;>try cases h4
  ·rename_i us hS;split at h4<;>try cases h4
   rename_i i;obtain⟨w,hw,h5⟩:=Q2.mp h4;cases h5;refine .inl ⟨m,ρ,S,_,S1,sr,lr,h1,fun m1 v1 H1 e1 sr1 i1=>⟨m1,ρ,S1,_,S',sr1,lr.mono e1,h3,fun m2 v2 H2 e2 sr2 i2=>.inl ?_⟩⟩;obtain⟨a,ha,rfl⟩:=(i1.mono e2).of_ref;obtain⟨a',ha',xs,hx,la⟩:=sr2.get hS;rw[ha]at ha';cases ha';obtain⟨z,ez,iz⟩:=xq la hw;exact⟨a,xs,i,z,rfl,i2.of_int,SqL.of hx,ez,post m2 _ H2 (e1.trans e2) sr2 iz⟩
  ·rename_i kus hS;obtain⟨k,hk,h5⟩:=Q2.mp h4;obtain⟨w,hw,h6⟩:=Q2.mp h5;cases h6;refine .inr ⟨m,ρ,S,_,S1,sr,lr,h1,fun m1 v1 H1 e1 sr1 i1=>⟨m1,ρ,S1,_,S',sr1,lr.mono e1,h3,fun m2 v2 H2 e2 sr2 i2=>?_⟩⟩;obtain⟨a,ha,rfl⟩:=(i1.mono e2).of_ref;obtain⟨a',ha',kvs,hx,ip⟩:=sr2.get hS;rw[ha]at ha';cases ha';have ek:=iV i2 hk;subst ek;have rf:=IsP.val (k:=k) ip;rw[hw]at rf;cases hv:kr kvs k with
   |none=>rw[hv]at rf;exact rf.elim
   |some z=>
    rw[hv]at rf;exact⟨a,z,rfl,by have:=DGet.k (k:=k) hx;rw[hv]at this;exact this,post m2 _ H2 (e1.trans e2) sr2 rf⟩
  ·rename_i ep kus hS;obtain⟨k,hk,h5⟩:=Q2.mp h4;obtain⟨w,hw,h6⟩:=Q2.mp h5;cases h6;refine .inr ⟨m,ρ,S,_,S1,sr,lr,h1,fun m1 v1 H1 e1 sr1 i1=>⟨m1,ρ,S1,_,S',sr1,lr.mono e1,h3,fun m2 v2 H2 e2 sr2 i2=>?_⟩⟩;obtain⟨a,ha,rfl⟩:=(i1.mono e2).of_ref;obtain⟨a',ha',ob,es,kvs,hx,hd,ip⟩:=sr2.get hS;rw[ha]at ha';cases ha';have ek:=iV i2 hk;subst ek;have rf:=IsP.val (k:=k) ip;rw[hw]at rf;cases hv:kr kvs k with
   |none=>rw[hv]at rf;exact rf.elim
   |some z=>
    rw[hv]at rf;exact⟨a,z,rfl,by have:=DGet.kz (k:=k) hx;rw[hv]at this;exact this,post m2 _ H2 (e1.trans e2) sr2 rf⟩
 |kl ns=>
  simp only[fIx]at h4;split at h4<;>try cases h4
  rename_i i;obtain⟨w,hw,h5⟩:=Q2.mp h4;cases h5;refine .inl ⟨m,ρ,S,_,S1,sr,lr,h1,fun m1 v1 H1 e1 sr1 i1=>⟨m1,ρ,S1,_,S',sr1,lr.mono e1,h3,fun m2 v2 H2 e2 sr2 i2=>.inl ?_⟩⟩;obtain⟨a,rfl,ka⟩:=(i1.mono e2).of_kl;obtain⟨z,ez,iz⟩:=xq (rG (K:=X.K) (m:=m2) (H:=H2) ns) hw;exact⟨a,_,i,z,rfl,i2.of_int,ka.sq,ez,post m2 _ H2 (e1.trans e2) sr2 iz⟩
 |_=>simp[fIx]at h4
def ji:U->U->U->Sto->Option Sto:=fun o i v S=>match o with
 |.ref l=>match S[l]? with
  |some (.lst us)=>(match i with
   |.int k=>(ixN us.length k).bind fun j=>some (S.set l (.lst (us.set j v)))
   |_=>none)
  |some (.dic kus)=>(nY i).bind fun k=>if kus.length<LIM then some (S.set l (.dic (jc kus k v)))else none
  |_=>none
 |_=>none
def oM(co ci cv:CE):CS:=fun ρ S=>(cv ρ S).bind fun p=>(co ρ p.2).bind fun q=>(ci ρ q.2).bind fun r=>(ji q.1 r.1 p.1 r.2).bind fun S'=>some (.nx,ρ,S')
theorem qN{o i:Expr}{co ci cv:CE}{pos':Pos}(hu:X.A.units+1<cLine)(ho:QE X o co)(hi:QE X i ci)(hv:QE X e cv)
  (hs0:swapsWithSole [.Subscript o i pos'] e pos.line X.env=pure false:=by rfl) (hw:swappedStores [.Subscript o i pos'] e X.env=pure none:=by rfl)
  (h1:(assignEach [.Subscript o i pos'] X.env).map (·.2)=[assign (.Subscript o i pos') X.env]:=by rfl)
  (hs:swapsWith e (some (.Subscript o i pos')) pos.line X.env=pure false:=by rfl)
  (ha:∀v,assign (.Subscript o i pos') X.env v=(do
   let ov <-holding [v] (eval o X.env)
   let iv <-holding [v,ov] (eval i X.env)
   standAt pos'
   holding [v,ov,iv] (setItem ov iv v)
   release [v,ov,iv] []):=by intro _;rfl):QS X (.Assign [.Subscript o i pos'] e pos) (oM co ci cv):=
 ((ui hv (BN ho hi lX ha) hs0 hw h1).or (qq hu ho hi hv hs)).imp fun D σ H hz=>tR hz fun m ρ S o ρ' S' sr lr hc post=>by
 obtain⟨⟨v,S1⟩,h1,h⟩:=Q2.mp hc;obtain⟨⟨ou,S2⟩,h2,h⟩:=Q2.mp h;obtain⟨⟨iu,S3⟩,h3,h⟩:=Q2.mp h;obtain⟨S4,h4,h⟩:=Q2.mp h;cases h;cases ou with
 |ref l=>
  simp only[ji]at h4;split at h4<;>try cases h4
  ·rename_i us hS;split at h4<;>try cases h4
   rename_i k;obtain⟨j,hj,h5⟩:=Q2.mp h4;cases h5;refine .inl ⟨m,ρ,S,v,S1,sr,lr,h1,fun m1 v1 H1 e1 sr1 i1=>⟨m1,ρ,S1,_,S2,sr1,lr.mono e1,h2,fun m2 v2 H2 e2 sr2 i2=>⟨m2,ρ,S2,_,S3,sr2,lr.mono (e1.trans e2),h3,fun m3 v3 H3 e3 sr3 i3=>?_⟩⟩⟩;obtain⟨a,ha,rfl⟩:=(i2.mono e3).of_ref;obtain⟨a',ha',xs,hx,la⟩:=sr3.get hS;rw[ha]at ha';cases ha';have e13:=(e1.trans e2).trans e3;have ek:Ext X.K m3 H3 m3 (upd H3 a (.lst (xs.set j v1))):=.of (sr3.keep ha _);refine⟨a,xs,k,j,rfl,i3.of_int,hx,by rw[la.length];exact hj,post m3 σ _ (e13.trans ek) (sr3.put ha ⟨_,aH,((la.set (i1.mono (e2.trans e3)))).mono ek⟩) (lr.mono (e13.trans ek))⟩
  ·rename_i kus hS;obtain⟨k,hk,h5⟩:=Q2.mp h4;split at h5<;>try cases h5
   have hlen:kus.length<LIM:=by assumption
   refine .inr ⟨m,ρ,S,v,S1,sr,lr,h1,fun m1 v1 H1 e1 sr1 i1=>⟨m1,ρ,S1,_,S2,sr1,lr.mono e1,h2,fun m2 v2 H2 e2 sr2 i2=>⟨m2,ρ,S2,_,S3,sr2,lr.mono (e1.trans e2),h3,fun m3 v3 H3 e3 sr3 i3=>?_⟩⟩⟩;obtain⟨a,ha,rfl⟩:=(i2.mono e3).of_ref;obtain⟨a',ha',kvs,hx,ip⟩:=sr3.get hS;rw[ha]at ha';cases ha';have ek:=iV i3 hk;subst ek;have e13:=(e1.trans e2).trans e3;have ee:Ext X.K m3 H3 m3 (upd H3 a (.dK (o5 kvs k v1))):=.of (sr3.keep ha _);exact⟨a,_,rfl,Be.k hx (F9 (by rw[IsP.length ip];exact hlen)),post m3 σ _ (e13.trans ee) (sr3.put ha ⟨_,aH,(IsP.put ip (i1.mono (e2.trans e3))).mono ee⟩) (lr.mono (e13.trans ee))⟩
 |_=>simp[ji]at h4
end
def DO:CE:=fun _ S=>some (.ref S.length,S++[.dic []])
theorem Fj:QE X (.Dict [] [] pos) DO:=uo.imp fun σ H Q hz=>iF hz fun m ρ S u S' sr lr hc post=>by
 cases hc;exact fun p hp=>post (m++[p]) _ _ (.new (bp hp _)) (sr.new hp ⟨[],aH,.nil_⟩) (.ref_ (cm sr.len))
def me(n:Nat)(caps:List Nat)(ρ:Rho):Rho:=Za n none++caps.map fun i=>(ρ[i]?).getD none
open Classical in
def iG(ok:Sto->Prop)(g:CG)(ce:CE)(l:Nat):List U->Rho->Sto->Option Sto
 |[],_,S=>if ok S then some S else none
 |u::us,ρ,S=>if ok S then(g u ρ S).bind fun p=>(ce p.1 p.2).bind fun r=>match r.2[l]? with
  |some (.lst ys)=>if ys.length<LIM then iG ok g ce l us p.1 (r.2.set l (.lst (ys++[r.1])))else none
  |_=>none else none
def iI(ci:CI)(g:CG)(ce:CE)(n:Nat)(caps:List Nat):CE:=fun ρ S=>(ci ρ S).bind fun p=>(iG p.2.1 g ce p.2.2.length p.1 (me n caps ρ) (p.2.2++[.lst []])).bind fun S'=>some (.ref p.2.2.length,S')
section
theorem vO{m:List Addr}{H:Hp}{ρ:Rho}{σ:L2.St}{n:Nat}{caps:List Nat}(lr:Lr K m H ρ σ):Lr K m H (me n caps ρ) (OG.stC n caps σ):=by
 refine⟨by simp[me,OG.stC],fun j u e=>?_⟩;unfold me at e;unfold OG.stC;by_cases c:j<n
 ·rw[QD (by simpa using c),XF]at e;split at e<;>cases e
 ·rw[QK (by simp;omega),Qb]at e ⊢;simp only[List.length_replicate]at e ⊢;cases q:caps[j-n]? with
  |none=>rw[q]at e;simp at e
  |some i=>
   rw[q]at e;simp only[Option.map_some,Option.some.injEq]at e ⊢;have e2:ρ[i]?=some (some u):=by
    cases z:ρ[i]? with
    |none=>rw[z]at e;simp at e
    |some y=>rw[z]at e;simp at e;rw[e]
   obtain⟨v,h1,h2⟩:=lr.at_ i u e2;exact⟨v,by rw[h1];rfl,h2⟩
theorem oF{g:CG}{ce:CE}{n:Nat}{caps:List Nat}{J:It}{us:List U}{ok:Sto->Prop}{Q:VK}{m1:List Addr}{H1:Hp}{S1 S':Sto}{ρ:Rho}{σ:L2.St}{l:Addr}(sr1:Sr K m1 S1 H1)(lr:Lr K m1 H1 ρ σ)(ito:Aj K J m1 H1 us ok)(hl:H1 l=none)(h2:iG ok g ce S1.length us (me n caps ρ) (S1++[.lst []])=some S')
  (post:∀m2 H2,Ext K (m1++[l]) (upd H1 l (.lst [])) m2 H2->Sr K m2 S' H2->Q (.ref l) H2) :
  ∃W:Nat->Nat->L2.St->Hp->Prop,(∃m,W 0 m (OG.stC n caps σ) (upd H1 l (.lst [])))/\
 ∀i m σ' H2,W i m σ' H2->(J.stop i H2/\Q (.ref l) H2)\/(J.go i H2/\∃N:L2.St->Hp->Prop,(∀σ'' H',N σ'' H'->∃m',m'<m/\W (i+1) m' σ'' H')/\
  ∀x H3,J.yld i H2 x H3->tG K g x σ' H3 fun σ2 H4=>tE K ce σ2 H4 fun v H5=>∃ys,H5 l=some (.lst ys)/\ys.length<sizeLine/\N σ2 (upd H5 l (.lst (ys++[v])))):=by
 have ee:Ext K m1 H1 (m1++[l]) (upd H1 l (.lst [])):=.new (bp hl _);let W:Nat->Nat->L2.St->Hp->Prop:=fun i k σ2 H2=>k=us.length-i/\i<=us.length/\∃m2 ρ2 S2,Ext K (m1++[l]) (upd H1 l (.lst [])) m2 H2/\Sr K m2 S2 H2/\Lr K m2 H2 ρ2 σ2/\iG ok g ce S1.length (us.drop i) ρ2 S2=some S'
 refine⟨W,⟨us.length,by simp,Qi _,m1++[l],me n caps ρ,S1++[.lst []],.refl,sr1.new (o:=.lst []) hl ⟨[],aH,.nil_⟩,vO (lr.mono ee),by simpa using h2⟩,?_⟩;rintro i k σ2 H2 ⟨rfl,hi,m2,ρ2,S2,e2,sr2,lr2,hl2⟩;by_cases hlt:i<us.length
 ·have hu:=Q4 hlt;rw[ke hu]at hl2;unfold iG at hl2;split at hl2
  ·rename_i hok;obtain⟨⟨ρ3,S3⟩,h3,hl2⟩:=Q2.mp hl2;obtain⟨⟨u4,S4⟩,h4,hl2⟩:=Q2.mp hl2;simp only at hl2;split at hl2<;>try cases hl2
   rename_i ys hys;split at hl2<;>try cases hl2
   rename_i hlen;obtain⟨hgo,hy⟩:=(ito m2 S2 H2 i (ee.trans e2) sr2 hok).1 _ hu;refine .inr ⟨hgo,W (i+1) (us.length-(i+1)),fun σ' H' w'=>⟨_,by omega,w'⟩,fun x H3 y=>?_⟩;obtain⟨e3,sr3,ix⟩:=hy x H3 y;refine⟨m2,ρ2,S2,_,ρ3,S3,sr3,lr2.mono e3,ix,h3,fun m4 σ4 H4 e4 sr4 lr4=>⟨m4,ρ3,S3,u4,S4,sr4,lr4,h4,fun m5 v5 H5 e5 sr5 i5=>?_⟩⟩;obtain⟨a',ha',xs,hx,il⟩:=sr5.get hys;have ha:m5[S1.length]?=some l:=(((e2.trans e3).trans e4).trans e5).get (cm sr1.len);rw[ha]at ha';cases ha';have eu:Ext K m5 H5 m5 (upd H5 l (.lst (xs++[v5]))):=.of (sr5.keep ha _);refine⟨xs,hx,F9 (by rw[il.length];exact hlen),rfl,hlt,m5,ρ3,_,((((e2.trans e3).trans e4).trans e5).trans eu),sr5.put (o:=.lst (ys++[u4])) ha ⟨_,aH,(il.append (.cons_ i5 .nil_)).mono eu⟩,(lr4.mono (e5.trans eu)),hl2⟩
  ·cases hl2
 ·have e:i=us.length:=by omega
  subst e;rw[List.drop_length]at hl2;unfold iG at hl2;split at hl2
  ·rename_i hok;cases hl2;exact .inl ⟨(ito m2 _ H2 _ (ee.trans e2) sr2 hok).2 (QJ _),post m2 H2 e2 sr2⟩
  ·cases hl2
theorem rR{ci:CI}{g:CG}{ce:CE}{n:Nat}{caps:List Nat}:∀σ H Q,tE K (iI ci g ce n caps) σ H Q->yj (tI K ci) (tG K g) (tE K ce) n caps σ H Q:=by
 rintro σ H Q ⟨m,ρ,S,u,S',sr,lr,hc,post⟩;obtain⟨⟨us,ok,S1⟩,h1,h2⟩:=Q2.mp hc;obtain⟨S2,h2,h3⟩:=Q2.mp h2;cases h3;refine⟨m,ρ,S,us,ok,S1,sr,lr,h1,fun m1 H1 J e1 sr1 ito l hl=>?_⟩;have ee:Ext K m1 H1 (m1++[l]) (upd H1 l (.lst [])):=.new (bp hl _);exact oF sr1 (lr.mono e1) ito hl h2 fun m2 H2 e2 sr2=>post m2 _ H2 ((e1.trans ee).trans e2) sr2 (.ref_ (e2.get (cm sr1.len)))
theorem kS{Nc capN tn:List Str}{scope:Scope}{cl:List (Str×Addr)}{n:Nat}{caps:List Nat}{tg iter elt:Expr}{pos:Pos}{ci:CI}{g:CG}{ce:CE}
  (hc:X.calm=true) (hi:QI X tg iter ci) (hg:∀s3 H3 fp,WG (cxC X Nc scope cl s3 H3 fp) tg (tG X.K g)) (he:∀s3 H3 fp,WE (cxC X Nc scope cl s3 H3 fp) elt (tE X.K ce))
  (hclos:closureFor scope X.env=pure cl) (hkind:scope.kind=.function) (hnl:∀x∈scope.names,x.2=.local->scope.names.lookup x.1=some .local) (hcell:∀x∈scope.names,x.2≠.cell)
  (hcl:o9 X.env cl) (hhas:((relabel scope X.env).names.all fun p=>!(p.2 == .cell||p.2 == .free)||(cl.lookup p.1).isSome)=true)
  (hcap:Paired (Cap X scope cl) caps capN) (hN:Nc=tn++capN) (hn:tn.length=n)
  (hs:∀x,foldedSetIterable iter X.env x=pure x:=by intro _;rfl) :
  QE X (.ListComp elt [⟨tg,iter,[],0⟩] scope pos) (iI ci g ce n caps):=(qt hc hi hg he hclos hkind hnl hcell hcl hhas hcap hN hn hs).imp rR
noncomputable def jn:Fn
 |[.tup us],S=>some (.int us.length,S)
 |[.ref l],S=>match S[l]? with
  |some (.lst us)=>some (.int us.length,S)
  |some (.dic us)=>some (.int us.length,S)
  |_=>none
 |[.kl ns],S=>some (.int ns.length,S)
 |_,_=>none
abbrev JE(K:Q5):List V->Hp->VK->Prop:=fun xs H Q=>(∃p ys,xs=[.ref p]/\(SqL K H p ys\/SqT K H p ys)/\Q (.int ys.length) H)\/∃a kvs,xs=[V.ref a]/\H a=some (.dK kvs)/\Q (.int kvs.length) H
theorem gq:bX X (.builtin "len") (JE X.K):=oJ.or w9
theorem IsL.one{m:List Addr}{H:Hp}{vs:List V}{u:U}(h:IsL K m H vs [u]):∃v,vs=[v]/\Is K m H v u:=by
 obtain⟨x,r,rfl,i,t⟩:=h.of_cons;rw[t.of_nil];exact⟨x,rfl,i⟩
theorem IsL.two{m:List Addr}{H:Hp}{vs:List V}{u w:U}(h:IsL K m H vs [u,w]):∃v x,vs=[v,x]/\Is K m H v u/\Is K m H x w:=by
 obtain⟨x,r,rfl,i,t⟩:=h.of_cons;obtain⟨y,rfl,j⟩:=t.one;exact⟨x,y,rfl,i,j⟩
theorem gk:gJ K (JE K) jn:=by
 intro m S H us vs u S' Q sr i hf post;match us,hf with
 |[.tup ws],hf=>
  cases hf;obtain⟨v,rfl,iv⟩:=i.one;obtain⟨a,xs,rfl,sa,la⟩:=iv.of_tup;exact .inl ⟨a,xs,rfl,.inr sa,by rw[la.length];exact post m _ H .refl sr .int_⟩
 |[.ref l],hf=>
  obtain⟨v,rfl,iv⟩:=i.one;obtain⟨a,ha,rfl⟩:=iv.of_ref;simp only[jn]at hf;split at hf<;>try cases hf
  ·rename_i ws hS;obtain⟨a',ha',xs,hx,la⟩:=sr.get hS;rw[ha]at ha';cases ha';exact .inl ⟨a,xs,rfl,.inl (SqL.of hx),by rw[la.length];exact post m _ H .refl sr .int_⟩
  ·rename_i ws hS;obtain⟨a',ha',xs,hx,la⟩:=sr.get hS;rw[ha]at ha';cases ha';exact .inr ⟨a,xs,rfl,hx,by rw[IsP.length la];exact post m _ H .refl sr .int_⟩
 |[.kl ns],hf=>
  cases hf;obtain⟨v,rfl,iv⟩:=i.one;obtain⟨a,rfl,ka⟩:=iv.of_kl;exact .inl ⟨a,_,rfl,.inl ka.sq,by rw[QX];exact post m _ H .refl sr .int_⟩
noncomputable def jj:Fn
 |[.tup us],S=>some (.ref S.length,S++[.lst us])
 |[.ref l],S=>match S[l]? with
  |some (.lst us)=>some (.ref S.length,S++[.lst us])
  |_=>none
 |_,_=>none
theorem nN:gJ K (fun xs H Q=>∃p ys,xs=[.ref p]/\(SqL K H p ys\/SqT K H p ys)/\∀l,H l=none->Q (.ref l) (upd H l (.lst ys))) jj:=by
 intro m S H us vs u S' Q sr i hf post;match us,hf with
 |[.tup ws],hf=>
  cases hf;obtain⟨v,rfl,iv⟩:=i.one;obtain⟨a,xs,rfl,sa,la⟩:=iv.of_tup;exact⟨a,xs,rfl,.inr sa,fun l hl=>bA sr la post hl⟩
 |[.ref l],hf=>
  obtain⟨v,rfl,iv⟩:=i.one;obtain⟨a,ha,rfl⟩:=iv.of_ref;simp only[jj]at hf;split at hf<;>try cases hf
  rename_i ws hS;obtain⟨a',ha',xs,hx,la⟩:=sr.get hS;rw[ha]at ha';cases ha';exact⟨a,xs,rfl,.inl (SqL.of hx),fun l hl=>bA sr la post hl⟩
noncomputable def eO:Fn
 |[.tup us],S=>some (.tup us,S)
 |[.ref l],S=>match S[l]? with
  |some (.lst us)=>some (.tup us,S)
  |_=>none
 |_,_=>none
theorem gh:gJ K (fun xs H Q=>∃p ys,xs=[.ref p]/\((SqL K H p ys/\∀l,H l=none->Q (.ref l) (upd H l (.tup ys)))\/(SqT K H p ys/\Q (.ref p) H))) eO:=by
 intro m S H us vs u S' Q sr i hf post;match us,hf with
 |[.tup ws],hf=>
  cases hf;obtain⟨v,rfl,iv⟩:=i.one;obtain⟨a,xs,rfl,sa,la⟩:=iv.of_tup;exact⟨a,xs,rfl,.inr ⟨sa,post m _ H .refl sr iv⟩⟩
 |[.ref l],hf=>
  obtain⟨v,rfl,iv⟩:=i.one;obtain⟨a,ha,rfl⟩:=iv.of_ref;simp only[eO]at hf;split at hf<;>try cases hf
  rename_i ws hS;obtain⟨a',ha',xs,hx,la⟩:=sr.get hS;rw[ha]at ha';cases ha';exact⟨a,xs,rfl,.inl ⟨SqL.of hx,fun l hl=>jv sr la post hl⟩⟩
def GI:Fn
 |[.int i],S=>some (.int i,S)
 |[.bl b],S=>some (.int (if b then 1 else 0),S)
 |_,_=>none
theorem FQ:gJ K (fun xs H Q=>(∃i,xs=[.int i]/\Q (.int i) H)\/∃k,xs=[.bl k]/\Q (.int (if k then 1 else 0)) H) GI:=by
 intro m S H us vs u S' Q sr i hf post;match us,hf with
 |[.int j],hf=>
  cases hf;obtain⟨v,rfl,iv⟩:=i.one;exact .inl ⟨j,by rw[iv.of_int],post m _ H .refl sr .int_⟩
 |[.bl j],hf=>
  cases hf;obtain⟨v,rfl,iv⟩:=i.one;exact .inr ⟨j,by rw[iv.of_bl],post m _ H .refl sr .int_⟩
def Hh:Fn
 |[.int i,.int j],S=>some (.int (if j<i then j else i),S)
 |_,_=>none
theorem IF:gJ K (fun xs H Q=>∃i j,xs=[.int i,.int j]/\Q (.int (if j<i then j else i)) H) Hh:=by
 intro m S H us vs u S' Q sr i hf post;match us,hf with
 |[.int j,.int k],hf=>
  cases hf;obtain⟨v,w,rfl,iv,iw⟩:=i.two;exact⟨j,k,by rw[iv.of_int,iw.of_int],post m _ H .refl sr .int_⟩
def Hi:Fn
 |[.int i,.int j],S=>some (.int (if j>i then j else i),S)
 |_,_=>none
theorem IG:gJ K (fun xs H Q=>∃i j,xs=[.int i,.int j]/\Q (.int (if j>i then j else i)) H) Hi:=by
 intro m S H us vs u S' Q sr i hf post;match us,hf with
 |[.int j,.int k],hf=>
  cases hf;obtain⟨v,w,rfl,iv,iw⟩:=i.two;exact⟨j,k,by rw[iv.of_int,iw.of_int],post m _ H .refl sr .int_⟩
noncomputable def mG:List U->Option (List Int)
 |[]=>some []
 |.int i::r=>(mG r).map (i::·)
 |_=>none
noncomputable def DP:List U->Option (List Bool)
 |[]=>some []
 |.bl i::r=>(DP r).map (i::·)
 |_=>none
theorem iD:∀{us:List U} {ns:List Int},mG us=some ns->us=ns.map U.int
 |[],ns,h=>by cases h;rfl
 |u::r,ns,h=>by
  cases u<;>simp only[mG]at h<;>try cases h
  obtain⟨ms,e,h⟩:=Qs.mp h;subst h;rw[iD e];rfl
theorem dW:∀(ns:List Int),mG (ns.map U.int)=some ns
 |[]=>rfl
 |n::r=>by simp[mG,dW r]
theorem p8:∀{us:List U} {ns:List Bool},DP us=some ns->us=ns.map U.bl
 |[],ns,h=>by cases h;rfl
 |u::r,ns,h=>by
  cases u<;>simp only[DP]at h<;>try cases h
  obtain⟨ms,e,h⟩:=Qs.mp h;subst h;rw[p8 e];rfl
theorem iJ:∀(ns:List Bool),DP (ns.map U.bl)=some ns
 |[]=>rfl
 |n::r=>by simp[DP,iJ r]
theorem IsL.ints{m:List Addr}{H:Hp}:∀{xs:List V} {ns:List Int},IsL K m H xs (ns.map U.int)->xs=ns.map V.int
 |xs,[],h=>h.of_nil
 |xs,n::ns,h=>by
  obtain⟨x,r,rfl,i,t⟩:=h.of_cons;rw[IsL.ints t,i.of_int];rfl
theorem IsL.bls{m:List Addr}{H:Hp}:∀{xs:List V} {ns:List Bool},IsL K m H xs (ns.map U.bl)->xs=ns.map V.bl
 |xs,[],h=>h.of_nil
 |xs,n::ns,h=>by
  obtain⟨x,r,rfl,i,t⟩:=h.of_cons;rw[IsL.bls t,i.of_bl];rfl
theorem fN{m:List Addr}{H:Hp}:∀(ns:List Int),IsL K m H (ns.map V.int) (ns.map U.int)
 |[]=>.nil_
 |n::ns=>.cons_ .int_ (fN ns)
def wF:Fn
 |[.ref l],S=>match S[l]? with
  |some (.lst us)=>(DP us).bind fun bs=>some (.bl (bs.all id),S)
  |_=>none
 |_,_=>none
theorem C0:gJ K (fun xs H Q=>∃(p:Addr) (bs:List Bool),xs=[.ref p]/\SqL K H p (bs.map V.bl)/\Q (.bl (bs.all id)) H) wF:=by
 intro m S H us vs u S' Q sr i hf post;match us,hf with
 |[.ref l],hf=>
  obtain⟨v,rfl,iv⟩:=i.one;obtain⟨a,ha,rfl⟩:=iv.of_ref;simp only[wF]at hf;split at hf<;>try cases hf
  rename_i ws hS;obtain⟨bs,hb,h⟩:=Q2.mp hf;cases h;obtain⟨a',ha',xs,hx,la⟩:=sr.get hS;rw[ha]at ha';cases ha';rw[p8 hb]at la;rw[la.bls]at hx;exact⟨a,bs,rfl,SqL.of hx,post m _ H .refl sr .bl_⟩
inductive Ty where
 |non|bool|int|str|tuple|list|dict
def Ty.nm:Ty->String
 |.non=>"NoneType"|.bool=>"bool"|.int=>"int"|.str=>"str"|.tuple=>"tuple"|.list=>"list"|.dict=>"dict"
noncomputable def tyU:U->Sto->Option Ty
 |.non,_=>some .non|.bl _,_=>some .bool|.int _,_=>some .int|.str _,_=>some .str|.tup _,_=>some .tuple
 |.ref l,S=>match S[l]? with
  |some (.lst _)=>some .list
  |some (.dic _)=>some .dict
  |_=>none
 |.kl _,_=>none
def yk:Ty->Ty->Bool
 |.non,.non=>true|.bool,.bool=>true|.bool,.int=>true|.int,.int=>true|.str,.str=>true|.tuple,.tuple=>true|.list,.list=>true|.dict,.dict=>true
 |_,_=>false
theorem jR(a b:Ty)(hb:b≠.non):PySem.W.kitOne K (.type a.nm) (.type b.nm)=some (yk a b):=by
 cases b<;>first|exact absurd rfl hb|(cases a<;>rfl)
abbrev Ki(K:Q5):List V->Hp->VK->Prop:=fun xs H Q=>(∃(x:V) (T:String) (t:Value) (k:Bool),xs=[x,.ty T]/\sh K H x t/\PySem.W.kitOne K t (.type T)=some k/\Q (.bl k) H)\/
 ∃(a:Addr) (ys:List V) (T:String) (k:Bool),xs=[.ref a,.ty T]/\SqT K H a ys/\PySem.W.kitOne K (.type "tuple") (.type T)=some k/\Q (.bl k) H
theorem IP:bX X (.builtin "isinstance") (Ki X.K):=by
 refine p6.or ?_;rintro pins s σ H xs us Q I r ⟨a,ys,T,k,rfl,sq,e,q⟩;obtain⟨u,w',rfl,ru,rw'⟩:=uz r;cases rw';cases ru;obtain⟨its,rv,ht,hz⟩:=I.tuple sq;obtain⟨o,h1,h2,_⟩:=ht;exact PySem.W.kia_one PySem.W.kitx_tuple I.kIn ⟨o,h1,h2⟩ e (fun z=>nomatch z) fun tk=>⟨.bl k,H,I.tok tk,rfl,q⟩
def D4(T:Ty)(ca:CE):CE:=fun ρ S=>(ca ρ S).bind fun p=>(tyU p.1 p.2).bind fun t=>some (.bl (yk t T),p.2)
theorem yD{T:Ty}{e eT:Expr}{ca:CE}{p pos:Pos}(hT0:T≠.non)(he:QE X e ca)(hT:WE X eT (tC (.ty T.nm)))(hg:Gl X "isinstance")(hm:X.mg "isinstance"=none)
  (h1:starEach [e,eT] X.env=(false,eval e X.env)::starEach [eT] X.env:=by rfl) (h2:starEach [eT] X.env=(false,eval eT X.env)::starEach [] X.env:=by rfl) (hpl:(backTo pos (starEach [eT] X.env)).any (·.1)=false:=by rfl) :
  QE X (.Call (.Name "isinstance" p) [e,eT] [] pos) (D4 T ca):=(gK IP hg hm OG.km (cK he (cK hT eQ h2) h1) (by decide) (by decide) h1 hpl).imp fun σ H Q hz=>iF hz fun m ρ S u S' sr lr hc post=>by
 obtain⟨⟨x,S1⟩,h1,h2⟩:=Q2.mp hc;obtain⟨t,ht,h3⟩:=Q2.mp h2;cases h3;refine⟨m,ρ,S,x,_,sr,lr,h1,fun m1 v1 H1 e1 sr1 i1=>?_⟩;have fin:=post m1 _ H1 e1 sr1 (Is.bl_ (b:=yk t T));cases x with
 |non=>cases ht;rw[i1.of_non];exact .inl ⟨_,_,_,_,rfl,.non,jR .non T hT0,fin⟩
 |bl b=>cases ht;rw[i1.of_bl];exact .inl ⟨_,_,_,_,rfl,.bl b,jR .bool T hT0,fin⟩
 |int i=>cases ht;rw[i1.of_int];exact .inl ⟨_,_,_,_,rfl,.int i,jR .int T hT0,fin⟩
 |str i=>cases ht;rw[i1.of_str];exact .inl ⟨_,_,_,_,rfl,.str i,jR .str T hT0,fin⟩
 |tup us=>
  cases ht;obtain⟨a,xs,rfl,sa,la⟩:=i1.of_tup;exact .inr ⟨a,xs,_,_,rfl,sa,jR .tuple T hT0,fin⟩
 |ref l=>
  obtain⟨a,ha,rfl⟩:=i1.of_ref;simp only[tyU]at ht;split at ht<;>try cases ht
  ·rename_i ws hS;obtain⟨a',ha',xs,hx,la⟩:=sr1.get hS;rw[ha]at ha';cases ha';exact .inl ⟨_,_,_,_,rfl,.lst hx,jR .list T hT0,fin⟩
  ·rename_i ws hS;obtain⟨a',ha',xs,hx,la⟩:=sr1.get hS;rw[ha]at ha';cases ha';exact .inl ⟨_,_,_,_,rfl,.dK hx,jR .dict T hT0,fin⟩
 |kl ns=>cases ht
def cBM(f:U->List U->Sto->Option (U×Sto))(co:CE)(cr:CA):CE:=fun ρ S=>(co ρ S).bind fun p=>match p.1 with
 |.ref l=>match p.2[l]? with
  |some (.lst _)=>(cr ρ p.2).bind fun q=>f p.1 q.1 q.2
  |_=>none
 |_=>none
def MtP(K:Q5)(r:V->List V->Hp->VK->Prop)(f:U->List U->Sto->Option (U×Sto)):Prop:=
 ∀m S H x v us vs u S' Q,Sr K m S H->Is K m H v x->IsL K m H vs us->f x us S=some (u,S')->iK K m H Q u S'->r v vs H Q
theorem oN{r:V->List V->Hp->VK->Prop}{f:U->List U->Sto->Option (U×Sto)}{co:CE}{cr:CA}(hp:MtP K r f):∀σ H Q,tE K (cBM f co cr) σ H Q->tBM K "list" r (tE K co) (tA K cr) σ H Q:=by
 rintro σ H Q ⟨m,ρ,S,u,S',sr,lr,hc,post⟩;obtain⟨⟨x,S1⟩,h1,h2⟩:=Q2.mp hc;refine⟨m,ρ,S,x,S1,sr,lr,h1,fun m1 v1 H1 e1 sr1 i1=>?_⟩;cases x with
 |ref l=>
  simp only at h2;split at h2<;>try cases h2
  rename_i ws hS;obtain⟨⟨us,S2⟩,h3,h4⟩:=Q2.mp h2;obtain⟨a,ha,rfl⟩:=id i1.of_ref;obtain⟨a',ha',xs,hx,la⟩:=sr1.get hS;rw[ha]at ha';cases ha';exact⟨.inl ⟨rfl,xs,SqL.of hx⟩,m1,ρ,S1,us,S2,sr1,lr.mono e1,h3,fun m2 vs H2 e2 sr2 i2=>hp m2 S2 H2 _ _ us vs u S' Q sr2 (i1.mono e2) i2 h4 (post.mono (e1.trans e2))⟩
 |_=>simp at h2
def cW:U->List U->Sto->Option (U×Sto)
 |.ref l,[u],S=>match S[l]? with
  |some (.lst us)=>if us.length<LIM then some (.non,S.set l (.lst (us++[u])))else none
  |_=>none
 |_,_,_=>none
theorem y2:MtP K u0 cW:=by
 intro m S H x v us vs u S' Q sr ix i hf post;match x,us,hf with
 |.ref l,[w],hf=>
  simp only[cW]at hf;split at hf<;>try cases hf
  rename_i ws hS;split at hf<;>try cases hf
  rename_i hl;obtain⟨a,ha,rfl⟩:=ix.of_ref;obtain⟨a',ha',xs,hx,la⟩:=sr.get hS;rw[ha]at ha';cases ha';obtain⟨y,rfl,iy⟩:=i.one;have eu:Ext K m H m (upd H a (.lst (xs++[y]))):=.of (sr.keep ha _);exact⟨a,xs,y,rfl,rfl,hx,F9 (by rw[la.length];exact hl),post m _ _ eu (sr.put ha ⟨_,aH,(la.append (.cons_ iy .nil_)).mono eu⟩) .non_⟩
variable{co:CE}{o:Expr}{apos cpos:Pos}
theorem eA (ho : QE X o co) (ha : QA X (e :: es) cr) (hbase : attributeBase o "append" X.env (eval o X.env) = eval o X.env := by rfl) (hfew : ((backTo cpos (starEach (e :: es) X.env)).all (fun x => !x.1) && (backToKw cpos (keywordEach [] X.env)).all (fun x => x.1.isSome)
   && decide ((e::es).length+([]:List Keyword).length+(if ([]:List Keyword).isEmpty then 0 else 1)<30))=true:=by rfl) (hline:(apos.endLine == cpos.line)=true:=by rfl) (hs:starEach (e::es) X.env=(false,eval e X.env)::starEach es X.env:=by rfl) (hplain:(backTo cpos (starEach es X.env)).any (·.1)=false:=by rfl) :
  QE X (.Call (.Attribute o "append" apos) (e::es) [] cpos) (cBM cW co cr):=(qv PySem.F.plainAttrs_list PySem.F.slot_list_append PySem.F.type_list_append jO ho ha.h hbase hfew hline hs hplain).imp (oN y2)
end
def SI:Bool->Heap->Addr->Addr->Nat->Prop
 |true,h,it,a,i=>h.IsListIter it a i
 |false,h,it,a,i=>h.IsTupleIter it a i
def SA:Bool->Heap->Addr->Array Value->Prop
 |true,h,a,xs=>h.IsList a xs
 |false,h,a,xs=>h.IsTuple a xs
theorem SI.at_{b:Bool}{h h':Heap}{it a:Addr}{i:Nat}(x:SI b h it a i)(k:∀o,h.get? it=some o->h'.get? it=some o):SI b h' it a i:=by
 cases b with
 |true=>obtain⟨o,e,r⟩:=x;exact⟨o,k o e,r⟩
 |false=>obtain⟨o,e,r⟩:=x;exact⟨o,k o e,r⟩
theorem SA.at_{b:Bool}{h h':Heap}{a:Addr}{xs:Array Value}(x:SA b h a xs)(k:∀o,h.get? a=some o->h'.get? a=some o):SA b h' a xs:=by
 cases b with
 |true=>obtain⟨o,e,r⟩:=x;exact⟨o,k o e,r⟩
 |false=>obtain⟨o,e,r⟩:=x;exact⟨o,k o e,r⟩
theorem SI.obj{b:Bool}{h:Heap}{it a:Addr}{i:Nat}(x:SI b h it a i):∃o,h.get? it=some o/\∀v,o.data≠.cell v:=by
 cases b with
 |true=>obtain⟨o,e,c,d⟩:=x;exact⟨o,e,fun v z=>by rw[d]at z;cases z⟩
 |false=>obtain⟨o,e,c,d⟩:=x;exact⟨o,e,fun v z=>by rw[d]at z;cases z⟩
theorem SA.lt{b:Bool}{h:Heap}{a:Addr}{xs:Array Value}(x:SA b h a xs):a<h.objs.size:=by
 cases b with
 |true=>obtain⟨o,e,_⟩:=x;exact QV e
 |false=>obtain⟨o,e,_⟩:=x;exact QV e
variable{s:Shared}
section
variable{prog:Program}{A:Around}{E:Value->Shared->Prop}
theorem yf{I t:Addr}{j:Nat}{ys:Array Value}{y:Value}{Q:Value->Shared->Prop}(hI:s.heap.IsTupleIter I t j)(hT:s.heap.IsTuple t ys)(hy:ys[j]?=some y)
  (k:∀h',h'.IsTupleIter I t (j+1)->XI I s.heap h'->Q y { s with heap:=h' }):wpAny (model prog w) A (Builtin.SmallTypes.nextOf (.ref I)) Q E s:=by
 obtain⟨oi,gi,ci,di⟩:=id hI;obtain⟨ot,gt,_,nt,dt⟩:=hT;unfold Builtin.SmallTypes.nextOf;refine Q0 (wpAny_callSpecial?_slot (name:=Str.ofString "__next__") hI.typeIs PySem.F.slot_tuple_iterator_next (wpAny_call_entry PySem.F.slot_tuple_iterator_next hI.typeIs PySem.F.entry_tuple_iterator_next ?_ (PySem.F.args_tuple_iterator_next_1 _)));show wpAny _ _ (field (.ref I) 0 >>= _) _ _ s;refine Q0 (ZD gi di (x:=.ref t) rfl ?_);show wpAny _ _ (ite ((Value.ref t == Value.none)=true) _ _) _ _ s;rw[if_neg (by exact Qq)];show wpAny _ _ (field (.ref I) 1 >>= _) _ _ s;refine Q0 (ZD gi di (x:=.int j 0) rfl ?_);show wpAny _ _ (seqItems? (.ref t) >>= _) _ _ s;refine Q0 (wpAny_seqItems gt dt ?_);simp only[hy,Zx];refine Q0 (wpAny_setField gi di (by simp) (Q6 ⟨y,rfl,Q6 (k _ ⟨_,Zr _ gi (Obj.isFreed_of_fields (Obj.data_mapFields di _)),(Obj.cls_mapFields ..).trans ci,?_⟩ (Heap.SameBut.update ..))⟩));rw[Obj.data_mapFields di];simp[rawInt]
theorem nz{I t:Addr}{j:Nat}{ys:Array Value}{Q:Value->Shared->Prop}(hh:A.handled=none)(hI:s.heap.IsTupleIter I t j)(hT:s.heap.IsTuple t ys)(hy:ys[j]?=none)
  (k:∀h' e,Heap.ExtBut I s.heap h'->(∃o,h'.get? e=some o/\o.cls=.type "StopIteration")->E (.ref e) { s with heap:=h' }):wpAny (model prog w) A (Builtin.SmallTypes.nextOf (.ref I)) Q E s:=by
 obtain⟨oi,gi,ci,di⟩:=id hI;obtain⟨ot,gt,_,nt,dt⟩:=hT;unfold Builtin.SmallTypes.nextOf;refine Q0 (wpAny_callSpecial?_slot (name:=Str.ofString "__next__") hI.typeIs PySem.F.slot_tuple_iterator_next (wpAny_call_entry PySem.F.slot_tuple_iterator_next hI.typeIs PySem.F.entry_tuple_iterator_next ?_ (PySem.F.args_tuple_iterator_next_1 _)));show wpAny _ _ (field (.ref I) 0 >>= _) _ _ s;refine Q0 (ZD gi di (x:=.ref t) rfl ?_);show wpAny _ _ (ite ((Value.ref t == Value.none)=true) _ _) _ _ s;rw[if_neg (by exact Qq)];show wpAny _ _ (field (.ref I) 1 >>= _) _ _ s;refine Q0 (ZD gi di (x:=.int j 0) rfl ?_);show wpAny _ _ (seqItems? (.ref t) >>= _) _ _ s;refine Q0 (wpAny_seqItems gt dt ?_);simp only[hy,Zx];refine Q0 (XC (Q0 (wpAny_setField gi di (by simp) ?_)));show wpAny _ _ (newExc (.type "StopIteration") [] >>= _) _ _ _;simp only[newExc,newTuple];refine Q0 ?_;refine Q0 (wpAny_newObj_type ?_ (by(size_fits)));refine Q0 (m:=firstArgMember _ _) (wpAny_of_eq (a:=Value.none) (by simp only[firstArgMember]<;>rfl) ?_);refine wpAny_newObj_type ?_ (by(size_fits));simp only[raiseNew];refine Q0 (wpAny_handled ?_);rw[show A.in1.handled=none from hh];exact Q0 (Q6 (wpAny_throw (k _ _ (((Heap.SameBut.update ..).extBut.push _).push _) ⟨_,QU _ rfl,rfl⟩)))
theorem iN{b:Bool}{I t:Addr}{j:Nat}{ys:Array Value}{y:Value}{Q:Value->Shared->Prop}(hI:SI b s.heap I t j)(hT:SA b s.heap t ys)(hy:ys[j]?=some y)
  (k:∀h',SI b h' I t (j+1)->XI I s.heap h'->Q y { s with heap:=h' }):wpAny (model prog w) A (Builtin.SmallTypes.nextOf (.ref I)) Q E s:=by
 cases b with
 |true=>exact wpAny_nextOf_list_item hI hT hy k
 |false=>exact yf hI hT hy k
theorem d7{b:Bool}{I t:Addr}{j:Nat}{ys:Array Value}{Q:Value->Shared->Prop}(hh:A.handled=none)(hI:SI b s.heap I t j)(hT:SA b s.heap t ys)(hy:ys[j]?=none)
  (k:∀h' e,Heap.ExtBut I s.heap h'->(∃o,h'.get? e=some o/\o.cls=.type "StopIteration")->E (.ref e) { s with heap:=h' }):wpAny (model prog w) A (Builtin.SmallTypes.nextOf (.ref I)) Q E s:=by
 cases b with
 |true=>exact wpAny_nextOf_list_end hh hI hT hy k
 |false=>exact nz hh hI hT hy k
structure ZA(z I O i j a c:Addr):Prop where
 Iz:I≠z
 Oz:O≠z
 iz:i≠z
 jz:j≠z
 IO:I≠O
 Ii:I≠i
 Ij:I≠j
 Oi:O≠i
 Oj:O≠j
 ij:i≠j
 az:a≠z
 aO:a≠O
 ai:a≠i
 aj:a≠j
 cz:c≠z
 cO:c≠O
 ci:c≠i
 cj:c≠j
structure ZSt(b d:Bool)(h:Heap)(z I O i j a c:Addr)(f:Value)(n:Nat):Prop where
 hz:IsZip h z I O f
 hI:IsPair h I (.ref i) (.ref j)
 hO:∃p q,IsPair h O p q
 h1:SI b h i a n
 h2:SI d h j c n
theorem ZSt.at_{b d:Bool}{h h':Heap}{z I O i j a c:Addr}{f:Value}{n:Nat}(x:ZSt b d h z I O i j a c f n)(k:∀e∈[z,I,O,i,j],∀o,h.get? e=some o->h'.get? e=some o):ZSt b d h' z I O i j a c f n:=by
 obtain⟨p,q,hO⟩:=x.hO;exact⟨k z (by simp) _ x.hz,k I (by simp) _ x.hI,⟨p,q,k O (by simp) _ hO⟩,x.h1.at_ fun o e=>k i (by simp) o e,x.h2.at_ fun o e=>k j (by simp) o e⟩
theorem xM{b d:Bool}{z I O i j a c:Addr}{n:Nat}{xs ys:Array Value}{x y:Value}{Q:Value->Shared->Prop}(D:ZA z I O i j a c)(st:ZSt b d s.heap z I O i j a c .none n)(ha:SA b s.heap a xs)(hc:SA d s.heap c ys)(hx:xs[n]?=some x)(hy:ys[n]?=some y)
  (k:∀h',ZSt b d h' z I O i j a c (rawInt s.heap.objs.size) (n+1)->IsPair h' s.heap.objs.size x y->
   (∀e o,e≠z->e≠O->e≠i->e≠j->s.heap.get? e=some o->h'.get? e=some o)->Q (.ref s.heap.objs.size) { s with heap:=h' }) :
  wpAny (model prog w) A (Builtin.«zip.__next__» ⟨[.ref z],[]⟩) (fun fin s'=>∃v,fin=.done (.ret v)/\Q v s') E s:=by
 obtain⟨hz,hI,⟨p,q,hO⟩,h1,h2⟩:=st;show wpAny _ _ (field (.ref z) 2 >>= _) _ _ _;refine Q0 (ZD hz rfl (x:=.bool false) rfl ?_);show wpAny _ _ (field (.ref z) 3 >>= _) _ _ _;refine Q0 (ZD hz rfl (x:=.ref I) rfl ?_);refine Q0 (wpAny_seqItems hI rfl ?_);show wpAny _ _ (Builtin.SmallTypes.ownedTupleIsFree (.ref z) >>= _) _ _ _;refine Q0 ?_;unfold Builtin.SmallTypes.ownedTupleIsFree;refine Q0 (ZD hz rfl (x:=.none) rfl (Q6 ?_));simp only[if_true];refine Q0 (XC (Q0 (ZD hz rfl (x:=.ref O) rfl (Q0 (wpAny_setField_rec hz (by simp) fun g1 z1 s1=>Q0 ?_)))))
 replace z1:IsZip g1 z I O .ellipsis:=z1
 simp only[List.zipIdx_nil,List.zipIdx_cons,List.forIn_nil,List.forIn_cons];refine Q0 (Q0 (wpAny_onRaise ?_));show wpAny _ _ (Builtin.SmallTypes.nextOf (.ref i) >>= _) _ _ _;refine Q0 (iN (b:=b) (h1.at_ fun o e=>s1.extBut _ _ D.iz e) (ha.at_ fun o e=>s1.extBut _ _ D.az e) hx fun g2 i2 s2=>Q6 ?_);have O2:IsPair g2 O p q:=s2.extBut _ _ D.Oi (s1.extBut _ _ D.Oz hO);refine Q0 (wpAny_seqItems O2 rfl (Q0 (wpAny_updateSeq_pair O2 fun g3 O3 s3=>?_)))
 replace O3:IsPair g3 O x q:=O3
 refine Q0 (wpAny_letGo (Q6 (Q0 (Q0 (wpAny_onRaise ?_)))));show wpAny _ _ (Builtin.SmallTypes.nextOf (.ref j) >>= _) _ _ _;have up3:∀e o,e≠z->e≠i->e≠O->s.heap.get? e=some o->g3.get? e=some o:=fun e o u1 u2 u3 q=>s3.extBut _ _ u3 (s2.extBut _ _ u2 (s1.extBut _ _ u1 q));refine Q0 (iN (b:=d) (h2.at_ fun o e=>up3 _ _ D.jz D.ij.symm D.Oj.symm e) (hc.at_ fun o e=>up3 _ _ D.cz D.ci D.cO e) hy fun g4 j4 s4=>Q6 ?_);have O4:IsPair g4 O x q:=s4.extBut _ _ D.Oj O3;refine Q0 (wpAny_seqItems O4 rfl (Q0 (wpAny_updateSeq_pair O4 fun g5 O5 s5=>?_)))
 replace O5:IsPair g5 O x y:=O5
 refine Q0 (wpAny_letGo (Q6 (Q6 (Q0 (wpAny_seqItems O5 rfl (Q0 (wpAny_newTuple ?_)))))));have sz:g5.objs.size=s.heap.objs.size:=by rw[s5.1,s4.1,s3.1,s2.1,s1.1]
 have z5:IsZip g5 z I O .ellipsis:=s5.extBut _ _ D.Oz.symm (s4.extBut _ _ D.jz.symm (s3.extBut _ _ D.Oz.symm (s2.extBut _ _ D.iz.symm z1)));have up5:∀e o,e≠z->e≠O->e≠i->e≠j->s.heap.get? e=some o->g5.get? e=some o:=fun e o u1 u2 u3 u4 q=>s5.extBut _ _ u2 (s4.extBut _ _ u4 (up3 e o u1 u3 u2 q));have i5:SI b g5 i a (n+1):=i2.at_ fun o e=>s5.extBut _ _ D.Oi.symm (s4.extBut _ _ D.ij (s3.extBut _ _ D.Oi.symm e));have j5:SI d g5 j c (n+1):=j4.at_ fun o e=>s5.extBut _ _ D.Oj.symm e;have zlt:z<g5.objs.size:=QV z5;show wpAny _ _ (Builtin.SmallTypes.ownedTupleHandOut (.ref z) (.ref g5.objs.size) >>= _) _ _ _;refine Q0 ?_;unfold Builtin.SmallTypes.ownedTupleHandOut;have z6:IsZip (g5.push { cls:=.type "tuple",data:=.seq #[x,y] }) z I O .ellipsis:=Q3 _ z5;refine Q0 (wpAny_setField_rec z6 (by simp) fun g7 z7 s7=>?_)
 replace z7:IsZip g7 z I O (rawInt g5.objs.size):=z7
 refine wpAny_setField_rec z7 (by simp) fun g8 z8 s8=>?_
 replace z8:IsZip g8 z I O (rawInt g5.objs.size):=z8
 have up8:∀e o,e≠z->g5.get? e=some o->g8.get? e=some o:=fun e o u1 q=>s8.extBut _ _ u1 (s7.extBut _ _ u1 (Q3 _ q));have T8:IsPair g8 g5.objs.size x y:=s8.extBut _ _ (X0 zlt) (s7.extBut _ _ (X0 zlt) (QU _ rfl));rw[sz]at z8 T8;refine Q6 ⟨_,rfl,?_⟩;show Q (.ref g5.objs.size) _;rw[sz];exact k g8 ⟨z8,up8 _ _ D.Iz (up5 _ _ D.Iz D.IO D.Ii D.Ij hI),⟨x,y,up8 _ _ D.Oz O5⟩,i5.at_ fun o e=>up8 _ _ D.iz e,j5.at_ fun o e=>up8 _ _ D.jz e⟩ T8 fun e o u1 u2 u3 u4 q=>up8 e o u1 (up5 e o u1 u2 u3 u4 q)
theorem xN{b d:Bool}{z I O i j a c:Addr}{n:Nat}{xs ys:Array Value}{Q:PySem.Fin->Shared->Prop}(hh:A.handled=none)(D:ZA z I O i j a c)(st:ZSt b d s.heap z I O i j a c .none n)(ha:SA b s.heap a xs)(hc:SA d s.heap c ys)(hn:xs[n]?=none\/ys[n]?=none)
  (k:∀h' e,(∀c o,c≠z->c≠O->c≠i->c≠j->s.heap.get? c=some o->h'.get? c=some o)->(∃o,h'.get? e=some o/\o.cls=.type "StopIteration")->E (.ref e) { s with heap:=h' }) :
  wpAny (model prog w) A (Builtin.«zip.__next__» ⟨[.ref z],[]⟩) Q E s:=by
 obtain⟨hz,hI,⟨p,q,hO⟩,h1,h2⟩:=st;show wpAny _ _ (field (.ref z) 2 >>= _) _ _ _;refine Q0 (ZD hz rfl (x:=.bool false) rfl ?_);show wpAny _ _ (field (.ref z) 3 >>= _) _ _ _;refine Q0 (ZD hz rfl (x:=.ref I) rfl ?_);refine Q0 (wpAny_seqItems hI rfl ?_);show wpAny _ _ (Builtin.SmallTypes.ownedTupleIsFree (.ref z) >>= _) _ _ _;refine Q0 ?_;unfold Builtin.SmallTypes.ownedTupleIsFree;refine Q0 (ZD hz rfl (x:=.none) rfl (Q6 ?_));simp only[if_true];refine Q0 (XC (Q0 (ZD hz rfl (x:=.ref O) rfl (Q0 (wpAny_setField_rec hz (by simp) fun g1 z1 s1=>Q0 ?_)))))
 replace z1:IsZip g1 z I O .ellipsis:=z1
 simp only[List.zipIdx_nil,List.zipIdx_cons,List.forIn_nil,List.forIn_cons];refine Q0 (Q0 (wpAny_onRaise ?_));show wpAny _ _ (Builtin.SmallTypes.nextOf (.ref i) >>= _) _ _ _;cases hx:xs[n]? with
 |none=>
  refine Q0 (d7 (b:=b) hh (h1.at_ fun o e=>s1.extBut _ _ D.iz e) (ha.at_ fun o e=>s1.extBut _ _ D.az e) hx fun g2 e s2 he=>?_);obtain⟨oe,ge,ce⟩:=he;have z2:IsZip g2 z I O .ellipsis:=s2 _ _ D.iz.symm z1;have nez:e≠z:=fun v=>by subst v;rw[z2]at ge;cases ge;simp at ce
  exact wpAny_setField_rec z2 (by simp) fun g3 _ s3=>k g3 e (fun c o u1 _ u3 _ v=>s3.extBut _ _ u1 (s2 _ _ u3 (s1.extBut _ _ u1 v))) ⟨oe,s3.extBut _ _ nez ge,ce⟩
 |some x=>
  have hy:ys[n]?=none:=by rcases hn with v|v;rw[hx]at v;cases v;exact v
  refine Q0 (iN (b:=b) (h1.at_ fun o e=>s1.extBut _ _ D.iz e) (ha.at_ fun o e=>s1.extBut _ _ D.az e) hx fun g2 i2 s2=>Q6 ?_);have O2:IsPair g2 O p q:=s2.extBut _ _ D.Oi (s1.extBut _ _ D.Oz hO);refine Q0 (wpAny_seqItems O2 rfl (Q0 (wpAny_updateSeq_pair O2 fun g3 O3 s3=>?_)));refine Q0 (wpAny_letGo (Q6 (Q0 (Q0 (wpAny_onRaise ?_)))));show wpAny _ _ (Builtin.SmallTypes.nextOf (.ref j) >>= _) _ _ _;have up3:∀e o,e≠z->e≠i->e≠O->s.heap.get? e=some o->g3.get? e=some o:=fun e o u1 u2 u3 q=>s3.extBut _ _ u3 (s2.extBut _ _ u2 (s1.extBut _ _ u1 q));refine Q0 (d7 (b:=d) hh (h2.at_ fun o e=>up3 _ _ D.jz D.ij.symm D.Oj.symm e) (hc.at_ fun o e=>up3 _ _ D.cz D.ci D.cO e) hy fun g4 e s4 he=>?_);obtain⟨oe,ge,ce⟩:=he;have z4:IsZip g4 z I O .ellipsis:=s4 _ _ D.jz.symm (s3.extBut _ _ D.Oz.symm (s2.extBut _ _ D.iz.symm z1));have nez:e≠z:=fun v=>by subst v;rw[z4]at ge;cases ge;simp at ce
  exact wpAny_setField_rec z4 (by simp) fun g5 _ s5=>k g5 e (fun c o u1 u2 u3 u4 v=>s5.extBut _ _ u1 (s4 _ _ u4 (up3 c o u1 u3 u2 v))) ⟨oe,s5.extBut _ _ nez ge,ce⟩
theorem xP{b d:Bool}{z I O i j a c:Addr}{n:Nat}{xs ys:Array Value}{x y:Value}{Q:Option Value->Shared->Prop}(D:ZA z I O i j a c)(st:ZSt b d s.heap z I O i j a c .none n)(ha:SA b s.heap a xs)(hc:SA d s.heap c ys)(hx:xs[n]?=some x)(hy:ys[n]?=some y)
  (k:∀h',ZSt b d h' z I O i j a c (rawInt s.heap.objs.size) (n+1)->IsPair h' s.heap.objs.size x y->
   (∀e o,e≠z->e≠O->e≠i->e≠j->s.heap.get? e=some o->h'.get? e=some o)->Q (some (.ref s.heap.objs.size)) { s with heap:=h' }):wpAny (model prog w) A (pyNext (.ref z)) Q E s:=by
 have ty:s.TypeIs (.ref z) "zip":=⟨_,st.hz,rfl⟩;unfold pyNext;exact Q0 (wpAny_attempt (wpAny_callSpecial?_slot (name:=Str.ofString "__next__") ty PySem.F.slot_zip_next (wpAny_call_entry PySem.F.slot_zip_next ty PySem.F.entry_zip_next
   (xM D st ha hc hx hy fun h' a1 a2 a3=>Q6 (k h' a1 a2 a3)) (PySem.F.args_zip_next_1 _))))
theorem Bk{b d:Bool}{z I O i j a c:Addr}{n:Nat}{xs ys:Array Value}{Q:Option Value->Shared->Prop}(hh:A.handled=none)(D:ZA z I O i j a c)(st:ZSt b d s.heap z I O i j a c .none n)(ha:SA b s.heap a xs)(hc:SA d s.heap c ys)(hn:xs[n]?=none\/ys[n]?=none)
  (k:∀h',(∀c o,c≠z->c≠O->c≠i->c≠j->s.heap.get? c=some o->h'.get? c=some o)->Q none { s with heap:=h' }):wpAny (model prog w) A (pyNext (.ref z)) Q E s:=by
 have ty:s.TypeIs (.ref z) "zip":=⟨_,st.hz,rfl⟩;unfold pyNext;refine Q0 (wpAny_attempt (wpAny_callSpecial?_slot (name:=Str.ofString "__next__") ty PySem.F.slot_zip_next (wpAny_call_entry PySem.F.slot_zip_next ty PySem.F.entry_zip_next
   (xN hh D st ha hc hn fun h' e hk he=>?_) (PySem.F.args_zip_next_1 _))))
 obtain⟨o,ho,co⟩:=he;exact Q0 (wpAny_isInstance (T:="StopIteration") (b:=true) ⟨o,ho,co⟩ isSubtype_stop (Q6 (k _ hk)))
noncomputable def itO(b:Bool)(a:Addr):Obj:={ cls:=.type (if b then "list_iterator" else "tuple_iterator"),data:=.fields #[.ref a,.int 0 0] }
abbrev zG2(b d:Bool)(h:Heap)(a c:Addr):Heap:=(h.push (itO b a)).push (itO d c)
abbrev zG4(b d:Bool)(h:Heap)(a c:Addr):Heap:=((zG2 b d h a c).push { cls:=.type "tuple",data:=.seq #[.ref h.objs.size,.ref (h.push (itO b a)).objs.size] }).push { cls:=.type "tuple",data:=.seq #[.none,.none] }
abbrev zG5(b d:Bool)(h:Heap)(a c:Addr):Heap:=(zG4 b d h a c).push { cls:=.type "zip",data:=.fields #[.none,.bool false,.bool false,.ref (zG2 b d h a c).objs.size,.ref ((zG2 b d h a c).push { cls:=.type "tuple",data:=.seq #[.ref h.objs.size,.ref (h.push (itO b a)).objs.size] }).objs.size] }
theorem Bj (b d : Bool) (a c : Addr) (xs ys : Array Value) : Meets (Builtin.«zip.__new__» ⟨[.type "zip", .ref a, .ref c], []⟩) (fun _ R s => SA b s.heap a xs /\ SA d s.heap c ys /\
   R (.ok (.ret (.ref (zG4 b d s.heap a c).objs.size))) { s with heap:=zG5 b d s.heap a c }):=
 .of_wp fun prog w A R s q=>by
  obtain⟨hp,g,dr,tk,os⟩:=s;obtain⟨p1,p2,q⟩:=q;have sb:=sub_zip;cases b<;>cases d
  ·have e1:Heap.IsTuple (Shared.heap ⟨hp,g,dr,tk,os⟩) a xs:=p1;have e2:Heap.IsTuple (Shared.heap ⟨hp.push { cls:=.type "tuple_iterator",data:=.fields #[.ref a,.int 0 0] },g,dr,tk,os⟩) c ys:=SA.at_ (b:=false) p2 fun o e=>Q3 _ e
   wp_walk using wpAny_pyIter_tuple e1,wpAny_pyIter_tuple e2
   exact⟨_,rfl,q⟩
  ·have e1:Heap.IsTuple (Shared.heap ⟨hp,g,dr,tk,os⟩) a xs:=p1;have e2:Heap.IsList (Shared.heap ⟨hp.push { cls:=.type "tuple_iterator",data:=.fields #[.ref a,.int 0 0] },g,dr,tk,os⟩) c ys:=SA.at_ (b:=true) p2 fun o e=>Q3 _ e
   wp_walk using wpAny_pyIter_tuple e1,wpAny_pyIter_list e2
   exact⟨_,rfl,q⟩
  ·have e1:Heap.IsList (Shared.heap ⟨hp,g,dr,tk,os⟩) a xs:=p1;have e2:Heap.IsTuple (Shared.heap ⟨hp.push { cls:=.type "list_iterator",data:=.fields #[.ref a,.int 0 0] },g,dr,tk,os⟩) c ys:=SA.at_ (b:=false) p2 fun o e=>Q3 _ e
   wp_walk using wpAny_pyIter_list e1,wpAny_pyIter_tuple e2
   exact⟨_,rfl,q⟩
  ·have e1:Heap.IsList (Shared.heap ⟨hp,g,dr,tk,os⟩) a xs:=p1;have e2:Heap.IsList (Shared.heap ⟨hp.push { cls:=.type "list_iterator",data:=.fields #[.ref a,.int 0 0] },g,dr,tk,os⟩) c ys:=SA.at_ (b:=true) p2 fun o e=>Q3 _ e
   wp_walk using wpAny_pyIter_list e1,wpAny_pyIter_list e2
   exact⟨_,rfl,q⟩
theorem AU{b:Bool}{a i:Addr}{h:Heap}(e:h.get? i=some (itO b a)):SI b h i a 0:=by
 cases b with
 |true=>exact⟨_,e,rfl,rfl⟩
 |false=>exact⟨_,e,rfl,rfl⟩
theorem xR{b d:Bool}{a c:Addr}{xs ys:Array Value}{Q:Value->Shared->Prop}(ha:SA b s.heap a xs)(hc:SA d s.heap c ys)
  (k:∀h' z I O i j,ZA z I O i j a c->ZSt b d h' z I O i j a c .none 0->(∀e∈[z,I,O,i,j],s.heap.objs.size<=e)->(∀e o,s.heap.get? e=some o->h'.get? e=some o)->Q (.ref z) { s with heap:=h' }) :
  wpAny (model prog w) A (call (.type "zip") [.ref a,.ref c]) Q E s:=by
 refine callType_new PySem.F.called_zip (by decide) (PySem.F.typeCall_zip_2 _ _) (PySem.F.newCall_zip_2 _ _) (fun obj=>PySem.F.args_object_init_3 obj _ _) PySem.F.entry_zip_new (Bj b d a c xs ys) ⟨ha,hc,?_⟩;have n1:(s.heap.push (itO b a)).objs.size=s.heap.objs.size+1:=Zu ..;have n2:(zG2 b d s.heap a c).objs.size=s.heap.objs.size+2:=by rw[Zu,n1]
 have n3:((zG2 b d s.heap a c).push { cls:=.type "tuple",data:=.seq #[.ref s.heap.objs.size,.ref (s.heap.push (itO b a)).objs.size] }).objs.size=s.heap.objs.size+3:=by rw[Zu,n2]
 have n4:(zG4 b d s.heap a c).objs.size=s.heap.objs.size+4:=by rw[Zu,n3]
 have p5:(zG5 b d s.heap a c).get? (zG4 b d s.heap a c).objs.size=some _:=QU _ rfl;have p4:(zG5 b d s.heap a c).get? ((zG2 b d s.heap a c).push { cls:=.type "tuple",data:=.seq #[.ref s.heap.objs.size,.ref (s.heap.push (itO b a)).objs.size] }).objs.size=some _:=Q3 _ (QU _ rfl);have p3:(zG5 b d s.heap a c).get? (zG2 b d s.heap a c).objs.size=some _:=Q3 _ (Q3 _ (QU _ rfl));have p2:(zG5 b d s.heap a c).get? (s.heap.push (itO b a)).objs.size=some _:=Q3 _ (Q3 _ (Q3 _ (QU _ rfl)));have p1:(zG5 b d s.heap a c).get? s.heap.objs.size=some _:=Q3 _ (Q3 _ (Q3 _ (Q3 _ (QU _ rfl))));have la:=ha.lt;have lc:=hc.lt;rw[n4,n2,n3]at p5;rw[n2,n1]at p3;rw[n3]at p4;rw[n1]at p2;show _/\_;rw[n4];refine⟨⟨_,p5,rfl⟩,k _ (s.heap.objs.size+4) (s.heap.objs.size+2) (s.heap.objs.size+3) s.heap.objs.size (s.heap.objs.size+1) ⟨?_,?_,?_,?_,?_,?_,?_,?_,?_,?_,?_,?_,?_,?_,?_,?_,?_,?_⟩ ⟨p5,p3,⟨_,_,p4⟩,AU p1,AU p2⟩ (fun e he=>?_) fun e o x=>Q3 _ (Q3 _ (Q3 _ (Q3 _ (Q3 _ x))))⟩;case refine_19=>
  simp only[Qk,X9,or_false]at he;rcases he with e1|e1|e1|e1|e1<;>rw[e1]<;>first|exact QJ _|exact X8 _ _
 all_goals first|exact Qj (by omega)|exact X0 (by omega)|exact Qj (Qw la (by omega))|exact Qj (Qw lc (by omega))
end
def Sq(K:Q5):Bool->Hp->Addr->List V->Prop
 |true,H,a,xs=>SqL K H a xs
 |false,H,a,xs=>SqT K H a xs
section
variable{pins:List (Addr×Obj)}
theorem _root_.L2.Inv.sq{b:Bool}{a:Addr}{xs:List V}(I:Inv X pins σ H s)(h:Sq X.K b H a xs):∃its:List Value,aX xs its/\SA b s.heap a its.toArray:=by
 cases b with
 |true=>obtain⟨its,r,p,_⟩:=I.list h;exact⟨its,r,p.isList⟩
 |false=>obtain⟨its,r,p,_⟩:=I.tuple h;exact⟨its,r,p⟩
end
theorem yT{P:Program}{w:World}{H:Hp}{h:Heap}{a:Addr}{x y:V}{u v:Value}(e:h.get? a=some { cls:=.type "tuple",data:=.seq #[u,v] })(rx:bR x u)(ry:bR y v):bF P w H h a (.tup [x,y]):=
 ⟨by show 2<=sizeLine;decide,[u,v],.cons rx (.cons ry .nil),⟨_,e,rfl,_,rfl⟩⟩
theorem zX:bootBuiltins "zip"=some (.type "zip"):=rfl
def yp:U->Sto->Option (List U×(Sto->Prop))
 |.tup us,_=>some (us,fun _=>True)
 |.ref l,S=>match S[l]? with
  |some (.lst us)=>some (us,fun S=>S[l]?=some (.lst us))
  |_=>none
 |_,_=>none
def sV(us ws:List U):List U:=(us.zip ws).map fun p=>.tup [p.1,p.2]
theorem Au{K:Q5}{m:List Addr}{S:Sto}{H:Hp}{u:U}{v:V}{us:List U}{ok:Sto->Prop}(sr:Sr K m S H)(iu:Is K m H v u)(h:yp u S=some (us,ok)) :
  ∃b a,v=.ref a/\(∃xs,Sq K b H a xs)/\∀m2 S2 H2,Ext K m H m2 H2->Sr K m2 S2 H2->ok S2->∃xs,Sq K b H2 a xs/\IsL K m2 H2 xs us:=by
 cases u with
 |tup ws=>
  cases h;obtain⟨a,xs,rfl,sq,il⟩:=iu.of_tup;exact⟨false,a,rfl,⟨xs,sq⟩,fun m2 S2 H2 e _ _=>⟨xs,e.keep.t _ _ sq,il.mono e⟩⟩
 |ref l=>
  simp only[yp]at h;split at h<;>try cases h
  rename_i us hS;obtain⟨a,ha,rfl⟩:=iu.of_ref;obtain⟨a',ha',xs,hx,il⟩:=sr.get hS;rw[ha]at ha';cases ha';refine⟨true,a,rfl,⟨xs,SqL.of hx⟩,fun m2 S2 H2 e sr2 hok=>?_⟩;obtain⟨a',ha',xs,hx,il⟩:=sr2.get hok;rw[e.get ha]at ha';cases ha';exact⟨xs,SqL.of hx,il⟩
 |_=>simp[yp]at h
theorem n8:∀{vs:List Value} {ns:List Int},IntsAre vs ns->aX (ns.map V.int) vs
 |_,_,.nil=>.nil
 |_,_,.cons n t r=>.cons ⟨t,rfl⟩ (n8 r)
theorem eR:∀{ns:List Int} {vs:List Value},aX (ns.map V.int) vs->IntsAre vs ns
 |[],_,h=>by cases h;exact .nil
 |n::ns,_,.cons r t=>by
  obtain⟨k,rfl⟩:=r;exact .cons n k (eR t)
def uY(K:Q5):List V->Hp->VK->Prop:=fun xs H Q=>∃(p:Addr) (ns:List Int),xs=[.ref p]/\(SqL K H p (ns.map V.int)\/∃kvs,H p=some (.dK kvs)/\kvs.map (·.1)=ns.map Sum.inl)/\ns.length<64/\
 ∀(l:Addr) (ms:List Int),H l=none->ms.Perm ns->ms.Pairwise (·<=·)->Q (.ref l) (upd H l (.lst (ms.map V.int)))
theorem pN{κ:Type}:∀{kvs:List (κ×V)} {vs:List (κ×Value)},KV kvs vs->vs.map (·.1)=kvs.map (·.1)
 |_,_,.nil=>rfl
 |_,_,.cons r t=>by rw[Qx,Qx,pN t,r.1]
theorem vN{P:Program}{w:World}{H:Hp}{h:Heap}{a:Addr}{ms:List Int}{out:Array Value}{e:Nat}(g:h.get? a=some (seqObj "list" out e))(hI:IntsAre out.toList ms)(hl:ms.length<64):bF P w H h a (.lst (ms.map V.int)):=
 ⟨by rw[QX];exact Zf (Qw hl (by unfold sizeLine;decide)),out.toList,e,n8 hI,by rw[Array.toArray_toList];exact g⟩
theorem q0{X:Cx}(hc:X.calm=true):bX X (.builtin "sorted") (uY X.K):=by
 rintro pins s σ H xs us Q I r ⟨p,ns,rfl,src,h64,q⟩;obtain⟨u,rfl,ru⟩:=eS r;cases ru;rcases src with hL|⟨kvs,hD,hk⟩
 ·obtain⟨its,rv,pl,hz⟩:=I.list hL;have hI:=eR rv;have hlen:=rv.length;rw[QX]at hlen;refine sorted_ints pl.isList hI (by omega) fun out ms a1 a2 a3=>?_;obtain⟨e,ge⟩:=sortedAll_at s.heap its out;have hf:=I.hok.fresh (XR s.heap.objs.size);exact⟨.ref (s.heap.objs.size+1),_,I.laid (t':=s.toks) (fun b o e=>sortedAll_old e) (XR _) (vN ge a1 (by rw[a2.length_eq];exact h64)),rfl,q _ ms hf a2 a3⟩
 ·obtain⟨z,hd,vs,rel,dd⟩:=DG I.hok hD;obtain⟨ep,da⟩:=dd.dictAt;have lkv:kvs.length=ns.length:=by have:=congrArg List.length hk;simpa using this
  have lv:vs.length=ns.length:=by rw[<-Paired.length rel];exact lkv
  have ks:vs.map (·.1)=ns.map Sum.inl:=by
   rw[<-hk];exact pN rel
  refine Calls.call_function_entry kind_sorted plain_sorted entry_sorted (args_sorted1 _) ?_;unfold Builtin.«sorted»;refine Q0 (m:=checkCount "sorted" 1 1 _) (Q6 (Q0 (PySem.W.kdu_collect (PySem.W.kdl_dict (kvs:=vs) (ep:=ep) hd) (show X.A.in1.handled=none from I.ok.hd hc) da (by rw[lv,<-lkv];exact z) fun h1 tk acc up hac=>?_)));have hla:acc.toList.length=ns.length:=by rw[QY,hac.1,lv]
  have hI:IntsAre acc.toList ns:=by
   have key:∀(i:Nat) (v:Value),acc.toList[i]?=some v->∃(n:Int) (t:Tok),ns[i]?=some n/\v=Value.int n t:=fun i v e=>by
    obtain⟨k,x,e1,e2⟩:=hac.2 i v (by rw[<-QC];exact e);have e3:(vs.map (·.1))[i]?=some k:=by rw[Qb,e1];rfl
    rw[ks,Qb]at e3;obtain⟨n,e4,e5⟩:=Qs.mp e3;subst e5;rcases aU (k:=Sum.inl n) e2 with⟨j,t,e6,e7⟩|⟨j,t,e6,e7⟩
    ·cases e6;exact⟨n,t,e4,e7⟩
    ·cases e6
   clear hac;generalize acc.toList=L at key hla;clear ks lv lkv h64 q hk;induction L generalizing ns with
   |nil=>cases ns with
    |nil=>exact .nil
    |cons a b=>simp at hla
   |cons a b ih=>cases ns with
    |nil=>simp at hla
    |cons c d=>
     obtain⟨n,t,e1,e2⟩:=key 0 a (by simp);simp at e1;subst e1;subst e2;exact .cons _ t (ih _ (fun i v e=>by have:=key (i+1) v (by simpa using e);simpa using this) (by simpa using hla))
  refine Q0 (wpAny_newList ?_ (by rw[hla,<-lkv];exact z));have gL:(h1.push { cls:=.type "list",data:=.seq acc.toList.toArray }).get? h1.objs.size=some (seqObj "list" acc.toList.toArray 0):=QU _ rfl;refine Q0 (wpAny_holding (wpAny_call_entry slot_list_sort ⟨_,gL,rfl⟩ entry_list_sort (list_sort_tree (s:={ s with heap:=h1.push { cls:=.type "list",data:=.seq acc.toList.toArray },toks:=tk }) gL hI (by omega) fun out ms a1 a2 a3=>⟨_,rfl,?_⟩) (args_list_sort _)));obtain⟨e,ge⟩:=sortedHeap_at (out:=out) gL;have I1:Inv X pins σ H { s with heap:=h1,toks:=tk }:=I.kept up;have hf:=I1.hok.fresh (QJ h1.objs.size);refine Q6 ⟨_,rfl,.ref h1.objs.size,_,Inv.laid (s:={ s with heap:=h1,toks:=tk }) (h':=sortedHeap (h1.push { cls:=.type "list",data:=.seq acc.toList.toArray }) h1.objs.size acc.toList out) (t':=tk) I1 (fun b o g1=>?_) (QJ _) (vN ge a1 (by rw[a2.length_eq];exact h64)),rfl,q _ ms hf a2 a3⟩;have g1:h1.get? b=some o:=g1;have lt1:=QV g1;rw[sortedHeap_old (Qj lt1) (by rw[Zu];exact XW lt1)];exact Q3 _ g1
def pE(ns:List Int):List Int:=ns.mergeSort (fun a b=>decide (a<=b))
theorem sN(ns:List Int):(pE ns).Perm ns:=List.mergeSort_perm ..
theorem nC(ns:List Int):(pE ns).Pairwise (·<=·):=by
 have:=List.pairwise_mergeSort (le:=fun(a b:Int)=>decide (a<=b)) (fun a b c h1 h2=>by simp at h1 h2 ⊢;omega) (fun a b=>by simp;omega) ns;exact this.imp fun h=>by simpa using h
theorem lV{ns ms:List Int}(p:ms.Perm ns)(s:ms.Pairwise (·<=·)):ms=pE ns:=PySem.W.lks_uniq (p.trans (sN ns).symm) s (nC ns)
def zp:List (Key×U)->Option (List Int)
 |[]=>some []
 |(.inl n,_)::r=>(zp r).map (n::·)
 |_=>none
theorem rB:∀{kus:List (Key×U)} {ns:List Int},zp kus=some ns->kus.map (·.1)=ns.map Sum.inl
 |[],ns,h=>by cases h;rfl
 |(k,u)::r,ns,h=>by
  cases k<;>simp only[zp]at h<;>try cases h
  obtain⟨ms,e,h⟩:=Qs.mp h;subst h;simp[rB e]
def fj:Fn
 |[.ref l],S=>match S[l]? with
  |some (.lst us)=>(mG us).bind fun ns=>if ns.length<64 then some (.ref S.length,S++[.lst ((pE ns).map U.int)])else none
  |some (.dic kus)=>(zp kus).bind fun ns=>if ns.length<64 then some (.ref S.length,S++[.lst ((pE ns).map U.int)])else none
  |_=>none
 |_,_=>none
theorem qU{K:Q5}:gJ K (uY K) fj:=by
 intro m S H us vs u S' Q sr i hf post;match us,hf with
 |[.ref l],hf=>
  obtain⟨v,rfl,iv⟩:=i.one;obtain⟨a,ha,rfl⟩:=iv.of_ref;simp only[fj]at hf;split at hf<;>try cases hf
  ·rename_i ws hS;obtain⟨ns,hn,h⟩:=Q2.mp hf;split at h<;>try cases h
   have hc:ns.length<64:=by assumption
   obtain⟨a',ha',xs,hx,la⟩:=sr.get hS;rw[ha]at ha';cases ha';rw[iD hn]at la;rw[la.ints]at hx;refine⟨a,ns,rfl,.inl (SqL.of hx),hc,fun p ms hp pm sm=>?_⟩;rw[lV pm sm];exact bA sr (fN _) post hp
  ·rename_i ws hS;obtain⟨ns,hn,h⟩:=Q2.mp hf;split at h<;>try cases h
   have hc:ns.length<64:=by assumption
   obtain⟨a',ha',kvs,hx,ip⟩:=sr.get hS;rw[ha]at ha';cases ha';refine⟨a,ns,rfl,.inr ⟨kvs,hx,by rw[ip.1,rB hn]⟩,hc,fun p ms hp pm sm=>?_⟩;rw[lV pm sm];exact bA sr (fN _) post hp
variable{t:CT}{x:U}
section
variable{cc:CE}{y:U}{i:Nat}{f g:U->U->Sto->Option (U×Sto)}{b:Bool}
def JI(S:Sto):Option (Option U)->Option (U×Sto)
 |some (some u)=>some (u,S)
 |_=>none
theorem Bm:au i ρ S=JI S (ρ[i]?):=rfl
theorem tY:JI S (some (some u))=some (u,S):=rfl
theorem x_c:cC u ρ S=some (u,S):=rfl
def IY(f:U->U->Sto->Option (U×Sto))(x:U)(q:U×Sto):=f x q.1 q.2
def JM(f:U->U->Sto->Option (U×Sto))(cb:CE)(ρ:Rho)(p:U×Sto):=(cb ρ p.2).bind (IY f p.1)
theorem Hy:cOp f ca cb ρ S=(ca ρ S).bind (JM f cb ρ):=rfl
theorem Bp:JM f cb ρ (x,S)=(cb ρ S).bind (IY f x):=rfl
theorem Bo:IY f x (y,S)=f x y S:=rfl
def Gj:U×Sto->Option (Bool×Sto)
 |(.bl b,S)=>some (b,S)
 |_=>none
theorem qo:aN ca ρ S=(ca ρ S).bind Gj:=by
 unfold aN;congr 1;funext p;obtain⟨u,S⟩:=p;cases u<;>rfl
theorem pd:Gj (.bl b,S)=some (b,S):=rfl
def Jc(tb:CT)(ρ:Rho)(p:Bool×Sto):=if p.1=true then tb ρ p.2 else some (false,p.2)
def kOr(tb:CT)(ρ:Rho)(p:Bool×Sto):=if p.1=true then some (true,p.2)else tb ρ p.2
def JN(p:Bool×Sto):Option (Bool×Sto):=some (!p.1,p.2)
theorem HU:Hj ta tb ρ S=(ta ρ S).bind (Jc tb ρ):=rfl
theorem EE:Jc tb ρ (true,S)=tb ρ S:=rfl
theorem ED:Jc tb ρ (false,S)=some (false,S):=rfl
theorem J1:cOr ta tb ρ S=(ta ρ S).bind (kOr tb ρ):=rfl
theorem Hx:kOr tb ρ (true,S)=some (true,S):=rfl
theorem Hw:kOr tb ρ (false,S)=tb ρ S:=rfl
theorem Em:DN ta ρ S=(ta ρ S).bind JN:=rfl
theorem El:JN (b,S)=some (!b,S):=rfl
def Dh(cb:CE)(ρ:Rho):U×Sto->Option (U×Sto)
 |(.bl true,S)=>cb ρ S
 |(.bl false,S)=>some (.bl false,S)
 |_=>none
def Gn:U×Sto->Option (U×Sto)
 |(.bl b,S)=>some (.bl (!b),S)
 |_=>none
theorem EC:xf ca cb ρ S=(ca ρ S).bind (Dh cb ρ):=by
 unfold xf;congr 1;funext p;obtain⟨u,S⟩:=p;cases u with
 |bl b=>cases b<;>rfl
 |_=>rfl
theorem BB:Dh cb ρ (.bl true,S)=cb ρ S:=rfl
theorem BA:Dh cb ρ (.bl false,S)=some (.bl false,S):=rfl
theorem Ek:zU ca ρ S=(ca ρ S).bind Gn:=by
 unfold zU;congr 1;funext p;obtain⟨u,S⟩:=p;cases u<;>rfl
theorem Bq:Gn (.bl b,S)=some (.bl (!b),S):=rfl
def v8(u:U)(q:List U×Sto):Option (List U×Sto):=some (u::q.1,q.2)
def AS(cr:CA)(ρ:Rho)(p:U×Sto):=(cr ρ p.2).bind (v8 p.1)
theorem Br:aB ρ S=some ([],S):=rfl
theorem qp:ag ca cr ρ S=(ca ρ S).bind (AS cr ρ):=rfl
theorem ph:AS cr ρ (u,S)=(cr ρ S).bind (v8 u):=rfl
theorem pf:v8 u (us,S)=some (u::us,S):=rfl
def JJ(p:List U×Sto):Option (U×Sto):=some (.tup p.1,p.2)
def JO(p:List U×Sto):Option (U×Sto):=some (.ref p.2.length,p.2++[.lst p.1])
theorem Ho:fk cr ρ S=(cr ρ S).bind JJ:=rfl
theorem Ed:JJ (us,S)=some (.tup us,S):=rfl
theorem HC:ki cr ρ S=(cr ρ S).bind JO:=rfl
theorem En:JO (us,S)=some (.ref S.length,S++[.lst us]):=rfl
def kCB(f:Fn)(p:List U×Sto):=f p.1 p.2
theorem G8{f:Fn}:cCB f cr ρ S=(cr ρ S).bind (kCB f):=rfl
theorem Bz{f:Fn}:kCB f (us,S)=f us S:=rfl
def JP(T:Ty)(p:U×Sto):Option (U×Sto):=(tyU p.1 p.2).bind fun t=>some (.bl (yk t T),p.2)
theorem HG{T:Ty}:D4 T ca ρ S=(ca ρ S).bind (JP T):=rfl
theorem Eu{T:Ty}:JP T (u,S)=(tyU u S).bind fun t=>some (.bl (yk t T),S):=rfl
def Gk(c2:CS):Out×Rho×Sto->Option (Out×Rho×Sto)
 |(.nx,ρ,S)=>c2 ρ S
 |(o,ρ,S)=>some (o,ρ,S)
theorem Ak:dM ρ S=some (.nx,ρ,S):=rfl
theorem tZ:bo c1 c2 ρ S=(c1 ρ S).bind (Gk c2):=by
 unfold bo;congr 1;funext p;obtain⟨o,ρ,S⟩:=p;cases o<;>rfl
theorem ng:Gk c2 (.nx,ρ,S)=c2 ρ S:=rfl
theorem Ei:Gk c2 (.rt u,ρ,S)=some (.rt u,ρ,S):=rfl
theorem Eh:Gk c2 (.bk,ρ,S)=some (.bk,ρ,S):=rfl
theorem Eg:Gk c2 (.ct,ρ,S)=some (.ct,ρ,S):=rfl
def Gp(ρ:Rho)(p:U×Sto):Option (Out×Rho×Sto):=some (.nx,ρ,p.2)
def JL(ρ:Rho)(p:U×Sto):Option (Out×Rho×Sto):=some (.rt p.1,ρ,p.2)
theorem Ex:fP ca ρ S=(ca ρ S).bind (Gp ρ):=rfl
theorem By:Gp ρ (u,S)=some (.nx,ρ,S):=rfl
theorem Hv:iL ca ρ S=(ca ρ S).bind (JL ρ):=rfl
theorem Ej:JL ρ (u,S)=some (.rt u,ρ,S):=rfl
def I0(c1 c2:CS)(ρ:Rho)(p:Bool×Sto):=if p.1=true then c1 ρ p.2 else c2 ρ p.2
theorem Bx:kG t c1 c2 ρ S=(t ρ S).bind (I0 c1 c2 ρ):=rfl
theorem ub:I0 c1 c2 ρ (true,S)=c1 ρ S:=rfl
theorem ua:I0 c1 c2 ρ (false,S)=c2 ρ S:=rfl
def JK(i:Nat)(ρ:Rho)(p:U×Sto):Option (Out×Rho×Sto):=some (.nx,ρ.set i (some p.1),p.2)
theorem sx:cG i ca ρ S=(ca ρ S).bind (JK i ρ):=rfl
theorem kH:JK i ρ (u,S)=some (.nx,ρ.set i (some u),S):=rfl
def Dg(q:Rho×Sto):Option (Out×Rho×Sto):=some (.nx,q.1,q.2)
def JQ(g:CG)(ρ:Rho)(p:U×Sto):=(g p.1 ρ p.2).bind Dg
theorem HR{g:CG}:D5 ca g ρ S=(ca ρ S).bind (JQ g ρ):=rfl
theorem EB{g:CG}:JQ g ρ (u,S)=(g u ρ S).bind Dg:=rfl
theorem EA:Dg (ρ,S)=some (.nx,ρ,S):=rfl
theorem HI:gNm i u ρ S=some (ρ.set i (some u),S):=rfl
theorem HH{is:List Nat}:gTp is (.tup us) ρ S=(eF is us ρ).bind fun ρ'=>some (ρ',S):=rfl
theorem EG:eF [] [] ρ=some ρ:=rfl
theorem EF{is:List Nat}:eF (i::is) (u::us) ρ=eF is us (ρ.set i (some u)):=rfl
def IV(ρ:Rho)(S':Sto):Option (Out×Rho×Sto):=some (.nx,ρ,S')
def IW(o v:U)(ρ:Rho)(r:U×Sto):=(ji o r.1 v r.2).bind (IV ρ)
def IX(ci:CE)(v:U)(ρ:Rho)(q:U×Sto):=(ci ρ q.2).bind (IW q.1 v ρ)
def kSI(co ci:CE)(ρ:Rho)(p:U×Sto):=(co ρ p.2).bind (IX ci p.1 ρ)
theorem J0:oM ca cb cc ρ S=(cc ρ S).bind (kSI ca cb ρ):=rfl
theorem Hu:kSI ca cb ρ (u,S)=(ca ρ S).bind (IX cb u ρ):=rfl
theorem Ht:IX cb y ρ (u,S)=(cb ρ S).bind (IW u y ρ):=rfl
theorem Hs:IW x y ρ (u,S)=(ji x u y S).bind (IV ρ):=rfl
theorem Hr:IV ρ S=some (.nx,ρ,S):=rfl
def kIx(y:U)(S:Sto):Option O->Option (U×Sto)
 | some (.lst us)=>(match y with
   |.int i=>(atI us i).bind fun u=>some (u,S)
   |_=>none)
 |some (.dic kus)=>(nY y).bind fun k=>(kI kus k).bind fun u=>some (u,S)
 |some (.fdc _ kus)=>(nY y).bind fun k=>(kI kus k).bind fun u=>some (u,S)
 |_=>none
theorem HD{j:Int}:fIx (.tup us) (.int j) S=(atI us j).bind fun u=>some (u,S):=rfl
theorem Et:fIx (.ref l) y S=kIx y S S[l]?:=by
 unfold fIx kIx;dsimp only<;>(generalize S[l]?=q;rcases q with _|o<;>first|rfl|(cases o<;>rfl))
theorem HE{j:Int}:kIx (.int j) S (some (.lst us))=(atI us j).bind fun u=>some (u,S):=rfl
theorem Bw{kus:List (Key×U)}:kIx y S (some (.dic kus))=(nY y).bind fun k=>(kI kus k).bind fun u=>some (u,S):=rfl
def Hf(l:Nat)(i v:U)(S:Sto):Option O->Option Sto
 | some (.lst us)=>(match i with
   |.int k=>(ixN us.length k).bind fun j=>some (S.set l (.lst (us.set j v)))
   |_=>none)
 |some (.dic kus)=>(nY i).bind fun k=>if kus.length<LIM then some (S.set l (.dic (jc kus k v)))else none
 |_=>none
theorem Ef:ji (.ref l) x y S=Hf l x y S S[l]?:=by
 unfold ji Hf;dsimp only<;>(generalize S[l]?=q;rcases q with _|o<;>first|rfl|(cases o<;>rfl))
theorem Ee{j:Int}:Hf l (.int j) y S (some (.lst us))=(ixN us.length j).bind fun j=>some (S.set l (.lst (us.set j y))):=rfl
theorem Am{kus:List (Key×U)}:Hf l x y S (some (.dic kus))=(nY x).bind fun k=>if kus.length<LIM then some (S.set l (.dic (jc kus k y)))else none:=rfl
theorem at0{α:Type}{a:α}{r:List α}:atI (a::r) 0=some a:=by show atI _ ((0:Nat):Int)=_;exact eC rfl
theorem at1{α:Type}{a b:α}{r:List α}:atI (a::b::r) 1=some b:=by show atI _ ((1:Nat):Int)=_;exact eC rfl
theorem at2{α:Type}{a b c:α}{r:List α}:atI (a::b::c::r) 2=some c:=by show atI _ ((2:Nat):Int)=_;exact eC rfl
theorem at3{α:Type}{a b c d:α}{r:List α}:atI (a::b::c::d::r) 3=some d:=by show atI _ ((3:Nat):Int)=_;exact eC rfl
theorem ix0{n:Nat}:ixN (n+1) 0=some 0:=by simp[ixN]
theorem ix1{n:Nat}:ixN (n+1+1) 1=some 1:=by simp[ixN];omega
theorem ix2{n:Nat}:ixN (n+1+1+1) 2=some 2:=by simp[ixN];omega
noncomputable def IZ(S:Sto):Option O->Option (U×Sto)
 |some (.lst us)=>some (.int us.length,S)
 |some (.dic us)=>some (.int us.length,S)
 |_=>none
theorem Ep:jn [.ref l] S=IZ S S[l]?:=by
 unfold jn IZ;dsimp only<;>(generalize S[l]?=q;rcases q with _|o<;>first|rfl|(cases o<;>rfl))
theorem Er:IZ S (some (.lst us))=some (.int us.length,S):=rfl
theorem Eo:jn [.tup us] S=some (.int us.length,S):=rfl
variable{j k:Int}
theorem BC:dS (.int j) (.int k) S=some (.int (j+k),S):=rfl
theorem Hq:Dv (.int j) (.int k) S=some (.int (j-k),S):=rfl
theorem lK(h:Bg j k):jZ (.int j) (.int k) S=some (.int (j*k),S):=by simp[jZ,fI,h]
theorem Ez(h:tQ j k):A1 (.int j) (.int k) S=some (.int (j / k),S):=by simp[A1,fI,h]
theorem xT(h:0<k):tJ (.int j) (.int k) S=some (.int (j % k),S):=by simp[tJ,fI,h]
theorem HB:fLt (.int j) (.int k) S=some (.bl (decide (j<k)),S):=rfl
theorem J2:fGt (.int j) (.int k) S=some (.bl (decide (k<j)),S):=rfl
theorem J3:fGe (.int j) (.int k) S=some (.bl (decide (k<=j)),S):=rfl
theorem HM:fEq (.int j) (.int k) S=some (.bl (decide (j=k)),S):=rfl
theorem HA:fNe (.int j) (.int k) S=some (.bl (!decide (j=k)),S):=rfl
theorem HL{a c:Str}:fEq (.str a) (.str c) S=some (.bl (decide (a=c)),S):=rfl
theorem Hz{a c:Str}:fNe (.str a) (.str c) S=some (.bl (!decide (a=c)),S):=rfl
noncomputable def kFn:Out×Rho×Sto->Option (U×Sto)
 |(.rt u,_,S)=>some (u,S)
 |(.nx,_,S)=>some (.non,S)
 |_=>none
theorem sy{n k:Nat}(h:us.length=k):fnU n k c1 us S=(c1 (nA n us) S).bind kFn:=by
 unfold fnU;rw[if_pos h];congr 1;funext p;obtain⟨o,ρ,S⟩:=p;cases o<;>rfl
theorem HK:kFn (.rt u,ρ,S)=some (u,S):=rfl
theorem HJ:kFn (.nx,ρ,S)=some (.non,S):=rfl
end
section
variable{b:Bool}
theorem Es{j:Int}:nY (.int j)=some (.inl j):=rfl
def Ja(f:U->List U->Sto->Option (U×Sto))(x:U)(q:List U×Sto):=f x q.1 q.2
def Jb(f:U->List U->Sto->Option (U×Sto))(cr:CA)(ρ:Rho)(x:U)(S:Sto):Option O->Option (U×Sto)
 |some (.lst _)=>(cr ρ S).bind (Ja f x)
 |_=>none
def kBM(f:U->List U->Sto->Option (U×Sto))(cr:CA)(ρ:Rho):U×Sto->Option (U×Sto)
 |(.ref l,S)=>Jb f cr ρ (.ref l) S S[l]?
 |_=>none
variable{fm:U->List U->Sto->Option (U×Sto)}
theorem J4:cBM fm ca cr ρ S=(ca ρ S).bind (kBM fm cr ρ):=by
 unfold cBM;congr 1;funext p;obtain⟨u,S⟩:=p;cases u<;>try rfl
theorem HQ:kBM fm cr ρ (.ref l,S)=Jb fm cr ρ (.ref l) S S[l]?:=rfl
theorem HP:Jb fm cr ρ x S (some (.lst us))=(cr ρ S).bind (Ja fm x):=rfl
theorem HN:Ja fm x (us,S)=fm x us S:=rfl
def Hg(l:Nat)(u:U)(S:Sto):Option O->Option (U×Sto)
 |some (.lst us)=>if us.length<LIM then some (.non,S.set l (.lst (us++[u])))else none
 |_=>none
theorem HS:cW (.ref l) [u] S=Hg l u S S[l]?:=by
 unfold cW Hg;dsimp only<;>(generalize S[l]?=q;rcases q with _|o<;>first|rfl|(cases o<;>rfl))
theorem fR(h:us.length<LIM):Hg l u S (some (.lst us))=some (.non,S.set l (.lst (us++[u]))):=by
 unfold Hg;dsimp only;rw[if_pos h]
theorem Ey:DO ρ S=some (.ref S.length,S++[.dic []]):=rfl
theorem Ea:eO [.tup us] S=some (.tup us,S):=rfl
def IU(S:Sto):Option O->Option (U×Sto)
 |some (.lst us)=>some (.tup us,S)
 |_=>none
theorem Eb:eO [.ref l] S=IU S S[l]?:=by
 unfold eO IU;dsimp only<;>(generalize S[l]?=q;rcases q with _|o<;>first|rfl|(cases o<;>rfl))
theorem Ec:IU S (some (.lst us))=some (.tup us,S):=rfl
theorem Bt:jj [.tup us] S=some (.ref S.length,S++[.lst us]):=rfl
def kLs(S:Sto):Option O->Option (U×Sto)
 |some (.lst us)=>some (.ref S.length,S++[.lst us])
 |_=>none
theorem Bu:jj [.ref l] S=kLs S S[l]?:=by
 unfold jj kLs;dsimp only<;>(generalize S[l]?=q;rcases q with _|o<;>first|rfl|(cases o<;>rfl))
theorem Bv:kLs S (some (.lst us))=some (.ref S.length,S++[.lst us]):=rfl
theorem Ew:GI [.bl b] S=some (.int (if b then 1 else 0),S):=rfl
theorem ga{X:Sto}{n:Nat}:(S++X)[S.length+n]?=X[n]?:=by rw[QK (X8 _ _),Zj]
theorem ga0{X:Sto}:(S++X)[S.length]?=X[0]?:=ga (n:=0)
theorem gs{X:Sto}{n:Nat}{o:O}:(S++X).set (S.length+n) o=S++X.set n o:=by rw[XO _ _ (X8 _ _),Zj]
theorem gs0{X:Sto}{o:O}:(S++X).set S.length o=S++X.set 0 o:=gs (n:=0)
section
variable{ok:Sto->Prop}{gg:CG}{cbd:CS}{ρ0 ρ1:Rho}{S0 S1:Sto}
theorem fK(h:ok S):cU ok gg cbd [] ρ S=some (.nx,ρ,S):=by unfold cU;rw[if_pos h]
theorem iU(h:ok S)(hg:gg u ρ S=some (ρ0,S0))(hb:cbd ρ0 S0=some (.nx,ρ1,S1)):cU ok gg cbd (u::us) ρ S=cU ok gg cbd us ρ1 S1:=by
 rw[cU];dsimp only;rw[if_pos h,hg,QQ];dsimp only;rw[hb,QQ]
theorem C9(h:ok S)(hg:gg u ρ S=some (ρ0,S0))(hb:cbd ρ0 S0=some (.rt x,ρ1,S1)):cU ok gg cbd (u::us) ρ S=some (.rt x,ρ1,S1):=by
 rw[cU];dsimp only;rw[if_pos h,hg,QQ];dsimp only;rw[hb,QQ]
theorem qw{n:Nat}(ht:t ρ S=some (true,S0))(hb:cbd ρ S0=some (.nx,ρ1,S1)):ck t cbd (n+1) ρ S=ck t cbd n ρ1 S1:=by
 rw[ck];dsimp only;rw[ht,QQ];dsimp only;rw[if_pos rfl,hb,QQ]
theorem ya{n:Nat}(ht:t ρ S=some (true,S0))(hb:cbd ρ S0=some (.rt x,ρ1,S1)):ck t cbd (n+1) ρ S=some (.rt x,ρ1,S1):=by
 rw[ck];dsimp only;rw[ht,QQ];dsimp only;rw[if_pos rfl,hb,QQ]
theorem nq{n:Nat}(ht:t ρ S=some (false,S0)):ck t cbd (n+1) ρ S=some (.nx,ρ,S0):=by
 rw[ck];dsimp only;rw[ht,QQ];dsimp only;rw[if_neg (by decide)]
theorem oG{ce:CE}{ys:List U}(h:ok S)(hg:gg u ρ S=some (ρ0,S0))(he:ce ρ0 S0=some (x,S1))(hl:S1[l]?=some (.lst ys))(hn:ys.length<LIM):iG ok gg ce l (u::us) ρ S=iG ok gg ce l us ρ0 (S1.set l (.lst (ys++[x]))):=by
 rw[iG,if_pos h,hg,QQ];dsimp only;rw[he,QQ];dsimp only;rw[hl];dsimp only;rw[if_pos hn]
theorem rQ{ce:CE}(h:ok S):iG ok gg ce l [] ρ S=some S:=by rw[iG,if_pos h]
end
end
theorem JW{p:List Value->Prop}(h:p [])(us:List Value)(e:us.length=0):p us:=by rw[List.length_eq_zero_iff.mp e];exact h
theorem Kr{n:Nat}{p:List Value->Prop}(h:∀a us,us.length=n->p (a::us))(us:List Value)(e:us.length=n+1):p us:=by
 cases us with
 |nil=>cases e
 |cons a us=>exact h a us (Nat.succ.inj e)
theorem rH{X:Cx}{pins:List (Addr×Obj)}{σ:L2.St}{H:Hp}{s:Shared}{a:Addr}{o u:HO}(I:Inv X pins σ H s)(e:H a=some o)(nt:∀xs,o≠.tup xs)(no:∀x,o≠.own x)(nb:∀ps,o≠.tbl ps)
  (nf:∀ob u,X.H₀ a≠some (.frz ob u)) (new:bF X.prog X.w (upd H a u) s.heap a u):Inv X pins σ (upd H a u) s:=by
 have nn:∀b,H b=none->upd H a u b=none:=fun b q=>by rw[aQ (Ne.symm (b6 e q))];exact q
 have ho:∀b x,H b=some (.own x)->upd H a u b=some (.own x):=fun b x q=>by
  rw[aQ];exact q;intro z;subst z;rw[e]at q;cases q;exact no _ rfl
 have ht:∀b xs,H b=some (.tup xs)->upd H a u b=some (.tup xs):=fun b x q=>by
  rw[aQ];exact q;intro z;subst z;rw[e]at q;cases q;exact nt _ rfl
 refine⟨I.ok,I.os,I.bare,⟨I.base.keep,I.base.slot,fun b ob q1 q2 q3=>nn _ (I.base.free b ob q1 q2 q3),I.base.there,fun b xs q=>ht _ _ (I.base.tups b xs q),fun b ob v q=>?_,fun b ps q=>?_⟩,I.loc,I.cell,nn _ I.free,fun x c q=>nn _ (I.freeC x c q),fun p hp=>?_,fun b v q=>?_,I.len⟩
 ·rw[aQ];exact I.base.frzs b ob v q;intro z;subst z;exact nf _ _ q
 ·obtain⟨more,q'⟩:=I.base.tbls b ps q;refine⟨more,?_⟩;rw[aQ];exact q';intro z;subst z;rw[e]at q';cases q';exact nb _ rfl
 ·obtain⟨p1,p2,p3⟩:=I.pin p hp;exact⟨p1,nn _ p2,p3⟩
 ·by_cases hb:b=a
  ·subst hb;rw[aH]at q;cases q;exact new
  ·rw[aQ hb]at q;exact(I.hok b v q).stay (fun _ _ _ g=>g) (fun c g=>ho c b g) fun c xs g=>ht c xs g
def GY(X:Cx)(a:Addr):Prop:=∀ob u,X.H₀ a≠some (.frz ob u)
noncomputable def kU:Key->U
 |.inl i=>.int i
 |.inr x=>.str x
theorem AV{K:Q5}{m:List Addr}{H:Hp}(k:Key):Is K m H (kV k) (kU k):=by
 cases k with
 |inl i=>exact .int_
 |inr x=>exact .str_
open Classical in
def uni{α:Type}(F:Nat->Option α):Option α:=if h:∃r,∀n,F n=some r then some h.choose else none
theorem EO{α:Type}{F:Nat->Option α}{r:α}(h:∀n,F n=some r):uni F=some r:=by
 have hx:∃r,∀n,F n=some r:=⟨r,h⟩;unfold uni;rw[dif_pos hx];have:=hx.choose_spec 0;rw[h 0]at this;exact this.symm
theorem ye{α:Type}{F:Nat->Option α}{r:α}(h:uni F=some r)(n:Nat):F n=some r:=by
 unfold uni at h;split at h
 ·rename_i hx;cases h;exact hx.choose_spec n
 ·cases h
end OP
namespace OG
open PySem PySem.Spec PyProof.Rows L2
def lU(wi:TI)(g:TG)(tt:TT)(te:TE)(n:Nat)(caps:List Nat):TE:=fun σ H Q=>wi σ H fun J H1=>∀l,H1 l=none->∃W:Nat->Nat->L2.St->Hp->Prop,(∃m,W 0 m (stC n caps σ) (upd H1 l (.lst [])))/\
 ∀i m σ' H2,W i m σ' H2->(J.stop i H2/\Q (.ref l) H2)\/(J.go i H2/\∃N:L2.St->Hp->Prop,(∀σ'' H',N σ'' H'->∃m',m'<m/\W (i+1) m' σ'' H')/\
  ∀x H3,J.yld i H2 x H3->g x σ' H3 fun σ2 H4=>tt σ2 H4 fun b H5=>match b with
   |true=>te σ2 H5 fun v H6=>∃ys,H6 l=some (.lst ys)/\ys.length<sizeLine/\N σ2 (upd H6 l (.lst (ys++[v])))
   |false=>N σ2 H5)
theorem kF{prog:Program}{w:World}{A:Around}{R:Result->Shared->Prop}{s:Shared}{elt target iter c:Expr}{scope:Scope}{pos:Pos}{it acc:Value}{env:Env}(I:Nat->Shared->Prop)
  (turn:∀n s,I n s->wpAny (model prog w) A (pyNext it) (fun r s₁=>match r with
   |none=>R (.ok .next) s₁
   |some v=>wpAny (model prog w) A (letOwnedTupleGo target it v) (fun _ s₁'=>wpAny (model prog w) A (assign target env v) (fun _ s₂=>wpAny (model prog w) A (PySem.isTrue c env (eval c env)) (fun b s₂'=>match b with
    |true=>wpAny (model prog w) A (eval elt env) (fun x s₃=>
     wpAny (model prog w) A (call (.builtin "list.append") [acc,x]) (fun _ s₄=>∃m,m<n/\I m s₄) (fun _ _=>False) s₃)
     (fun _ _=>False) s₂'
    |false=>∃m,m<n/\I m s₂') (fun _ _=>False) s₂) (fun _ _=>False) s₁') (fun _ _=>False) s₁) (fun _ _=>False) s)
  (n:Nat) (h:I n s) :
  codeAny (model prog w) A (.compLoop (.ListComp elt [⟨target,iter,[c],0⟩] scope pos) 0 it acc env) R s:=by
 refine codeAny_loop rfl I (fun n s hI=>?_) n h;show wpAny _ _ ((compTurn (.ListComp elt [⟨target,iter,[c],0⟩] scope pos) 0 it acc env).onRaise (fun x=>do noteFrame x env;theTreesLotGoes x)) _ _ s;refine wpAny_noted ?_;rw[compTurn_list];refine Q0 (wpAny_standAt (Q0 (ZE (turn n s hI) (fun r s₁ h₁=>?_) fun _ _ h'=>h'.elim)));cases r with
 |none=>exact Q6 h₁
 |some v=>
  refine Q0 (ZE h₁ (fun _ s₁' h₁'=>?_) fun _ _ h'=>h'.elim);refine Q0 (ZE h₁' (fun _ s₂ h₂=>?_) fun _ _ h'=>h'.elim);dsimp only;simp only[List.forIn_cons,List.forIn_nil,if_true,bind_assoc,pure_bind];refine Q0 (ZE h₂ (fun b s₂' h₂'=>?_) fun _ _ h'=>h'.elim);cases b with
  |true=>
   rw[if_pos rfl];exact Q0 (ZE h₂' (fun x s₃ h₃=>Q0 (ZE h₃
    (fun _ s₄ h₄=>Q6 ⟨rfl,h₄⟩) fun _ _ h'=>h'.elim)) fun _ _ h'=>h'.elim)
  |false=>
   rw[if_neg Qq];exact Q6 ⟨rfl,h₂'⟩
theorem lH{X:Cx}{Nc capN tn:List Str}{scope:Scope}{cl:List (Str×Addr)}{n:Nat}{caps:List Nat}{tg iter elt:Expr}{pos:Pos}{wi:TI}{g:TG}{te:TE}{tt:TT}{c:Expr}
  (hc:X.calm=true) (hi:WI X tg iter wi) (hg:∀s3 H3 fp,WG (cxC X Nc scope cl s3 H3 fp) tg g) (he:∀s3 H3 fp,WE (cxC X Nc scope cl s3 H3 fp) elt te)
  (ht:∀s3 H3 fp,WT (cxC X Nc scope cl s3 H3 fp) c tt)
  (hclos:closureFor scope X.env=pure cl) (hkind:scope.kind=.function) (hnl:∀x∈scope.names,x.2=.local->scope.names.lookup x.1=some .local) (hcell:∀x∈scope.names,x.2≠.cell)
  (hcl:o9 X.env cl) (hhas:((relabel scope X.env).names.all fun p=>!(p.2 == .cell||p.2 == .free)||(cl.lookup p.1).isSome)=true)
  (hcap:Paired (Cap X scope cl) caps capN) (hN:Nc=tn++capN) (hn:tn.length=n)
  {use:Option (Value->Sem Unit)} {pins:List (Addr×Obj)} {σ:L2.St} {H:Hp} {s:Shared} {Q:VK} {Qf:Value->Shared->Prop} (I:Inv X pins σ H s) (h:lU wi g tt te n caps σ H Q)
  (hend:∀(D C:Addr) (s6:Shared) (H5:Hp) (m:Str->Option Value),Inv X pins σ H5 s6->s6.heap.Ns C m->H5 C=none->C≠X.env.locals->X.s₀.heap.objs.size<=C->(∀x c,X.env.cells.lookup x=some c->c≠C)->(∀p∈X.pn++pins,p.1≠C)->Q (.ref D) H5->compPost (model X.prog X.w) X.A X.xe use Qf (.ref D) C (.ok .next) s6)
  (hs:∀x,foldedSetIterable iter X.env x=pure x) :
  wpAny (model X.prog X.w) X.A (comprehension (.ListComp elt [⟨tg,iter,[c],0⟩] scope pos) scope X.env (firstIterPos [⟨tg,iter,[c],0⟩] pos) (newList []) (firstAsync [⟨tg,iter,[c],0⟩]) (firstIter [⟨tg,iter,[c],0⟩] X.env) use) Qf X.xe s:=by
 refine wpAny_comprehension_free (use:=use) (g:=⟨tg,iter,[c],0⟩) (gs:=[]) rfl hs hclos hkind hnl (thn (hi.h pins s σ H _ I h) fun v s1 h1=>thn h1 fun itv s2 h2=>?_);obtain⟨it,fp,tnn,J,H2,rfl,I2,T,st2,f2,hW⟩:=h2;have hD:=I2.fresh;obtain⟨W,⟨m0,w0⟩,turn⟩:=hW _ hD;refine wpAny_newObj_type (wpAny_newFunctionEnv hcell (by intro y hy;simp at hy) (fun h₁ hns₁ hsb₁=>?_) hkind);dsimp only at hns₁ hsb₁ ⊢;have I3:Inv X pins σ (upd H2 s2.heap.objs.size (.lst [])) { s2 with heap:=s2.heap.push { cls:=.type "list",dict:=none,data:=.seq ([]:List Value).toArray },toks:=s2.toks }:=I2.lnew (its:=[]) .nil (Qi _);generalize hs3:({ s2 with heap:=s2.heap.push { cls:=.type "list",dict:=none,data:=.seq ([]:List Value).toArray },toks:=s2.toks }:Shared)=s3 at I3;have es3:s3.heap=s2.heap.push { cls:=.type "list",dict:=none,data:=.seq ([]:List Value).toArray }:=by rw[<-hs3]
 generalize hDD:s2.heap.objs.size=D at *;have kept:∀b o,s3.heap.get? b=some o->h₁.get? b=some o:=fun b o e=>by
  have lt:=QV e;rw[es3]at lt e;exact hsb₁.extBut b o (Qj lt) (Q3 _ e)
 have old:∀b o,s2.heap.get? b=some o->s3.heap.get? b=some o:=fun b o e=>by rw[es3];exact Q3 _ e
 have ltD:∀b∈fp,b<D:=fun b hb=>by
  obtain⟨o,e,_⟩:=T.obj 0 _ st2 b hb;rw[<-hDD];exact QV e
 have fo:∀b∈fp,b<s3.heap.objs.size:=fun b hb=>by
  obtain⟨o,e,_⟩:=T.obj 0 _ st2 b hb;exact QV (old _ _ e)
 have f3:∀b∈fp,xG X pins (upd H2 D (.lst [])) b:=fun b hb=>by
  refine⟨?_,(f2 b hb).2⟩;rw[aQ (Qj (ltD b hb))];exact(f2 b hb).1
 rw[<-es3]at hns₁ hsb₁ ⊢;have Ic:=fun t'=>Inv.comp (h1:=h₁) (t':=t') (Nc:=Nc) (n:=n) I3 hc f3 fo hkind hcl hhas hcap tn hN hn hns₁ kept;have stat:∀{H':Hp},(∀b∈fp,H' b=none)->∀b∈fp,xG (cxC X Nc scope cl s3 (upd H2 D (.lst [])) fp) [] H' b:=fun hn' b hb=>by
  refine⟨hn' b hb,Qj (fo b hb),fun z=>?_,.inl hb,fun x c e=>(f2 b hb).2.2.2.2.1 x c (hcl.look e),fun p hp=>(by simp at hp)⟩;rcases Qk.mp (I3.stkSub b z)with q|q
  ·exact(f2 b hb).2.1 q
  ·exact(f2 b hb).2.2.1 q
 have loop:∀s4:Shared,(∃t',s4={ s3 with heap:=h₁,toks:=t' })->codeAny (model X.prog X.w) X.A (.compLoop (.ListComp elt [⟨tg,iter,[c],0⟩] scope pos) 0 (.ref it) (.ref D) (compEnvC scope cl s3.heap.objs.size X.env))
   (compPost (model X.prog X.w) X.A X.xe use Qf (.ref D) s3.heap.objs.size) s4:=by
  rintro s4 ⟨t',rfl⟩;refine kF (fun n' s'=>∃i σ' H',Inv (cxC X Nc scope cl s3 (upd H2 D (.lst [])) fp) [] σ' H' s'/\tnn i s'.heap/\(∀b∈fp,H' b=none)/\W i n' σ' H') ?_ m0
   ⟨0,_,_,Ic t',T.keep 0 _ _ st2 fun b hb o e=>kept _ _ (old _ _ e),fun b hb=>(f3 b hb).1,w0⟩
  rintro n' s5 ⟨i,σ5,H5,I5,st5,fr5,w5⟩;rcases turn i n' σ5 H5 w5 with⟨stop,qn⟩|⟨go,N,hN',step⟩
  ·refine thn (T.done (cxC X Nc scope cl s3 (upd H2 D (.lst [])) fp) rfl rfl rfl hc i [] s5 σ5 H5 (fun _ _=>False) I5 (stat fr5) st5 stop) fun r s6 ⟨hr,I6⟩=>?_;subst hr;obtain⟨m,hm,_⟩:=I6.loc;have I7:Inv X pins σ H5 s6:=Inv.call' (ch:=fp) I3 I6.os I6.base I6.hok I6.bare fun b hb=>⟨(f2 b hb).2.2.2.1,(f2 b hb).2.1,(f2 b hb).2.2.2.2.1,(f2 b hb).2.2.2.2.2⟩;exact hend D _ s6 H5 m I7 hm I6.free (Ne.symm (Qj I3.lt)) I3.sz (fun x c e=>by
     obtain⟨v',o,ho,_⟩:=I3.cell x c e;exact Qj (QV ho)) (fun p hp=>Qj (QV (I3.pin p hp).1)) qn
  ·refine thn (T.item (cxC X Nc scope cl s3 (upd H2 D (.lst [])) fp) rfl rfl rfl hc i [] s5 σ5 H5 (fun _ _=>False) I5 (stat fr5) st5 go) fun r s6 ⟨u,hr,h6⟩=>?_;subst hr;refine thn h6 fun _ s7 hz=>?_;obtain⟨x,H7,I7,r7,y7,st7,fr7⟩:=hz;have I7':=I7.pinned (stat fr7) (T.obj _ _ st7);refine thn ((hg s3 (upd H2 D (.lst [])) fp).h _ s7 σ5 H7 x u _ I7' r7 (step x H7 y7)) fun _ s8 hz=>?_;obtain⟨σ8,H8,I8,q8⟩:=hz;have fin:∀{s10:Shared} {H10:Hp},Inv (cxC X Nc scope cl s3 (upd H2 D (.lst [])) fp) _ σ8 H10 s10->N σ8 H10->∃m',m'<n'/\∃i' σ' H',Inv (cxC X Nc scope cl s3 (upd H2 D (.lst [])) fp) [] σ' H' s10/\tnn i' s10.heap/\(∀b∈fp,H' b=none)/\W i' m' σ' H':=fun{s10 H10} I10 q10=>by
    obtain⟨m',hm,w10⟩:=hN' σ8 H10 q10;refine⟨m',hm,i+1,σ8,H10,Inv.unpinned I10,T.keep _ _ _ st7 fun b hb o e=>(Inv.pin I10 (b,o) (QL _ (QL _ (c7 hb e)))).1,fun b hb=>?_,w10⟩;obtain⟨o,e,d⟩:=T.obj _ _ st7 b hb;exact(Inv.pin I10 (b,o) (QL _ (QL _ (c7 hb e)))).2.1
   refine thn ((ht s3 (upd H2 D (.lst [])) fp).h _ s8 σ8 H8 _ I8 q8) fun b9 s9' h9=>?_;obtain⟨H9',I9',q9'⟩:=h9;cases b9 with
   |false=>exact fin I9' q9'
   |true=>
    refine thn ((he s3 (upd H2 D (.lst [])) fp).h _ s9' σ8 H9' _ I9' q9') fun v9 s9 hz=>?_;obtain⟨x9,H9,I9,r9,ys,hy,hlt,q9⟩:=hz;exact thn (jO (X:=cxC X Nc scope cl s3 (upd H2 D (.lst [])) fp) _ s9 σ8 H9 (.ref D) [x9] (.ref D) [v9] (fun _ H'=>N σ8 H') I9 rfl (.cons r9 .nil) ⟨D,ys,x9,rfl,rfl,hy,hlt,q9⟩) fun _ s10 ⟨_,H10,I10,_,q10⟩=>fin I10 q10
 have e4:∀t',({ s2 with heap:=h₁,toks:=t' }:Shared)={ s3 with heap:=h₁,toks:=t' }:=fun t'=>by rw[<-hs3]
 refine codeAny_compStart_list (loop _ ⟨_,e4 _⟩) (T.self _ 0 _ _ _ (T.keep 0 _ _ st2 fun b hb o e=>kept _ _ (old _ _ e)) (loop _ ⟨_,e4 _⟩))
theorem sD{X:Cx}{Nc capN tn:List Str}{scope:Scope}{cl:List (Str×Addr)}{n:Nat}{caps:List Nat}{tg iter elt:Expr}{pos:Pos}{wi:TI}{g:TG}{te:TE}{tt:TT}{c:Expr}
  (hc:X.calm=true) (hi:WI X tg iter wi) (hg:∀s3 H3 fp,WG (cxC X Nc scope cl s3 H3 fp) tg g) (he:∀s3 H3 fp,WE (cxC X Nc scope cl s3 H3 fp) elt te)
  (ht:∀s3 H3 fp,WT (cxC X Nc scope cl s3 H3 fp) c tt)
  (hclos:closureFor scope X.env=pure cl) (hkind:scope.kind=.function) (hnl:∀x∈scope.names,x.2=.local->scope.names.lookup x.1=some .local) (hcell:∀x∈scope.names,x.2≠.cell)
  (hcl:o9 X.env cl) (hhas:((relabel scope X.env).names.all fun p=>!(p.2 == .cell||p.2 == .free)||(cl.lookup p.1).isSome)=true)
  (hcap:Paired (Cap X scope cl) caps capN) (hN:Nc=tn++capN) (hn:tn.length=n)
  (hs:∀x,foldedSetIterable iter X.env x=pure x:=by intro _;rfl) :
  WE X (.ListComp elt [⟨tg,iter,[c],0⟩] scope pos) (lU wi g tt te n caps):=by
 constructor;intro pins s σ H Q I h;rw[eval_ListComp];refine lH hc hi hg he ht hclos hkind hnl hcell hcl hhas hcap hN hn I h (fun D C s6 H5 m I7 hm fr nl sz cn pn qn=>⟨m,hm,fun h' hs'=>?_⟩) hs;exact⟨.ref D,H5,I7.turned (t':=s6.toks) (it:=C) (fun b o hb e=>hs'.extBut b o hb e) fr nl (.inr sz) cn pn,rfl,qn⟩
end OG
namespace OP
open PySem PySem.Spec PyProof.Rows L2 OG
open Classical in
def bO(ok:Sto->Prop)(g:CG)(ct:CT)(ce:CE)(l:Nat):List U->Rho->Sto->Option Sto
 |[],_,S=>if ok S then some S else none
 |u::us,ρ,S=>if ok S then(g u ρ S).bind fun p=>(ct p.1 p.2).bind fun q=>if q.1=true then(ce p.1 q.2).bind fun r=>match r.2[l]? with
  |some (.lst ys)=>if ys.length<LIM then bO ok g ct ce l us p.1 (r.2.set l (.lst (ys++[r.1])))else none
  |_=>none else bO ok g ct ce l us p.1 q.2 else none
def a6(ci:CI)(g:CG)(ct:CT)(ce:CE)(n:Nat)(caps:List Nat):CE:=fun ρ S=>(ci ρ S).bind fun p=>(bO p.2.1 g ct ce p.2.2.length p.1 (me n caps ρ) (p.2.2++[.lst []])).bind fun S'=>some (.ref p.2.2.length,S')
section
variable{X:Cx}{K:Q5}
theorem pX{g:CG}{ct:CT}{ce:CE}{n:Nat}{caps:List Nat}{J:It}{us:List U}{ok:Sto->Prop}{Q:VK}{m1:List Addr}{H1:Hp}{S1 S':Sto}{ρ:Rho}{σ:L2.St}{l:Addr}(sr1:Sr K m1 S1 H1)(lr:Lr K m1 H1 ρ σ)(ito:Aj K J m1 H1 us ok)(hl:H1 l=none)(h2:bO ok g ct ce S1.length us (me n caps ρ) (S1++[.lst []])=some S')
  (post:∀m2 H2,Ext K (m1++[l]) (upd H1 l (.lst [])) m2 H2->Sr K m2 S' H2->Q (.ref l) H2) :
  ∃W:Nat->Nat->L2.St->Hp->Prop,(∃m,W 0 m (OG.stC n caps σ) (upd H1 l (.lst [])))/\
 ∀i m σ' H2,W i m σ' H2->(J.stop i H2/\Q (.ref l) H2)\/(J.go i H2/\∃N:L2.St->Hp->Prop,(∀σ'' H',N σ'' H'->∃m',m'<m/\W (i+1) m' σ'' H')/\
  ∀x H3,J.yld i H2 x H3->tG K g x σ' H3 fun σ2 H4=>tT K ct σ2 H4 fun b H5=>match b with
   |true=>tE K ce σ2 H5 fun v H6=>∃ys,H6 l=some (.lst ys)/\ys.length<sizeLine/\N σ2 (upd H6 l (.lst (ys++[v])))
   |false=>N σ2 H5):=by
 have ee:Ext K m1 H1 (m1++[l]) (upd H1 l (.lst [])):=.new (bp hl _);let W:Nat->Nat->L2.St->Hp->Prop:=fun i k σ2 H2=>k=us.length-i/\i<=us.length/\∃m2 ρ2 S2,Ext K (m1++[l]) (upd H1 l (.lst [])) m2 H2/\Sr K m2 S2 H2/\Lr K m2 H2 ρ2 σ2/\bO ok g ct ce S1.length (us.drop i) ρ2 S2=some S'
 refine⟨W,⟨us.length,by simp,Qi _,m1++[l],me n caps ρ,S1++[.lst []],.refl,sr1.new (o:=.lst []) hl ⟨[],aH,.nil_⟩,vO (lr.mono ee),by simpa using h2⟩,?_⟩;rintro i k σ2 H2 ⟨rfl,hi,m2,ρ2,S2,e2,sr2,lr2,hl2⟩;by_cases hlt:i<us.length
 ·have hu:=Q4 hlt;rw[ke hu]at hl2;unfold bO at hl2;split at hl2
  ·rename_i hok;obtain⟨⟨ρ3,S3⟩,h3,hl2⟩:=Q2.mp hl2;obtain⟨⟨b4,S4⟩,h4,hl2⟩:=Q2.mp hl2;obtain⟨hgo,hy⟩:=(ito m2 S2 H2 i (ee.trans e2) sr2 hok).1 _ hu;refine .inr ⟨hgo,W (i+1) (us.length-(i+1)),fun σ' H' w'=>⟨_,by omega,w'⟩,fun x H3 y=>?_⟩;obtain⟨e3,sr3,ix⟩:=hy x H3 y;refine⟨m2,ρ2,S2,_,ρ3,S3,sr3,lr2.mono e3,ix,h3,fun m4 σ4 H4 e4 sr4 lr4=>⟨m4,ρ3,S3,b4,S4,sr4,lr4,h4,fun m4' H4' e4' sr4'=>?_⟩⟩;cases b4 with
   |false=>
    rw[if_neg Qq]at hl2;exact⟨rfl,hlt,m4',ρ3,_,(((e2.trans e3).trans e4).trans e4'),sr4',lr4.mono e4',hl2⟩
   |true=>
    rw[if_pos rfl]at hl2;obtain⟨⟨u5,S5⟩,h5,hl2⟩:=Q2.mp hl2;simp only at hl2;split at hl2<;>try cases hl2
    rename_i ys hys;split at hl2<;>try cases hl2
    rename_i hlen;refine⟨m4',ρ3,S4,u5,S5,sr4',lr4.mono e4',h5,fun m5 v5 H5 e5 sr5 i5=>?_⟩;obtain⟨a',ha',xs,hx,il⟩:=sr5.get hys;have ha:m5[S1.length]?=some l:=((((e2.trans e3).trans e4).trans e4').trans e5).get (cm sr1.len);rw[ha]at ha';cases ha';have eu:Ext K m5 H5 m5 (upd H5 l (.lst (xs++[v5]))):=.of (sr5.keep ha _);exact⟨xs,hx,F9 (by rw[il.length];exact hlen),rfl,hlt,m5,ρ3,_,(((((e2.trans e3).trans e4).trans e4').trans e5).trans eu),sr5.put (o:=.lst (ys++[u5])) ha ⟨_,aH,(il.append (.cons_ i5 .nil_)).mono eu⟩,(lr4.mono ((e4'.trans e5).trans eu)),hl2⟩
  ·cases hl2
 ·have e:i=us.length:=by omega
  subst e;rw[List.drop_length]at hl2;unfold bO at hl2;split at hl2
  ·rename_i hok;cases hl2;exact .inl ⟨(ito m2 _ H2 _ (ee.trans e2) sr2 hok).2 (QJ _),post m2 H2 e2 sr2⟩
  ·cases hl2
theorem lG{ci:CI}{g:CG}{ct:CT}{ce:CE}{n:Nat}{caps:List Nat}:∀σ H Q,tE K (a6 ci g ct ce n caps) σ H Q->lU (tI K ci) (tG K g) (tT K ct) (tE K ce) n caps σ H Q:=by
 rintro σ H Q ⟨m,ρ,S,u,S',sr,lr,hc,post⟩;obtain⟨⟨us,ok,S1⟩,h1,h2⟩:=Q2.mp hc;obtain⟨S2,h2,h3⟩:=Q2.mp h2;cases h3;refine⟨m,ρ,S,us,ok,S1,sr,lr,h1,fun m1 H1 J e1 sr1 ito l hl=>?_⟩;have ee:Ext K m1 H1 (m1++[l]) (upd H1 l (.lst [])):=.new (bp hl _);exact pX sr1 (lr.mono e1) ito hl h2 fun m2 H2 e2 sr2=>post m2 _ H2 ((e1.trans ee).trans e2) sr2 (.ref_ (e2.get (cm sr1.len)))
theorem fF{Nc capN tn:List Str}{scope:Scope}{cl:List (Str×Addr)}{n:Nat}{caps:List Nat}{tg iter elt:Expr}{pos:Pos}{ci:CI}{g:CG}{ct:CT}{ce:CE}{c:Expr}
  (hc:X.calm=true) (hi:QI X tg iter ci) (hg:∀s3 H3 fp,WG (cxC X Nc scope cl s3 H3 fp) tg (tG X.K g)) (ht:∀s3 H3 fp,WT (cxC X Nc scope cl s3 H3 fp) c (tT X.K ct)) (he:∀s3 H3 fp,WE (cxC X Nc scope cl s3 H3 fp) elt (tE X.K ce))
  (hclos:closureFor scope X.env=pure cl) (hkind:scope.kind=.function) (hnl:∀x∈scope.names,x.2=.local->scope.names.lookup x.1=some .local) (hcell:∀x∈scope.names,x.2≠.cell)
  (hcl:o9 X.env cl) (hhas:((relabel scope X.env).names.all fun p=>!(p.2 == .cell||p.2 == .free)||(cl.lookup p.1).isSome)=true)
  (hcap:Paired (Cap X scope cl) caps capN) (hN:Nc=tn++capN) (hn:tn.length=n)
  (hs:∀x,foldedSetIterable iter X.env x=pure x:=by intro _;rfl) :
  QE X (.ListComp elt [⟨tg,iter,[c],0⟩] scope pos) (a6 ci g ct ce n caps):=(sD hc hi hg he ht hclos hkind hnl hcell hcl hhas hcap hN hn hs).imp lG
end
end OP
namespace OP
open PySem PySem.Spec PyProof PyProof.Rows L2 OG
mutual
inductive RdV(K:Q5)(H:Hp):V->PyData->Prop
 |non:RdV K H .non .none
 |bl (b:Bool):RdV K H (.bl b) (.bool b)
 |int (i:Int):RdV K H (.int i) (.int i)
 |str (x:Str):RdV K H (.str x) (.str x)
 |lst {a:Addr} {xs:List V} {ds:List PyData}:SqL K H a xs->xC K H xs ds->RdV K H (.ref a) (.list ds)
 |tup {a:Addr} {xs:List V} {ds:List PyData}:SqT K H a xs->xC K H xs ds->RdV K H (.ref a) (.tuple ds)
inductive xC(K:Q5)(H:Hp):List V->List PyData->Prop
 |nil:xC K H [] []
 |cons {x:V} {xs:List V} {d:PyData} {ds:List PyData}:RdV K H x d->xC K H xs ds->xC K H (x::xs) (d::ds)
end
mutual
inductive Dt(S:Sto):U->PyData->Prop
 |non:Dt S .non .none
 |bl (b:Bool):Dt S (.bl b) (.bool b)
 |int (i:Int):Dt S (.int i) (.int i)
 |str (x:Str):Dt S (.str x) (.str x)
 |lst {l:Nat} {us:List U} {ds:List PyData}:S[l]?=some (.lst us)->DtL S us ds->Dt S (.ref l) (.list ds)
 |tup {us:List U} {ds:List PyData}:DtL S us ds->Dt S (.tup us) (.tuple ds)
inductive DtL(S:Sto):List U->List PyData->Prop
 |nil:DtL S [] []
 |cons {x:U} {xs:List U} {d:PyData} {ds:List PyData}:Dt S x d->DtL S xs ds->DtL S (x::xs) (d::ds)
end
section
variable{X:Cx}{K:Q5}{pins:List (Addr×Obj)}{σ:L2.St}{H:Hp}{s:Shared}
mutual
theorem RdV.reads(I:Inv X pins σ H s):∀{x:V} {d:PyData} {v:Value},RdV X.K H x d->bR x v->∃as,Reads s.heap v d as
 |_,_,_,.non,r=>by cases r;exact⟨_,.none⟩
 |_,_,_,.bl b,r=>by cases r;exact⟨_,.bool b⟩
 |_,_,_,.int i,r=>by obtain⟨t,rfl⟩:=r;exact⟨_,.int i t⟩
 |_,_,_,.str i,r=>by obtain⟨t,rfl⟩:=r;exact⟨_,.str i t⟩
 |_,_,_,.lst (a:=a) h t,r=>by
  cases r;obtain⟨its,rv,pl,_⟩:=I.list h;obtain⟨as,k⟩:=xC.reads I t rv;obtain⟨o,h1,h2,n,h3⟩:=pl.isList;exact⟨_,.list h1 h2 h3 (by simpa using k)⟩
 |_,_,_,.tup (a:=a) h t,r=>by
  cases r;obtain⟨its,rv,pl,_⟩:=I.tuple h;obtain⟨as,k⟩:=xC.reads I t rv;obtain⟨o,h1,h2,n,h3⟩:=pl;exact⟨_,.tuple h1 h2 h3 (by simpa using k)⟩
theorem xC.reads(I:Inv X pins σ H s):∀{xs:List V} {ds:List PyData} {vs:List Value},xC X.K H xs ds->aX xs vs->∃as,ReadsAll s.heap vs ds as
 |_,_,_,.nil,r=>by cases r;exact⟨_,.nil⟩
 |_,_,_,.cons h t,.cons r rs=>by
  obtain⟨as,a⟩:=RdV.reads I h r;obtain⟨bs,b⟩:=xC.reads I t rs;exact⟨_,.cons a b⟩
end
mutual
theorem Dt.rd{m:List Addr}{S:Sto}(sr:Sr K m S H):∀{u:U} {d:PyData} {v:V},Dt S u d->Is K m H v u->RdV K H v d
 |_,_,_,.non,i=>by rw[i.of_non];exact .non
 |_,_,_,.bl b,i=>by rw[i.of_bl];exact .bl b
 |_,_,_,.int b,i=>by rw[i.of_int];exact .int b
 |_,_,_,.str b,i=>by rw[i.of_str];exact .str b
 |_,_,_,.lst h t,i=>by
  obtain⟨a,ha,rfl⟩:=i.of_ref;obtain⟨a',ha',xs,hx,il⟩:=sr.get h;rw[ha]at ha';cases ha';exact .lst (SqL.of hx) (DtL.rd sr t il)
 |_,_,_,.tup t,i=>by
  obtain⟨a,xs,rfl,sa,la⟩:=i.of_tup;exact .tup sa (DtL.rd sr t la)
theorem DtL.rd{m:List Addr}{S:Sto}(sr:Sr K m S H):∀{us:List U} {ds:List PyData} {vs:List V},DtL S us ds->IsL K m H vs us->xC K H vs ds
 |_,_,_,.nil,i=>by rw[i.of_nil];exact .nil
 |_,_,_,.cons h t,i=>by
  obtain⟨x,r,rfl,i1,i2⟩:=i.of_cons;exact .cons (Dt.rd sr h i1) (DtL.rd sr t i2)
end
mutual
theorem Dt.uniq{S:Sto}:∀{u:U} {d e:PyData},Dt S u d->Dt S u e->d=e
 |_,_,_,.non,.non=>rfl
 |_,_,_,.bl _,.bl _=>rfl
 |_,_,_,.int _,.int _=>rfl
 |_,_,_,.str _,.str _=>rfl
 |_,_,_,.lst h t,.lst h' t'=>by
  rw[h]at h';cases h';rw[DtL.uniq t t']
 |_,_,_,.tup t,.tup t'=>by rw[DtL.uniq t t']
theorem DtL.uniq{S:Sto}:∀{us:List U} {ds es:List PyData},DtL S us ds->DtL S us es->ds=es
 |_,_,_,.nil,.nil=>rfl
 |_,_,_,.cons h t,.cons h' t'=>by rw[Dt.uniq h h',DtL.uniq t t']
end
def qi(d:PyData):Prop:=d.canLay0=true/\d.depth<=60
def Ik(K:Q5)(neg:Bool):R2:=fun x y H Q=>(∃dx dy,RdV K H x dx/\RdV K H y dy/\qi dx/\qi dy/\Q (.bl (if neg then !dx.eqv dy else dx.eqv dy)) H)\/
 ∃a b xs ys,x=.ref a/\y=.ref b/\SqL K H a xs/\SqL K H b ys/\xs.length≠ys.length/\Q (.bl neg) H
theorem FV(hu:X.A.units+64<cLine):OpR X (compareOp .Eq) (Ik X.K false):=by
 rintro pins s σ H x y v u Q I rx ry (⟨dx,dy,hx,hy,lx,ly,q⟩|⟨a,b,xs,ys,rfl,rfl,ha,hb,ne,q⟩)
 ·obtain⟨as,hx⟩:=hx.reads I rx;obtain⟨bs,hy⟩:=hy.reads I ry;exact SeqAt.compareEq_reads hx hy lx.1 ly.1 (by have:=lx.2;omega) ⟨.bl _,H,I,rfl,q⟩
 ·cases rx;cases ry;obtain⟨i1,r1,p1,_⟩:=I.list ha;obtain⟨i2,r2,p2,_⟩:=I.list hb;have l1:=r1.length;have l2:=r2.length;exact SeqAt.RcAt.lists_lengths p1.isList p2.isList (by simp;omega) (by omega) X.prog X.w X.xe _ ⟨.bl false,H,I,rfl,q⟩
theorem qW(hu:X.A.units+64<cLine):OpR X (compareOp .NotEq) (Ik X.K true):=by
 rintro pins s σ H x y v u Q I rx ry (⟨dx,dy,hx,hy,lx,ly,q⟩|⟨a,b,xs,ys,rfl,rfl,ha,hb,ne,q⟩)
 ·obtain⟨as,hx⟩:=hx.reads I rx;obtain⟨bs,hy⟩:=hy.reads I ry;exact SeqAt.compareNe_reads hx hy lx.1 ly.1 (by have:=lx.2;omega) ⟨.bl _,H,I,rfl,q⟩
 ·cases rx;cases ry;obtain⟨i1,r1,p1,_⟩:=I.list ha;obtain⟨i2,r2,p2,_⟩:=I.list hb;have l1:=r1.length;have l2:=r2.length;exact SeqAt.RcNeAt.lists_lengths p1.isList p2.isList (by simp;omega) (by omega) X.prog X.w X.xe _ ⟨.bl true,H,I,rfl,q⟩
def xK(x y:U)(S:Sto)(b:Bool):Prop:=(∃dx dy,Dt S x dx/\Dt S y dy/\qi dx/\qi dy/\b=dx.eqv dy)\/∃l l' us vs,x=.ref l/\y=.ref l'/\S[l]?=some (.lst us)/\S[l']?=some (.lst vs)/\us.length≠vs.length/\b=false
theorem DtL.length{S:Sto}:∀{us:List U} {ds:List PyData},DtL S us ds->us.length=ds.length
 |_,_,.nil=>rfl
 |_,_,.cons _ t=>by rw[QH,QH,DtL.length t]
theorem xK.mix{l l':Nat}{us vs:List U}{S:Sto}{dx dy:PyData}(h1:Dt S (.ref l) dx)(h2:Dt S (.ref l') dy)(k1:S[l]?=some (.lst us))(k2:S[l']?=some (.lst vs))(ne:us.length≠vs.length):dx.eqv dy=false:=by
 cases h1 with
 |lst a1 t1=>
  cases h2 with
  |lst a2 t2=>
   rw[k1]at a1;cases a1;rw[k2]at a2;cases a2;show PyData.eqvAll _ _=false;exact SeqAt.eqvAll_other_length (by rw[<-t1.length,<-t2.length];exact ne)
theorem xK.uniq{x y:U}{S:Sto}{b c:Bool}(h:xK x y S b)(k:xK x y S c):b=c:=by
 rcases h with⟨dx,dy,h1,h2,_,_,rfl⟩|⟨l,l',us,vs,rfl,rfl,h1,h2,ne,rfl⟩
 ·rcases k with⟨ex,ey,k1,k2,_,_,rfl⟩|⟨l,l',us,vs,rfl,rfl,k1,k2,ne,rfl⟩
  ·rw[h1.uniq k1,h2.uniq k2]
  ·exact xK.mix h1 h2 k1 k2 ne
 ·rcases k with⟨ex,ey,k1,k2,_,_,rfl⟩|⟨_,_,_,_,_,_,_,_,_,rfl⟩
  ·exact(xK.mix k1 k2 h1 h2 ne).symm
  ·rfl
open Classical in
def lC(neg:Bool):U->U->Sto->Option (U×Sto):=fun x y S=>if h:∃b,xK x y S b then some (.bl (if neg then !h.choose else h.choose),S)else none
theorem j6{x y:U}{S:Sto}{b:Bool}(neg:Bool)(h:xK x y S b):lC neg x y S=some (.bl (if neg then !b else b),S):=by
 unfold lC;rw[dif_pos ⟨b,h⟩];have e:(⟨b,h⟩:∃b,xK x y S b).choose=b:=(Exists.choose_spec (⟨b,h⟩:∃b,xK x y S b)).uniq h;rw[e]
theorem vx{neg:Bool}:OpP K (Ik K neg) (lC neg):=by
 intro m S H x y v w u S' Q sr ix iy hf post;unfold lC at hf;split at hf<;>try cases hf
 rename_i h;have hb:=h.choose_spec;generalize h.choose=b at hb post;rcases hb with⟨dx,dy,h1,h2,l1,l2,rfl⟩|⟨l,l',us,vs,rfl,rfl,h1,h2,ne,rfl⟩
 ·exact .inl ⟨dx,dy,h1.rd sr ix,h2.rd sr iy,l1,l2,post m _ H .refl sr .bl_⟩
 ·obtain⟨a,ha,rfl⟩:=ix.of_ref;obtain⟨a',ha',xs,hx,la⟩:=sr.get h1;rw[ha]at ha';cases ha';obtain⟨c,hc,rfl⟩:=iy.of_ref;obtain⟨c',hc',ys,hy,lc⟩:=sr.get h2;rw[hc]at hc';cases hc';refine .inr ⟨a,c,xs,ys,rfl,rfl,SqL.of hx,SqL.of hy,by rw[la.length,lc.length];exact ne,?_⟩;have e:(if neg=true then !false else false)=neg:=by cases neg<;>rfl
  have:=post m _ H .refl sr (Is.bl_ (b:=if neg=true then !false else false));rw[e]at this;exact this
def JF(K:Q5)(neg:Bool):R2:=fun x y H Q=>∃dx dys,RdV K H x dx/\(RdV K H y (.list dys)\/RdV K H y (.tuple dys))/\qi dx/\PyData.canLayAll0 dys=true/\Q (.bl (if neg then !(dys.any fun z=>z.eqv dx)else dys.any fun z=>z.eqv dx)) H
theorem FT(hu:X.A.units+64<cLine):OpR X (compareOp .In) (JF X.K false):=by
 rintro pins s σ H x y v u Q I rx ry ⟨dx,dys,hx,hy,lx,ly,q⟩;obtain⟨as,hx⟩:=hx.reads I rx;rcases hy with hy|hy
 ·obtain⟨bs,hy⟩:=hy.reads I ry;exact SeqAt.in_list_reads hy hx ly lx.1 (by have:=lx.2;omega) ⟨.bl _,H,I,rfl,q⟩
 ·obtain⟨bs,hy⟩:=hy.reads I ry;exact SeqAt.in_tuple_reads hy hx ly lx.1 (by have:=lx.2;omega) ⟨.bl _,H,I,rfl,q⟩
def DX(x y:U)(S:Sto)(b:Bool):Prop:=∃dx dys,Dt S x dx/\(Dt S y (.list dys)\/Dt S y (.tuple dys))/\qi dx/\PyData.canLayAll0 dys=true/\b=dys.any fun z=>z.eqv dx
theorem DX.uniq{x y:U}{S:Sto}{b c:Bool}(h:DX x y S b)(k:DX x y S c):b=c:=by
 obtain⟨dx,dy,h1,h2,_,_,rfl⟩:=h;obtain⟨ex,ey,k1,k2,_,_,rfl⟩:=k;rw[h1.uniq k1];rcases h2 with h2|h2<;>rcases k2 with k2|k2<;>cases h2.uniq k2<;>rfl
open Classical in
def D3(neg:Bool):U->U->Sto->Option (U×Sto):=fun x y S=>if h:∃b,DX x y S b then some (.bl (if neg then !h.choose else h.choose),S)else none
theorem Dx{x y:U}{S:Sto}{b:Bool}(neg:Bool)(h:DX x y S b):D3 neg x y S=some (.bl (if neg then !b else b),S):=by
 unfold D3;rw[dif_pos ⟨b,h⟩];have e:(⟨b,h⟩:∃b,DX x y S b).choose=b:=(Exists.choose_spec (⟨b,h⟩:∃b,DX x y S b)).uniq h;rw[e]
theorem IH{neg:Bool}:OpP K (JF K neg) (D3 neg):=by
 intro m S H x y v w u S' Q sr ix iy hf post;unfold D3 at hf;split at hf<;>try cases hf
 rename_i h;have hb:=h.choose_spec;generalize h.choose=b at hb post;obtain⟨dx,dy,h1,h2,l1,l2,rfl⟩:=hb;exact⟨dx,dy,h1.rd sr ix,h2.elim (fun z=>.inl (z.rd sr iy)) (fun z=>.inr (z.rd sr iy)),l1,l2,post m _ H .refl sr .bl_⟩
def o7(us:List U)(lo hi:Option Int):List U:=(us.drop (HT.sIx us.length 0 lo)).take (HT.sIx us.length us.length hi-HT.sIx us.length 0 lo)
theorem rP{m:List Addr}{xs:List V}{us:List U}{lo hi:Option Int}(i:IsL K m H xs us):IsL K m H (A6 xs lo hi) (o7 us lo hi):=by
 unfold A6 o7;rw[i.length];exact(i.drop _).take _
def fSl(x:U)(lo hi:Option Int)(S:Sto):Option (U×Sto):=match x with
 |.tup us=>if HT.sIx us.length 0 lo=0/\HT.sIx us.length us.length hi=us.length then none else some (.tup (o7 us lo hi),S)
 |.ref l=>match S[l]? with
  |some (.lst us)=>some (.ref S.length,S++[.lst (o7 us lo hi)])
  |_=>none
 |_=>none
def iH:Option CE->Rho->Sto->Option (Option Int×Sto)
 |none,_,S=>some (none,S)
 |some c,ρ,S=>(c ρ S).bind fun p=>match p.1 with
  |.int i=>some (some i,p.2)
  |_=>none
def cSl(ca:CE)(cl ch:Option CE):CE:=fun ρ S=>(ca ρ S).bind fun p=>(iH cl ρ p.2).bind fun q=>(iH ch ρ q.2).bind fun r=>fSl p.1 q.1 r.1 r.2
def Jo(K:Q5)(m:List Addr)(H:Hp)(Q:Option Int->Hp->Prop)(o:Option Int)(S':Sto):Prop:=∀m' H',Ext K m H m' H'->Sr K m' S' H'->Q o H'
def tO(K:Q5)(c:Option CE):TO:=fun σ H Q=>∃m ρ S o S',Sr K m S H/\Lr K m H ρ σ/\iH c ρ S=some (o,S')/\Jo K m H Q o S'
abbrev QO(X:Cx)(e:Option Expr)(c:Option CE):Prop:=WO X e (tO X.K c)
theorem gc:QO X none none:=⟨fun pins s σ H Q I hz=>iF hz fun m ρ S o S' sr lr hc post=>xZ.h pins s σ H Q I (by cases hc;exact post m H .refl sr)⟩
theorem f6{e:Expr}{ca:CE}(h:QE X e ca):QO X (some e) (some ca):=⟨fun pins s σ H Q I hz=>iF hz fun m ρ S o S' sr lr hc post=>(xY h).h pins s σ H Q I (by
 obtain⟨⟨x,S1⟩,h1,h2⟩:=Q2.mp hc;refine⟨m,ρ,S,x,S1,sr,lr,h1,fun m1 v1 H1 e1 sr1 i1=>?_⟩;cases x<;>simp at h2;obtain⟨rfl,rfl⟩:=h2;exact⟨_,i1.of_int,post m1 H1 e1 sr1⟩)⟩
theorem DZ{e:Expr}{lo hi:Option Expr}{ca:CE}{cl ch:Option CE}{pos p2:Pos}(ha:QE X e ca)(hl:QO X lo cl)(hh:QO X hi ch):QE X (.Subscript e (.Slice lo hi none p2) pos) (cSl ca cl ch):=(nk (uI.or Ar) ha hl hh).imp fun σ H Q hz=>iF hz fun m ρ S u S' sr lr hc post=>by
 obtain⟨⟨x,S1⟩,h1,ha⟩:=Q2.mp hc;obtain⟨⟨l,S2⟩,h2,hb⟩:=Q2.mp ha;obtain⟨⟨k,S3⟩,h3,h⟩:=Q2.mp hb;clear ha hb hc;refine⟨m,ρ,S,x,S1,sr,lr,h1,fun m1 v1 H1 e1 sr1 i1=>⟨m1,ρ,S1,l,S2,sr1,lr.mono e1,h2,fun m2 H2 e2 sr2=>⟨m2,ρ,S2,k,S3,sr2,lr.mono (e1.trans e2),h3,fun m3 H3 e3 sr3=>?_⟩⟩⟩;have i3:=i1.mono (e2.trans e3);have e03:=(e1.trans e2).trans e3;cases x with
 |tup us=>
  simp only[fSl]at h;split at h<;>try cases h
  rename_i hw;obtain⟨a,xs,rfl,sa,la⟩:=i3.of_tup;exact .inr ⟨a,xs,rfl,sa,by rw[la.length];exact hw,fun p hp=>jv sr3 (rP la) (post.mono e03) hp⟩
 |ref r=>
  simp only[fSl]at h;split at h<;>try cases h
  rename_i us hS;obtain⟨a,ha,rfl⟩:=i3.of_ref;obtain⟨a',ha',xs,hx,la⟩:=sr3.get hS;rw[ha]at ha';cases ha';exact .inl ⟨a,xs,rfl,SqL.of hx,fun p hp=>bA sr3 (rP la) (post.mono e03) hp⟩
 |_=>simp[fSl]at h
end
instance {us:List U}:Decidable (us≠[]):=match us with
 |[]=>.isFalse fun h=>h rfl
 |_::_=>.isTrue fun h=>by cases h
end OP
namespace OG
open PySem PySem.Spec PyProof.Rows L2
theorem AN{C a:Addr}{m:Str->Option Value}{h h':Heap}(n:h.Ns C m)(s:XI a h h')(ne:C≠a):h'.Ns C m:=by
 obtain⟨o,es,ep,e,r⟩:=n;exact⟨o,es,ep,(s.2 C ne).trans e,r⟩
theorem sA{X:Cx}{Nc capN tn:List Str}{scope:Scope}{cl:List (Str×Addr)}{n:Nat}{caps:List Nat}{tg iter elt:Expr}{pos:Pos}{wi:TI}{g:TG}{te:TE}
  (hc:X.calm=true) (hi:WI X tg iter wi) (hg:∀s3 H3 fp,WG (cxC X Nc scope cl s3 H3 fp) tg g) (he:∀s3 H3 fp,WE (cxC X Nc scope cl s3 H3 fp) elt te)
  (hclos:closureFor scope X.env=pure cl) (hkind:scope.kind=.function) (hnl:∀x∈scope.names,x.2=.local->scope.names.lookup x.1=some .local) (hcell:∀x∈scope.names,x.2≠.cell)
  (hcl:o9 X.env cl) (hhas:((relabel scope X.env).names.all fun p=>!(p.2 == .cell||p.2 == .free)||(cl.lookup p.1).isSome)=true)
  (hcap:Paired (Cap X scope cl) caps capN) (hN:Nc=tn++capN) (hn:tn.length=n)
  {i₀:Nat} {x₀:Str} {pos₀ pos':Pos} (hN0:X.N.Nodup) (hi0:X.N[i₀]?=some x₀) (hx0:X.env.scope.names.lookup x₀=some .local)
  (hsw:swapsWith (.ListComp elt [⟨tg,iter,[],0⟩] scope pos) (some (.Name x₀ pos')) pos₀.line X.env=pure true)
  (hs:∀x,foldedSetIterable iter X.env x=pure x:=by intro _;rfl) :
  WS X (.Assign [.Name x₀ pos'] (.ListComp elt [⟨tg,iter,[],0⟩] scope pos) pos₀) (fun D σ H=>yj wi g te n caps σ H fun v H'=>D.nx (σ.set i₀ (some v)) H'):=by
 constructor;intro pins s σ H Dn I h;rw[exec_Assign_arm];refine Q0 (wpAny_standAt ?_);have hsw':swapsWithSole [.Name x₀ pos'] (.ListComp elt [⟨tg,iter,[],0⟩] scope pos) pos₀.line X.env=pure true:=hsw;rw[hsw'];refine Q0 (Q6 ?_);rw[if_pos rfl,arm_evalThenUse_ListComp];refine Q0 (Q0 (rS (Qf:=fun _ s'=>wpAny (model X.prog X.w) X.A (pure ()) (fun _ s'=>wpAny (model X.prog X.w) X.A (pure Flow.next) (SP X pins Dn) X.xe s') X.xe s') hc hi hg he hclos hkind hnl hcell hcl hhas hcap hN hn I h (fun D C s6 H5 m I7 hm fr nl sz cn pn qn=>?_) hs));show wpAny _ _ (assign (.Name x₀ pos') X.env (.ref D)) _ _ s6;rw[arm_assign_Name];refine Q0 (wpAny_standAt (wpAny_bindName (jE (v:=.ref D) I7 hN0 hi0 (.inl hx0) rfl (fun s7 I7' hsb=>?_) (.inr hx0))));obtain⟨a7,hsb,ha7⟩:=hsb;have cNe:C≠a7:=by
  rcases ha7 with z|z
  ·rw[z];exact nl
  ·exact Ne.symm (cn _ _ z)
 refine⟨m,AN hm hsb cNe,fun h' hs'=>Q6 (Q6 ⟨_,H5,?_,qn⟩)⟩;exact I7'.turned (t':=s7.toks) (it:=C) (fun b o hb e=>hs'.extBut b o hb e) fr nl (.inr sz) cn pn
theorem ni{X:Cx}{Nc capN tn:List Str}{scope:Scope}{cl:List (Str×Addr)}{n:Nat}{caps:List Nat}{tg iter elt:Expr}{pos:Pos}{wi:TI}{g:TG}{te:TE}{tt:TT}{c:Expr}
  (hc:X.calm=true) (hi:WI X tg iter wi) (hg:∀s3 H3 fp,WG (cxC X Nc scope cl s3 H3 fp) tg g) (he:∀s3 H3 fp,WE (cxC X Nc scope cl s3 H3 fp) elt te)
  (ht:∀s3 H3 fp,WT (cxC X Nc scope cl s3 H3 fp) c tt)
  (hclos:closureFor scope X.env=pure cl) (hkind:scope.kind=.function) (hnl:∀x∈scope.names,x.2=.local->scope.names.lookup x.1=some .local) (hcell:∀x∈scope.names,x.2≠.cell)
  (hcl:o9 X.env cl) (hhas:((relabel scope X.env).names.all fun p=>!(p.2 == .cell||p.2 == .free)||(cl.lookup p.1).isSome)=true)
  (hcap:Paired (Cap X scope cl) caps capN) (hN:Nc=tn++capN) (hn:tn.length=n)
  {i₀:Nat} {x₀:Str} {pos₀ pos':Pos} (hN0:X.N.Nodup) (hi0:X.N[i₀]?=some x₀) (hx0:X.env.scope.names.lookup x₀=some .local)
  (hsw:swapsWith (.ListComp elt [⟨tg,iter,[c],0⟩] scope pos) (some (.Name x₀ pos')) pos₀.line X.env=pure true)
  (hs:∀x,foldedSetIterable iter X.env x=pure x:=by intro _;rfl) :
  WS X (.Assign [.Name x₀ pos'] (.ListComp elt [⟨tg,iter,[c],0⟩] scope pos) pos₀) (fun D σ H=>lU wi g tt te n caps σ H fun v H'=>D.nx (σ.set i₀ (some v)) H'):=by
 constructor;intro pins s σ H Dn I h;rw[exec_Assign_arm];refine Q0 (wpAny_standAt ?_);have hsw':swapsWithSole [.Name x₀ pos'] (.ListComp elt [⟨tg,iter,[c],0⟩] scope pos) pos₀.line X.env=pure true:=hsw;rw[hsw'];refine Q0 (Q6 ?_);rw[if_pos rfl,arm_evalThenUse_ListComp];refine Q0 (Q0 (lH (Qf:=fun _ s'=>wpAny (model X.prog X.w) X.A (pure ()) (fun _ s'=>wpAny (model X.prog X.w) X.A (pure Flow.next) (SP X pins Dn) X.xe s') X.xe s') hc hi hg he ht hclos hkind hnl hcell hcl hhas hcap hN hn I h (fun D C s6 H5 m I7 hm fr nl sz cn pn qn=>?_) hs));show wpAny _ _ (assign (.Name x₀ pos') X.env (.ref D)) _ _ s6;rw[arm_assign_Name];refine Q0 (wpAny_standAt (wpAny_bindName (jE (v:=.ref D) I7 hN0 hi0 (.inl hx0) rfl (fun s7 I7' hsb=>?_) (.inr hx0))));obtain⟨a7,hsb,ha7⟩:=hsb;have cNe:C≠a7:=by
  rcases ha7 with z|z
  ·rw[z];exact nl
  ·exact Ne.symm (cn _ _ z)
 refine⟨m,AN hm hsb cNe,fun h' hs'=>Q6 (Q6 ⟨_,H5,?_,qn⟩)⟩;exact I7'.turned (t':=s7.toks) (it:=C) (fun b o hb e=>hs'.extBut b o hb e) fr nl (.inr sz) cn pn
end OG
namespace OP
open PySem PySem.Spec PyProof.Rows L2 OG
section
variable{X:Cx}{K:Q5}
theorem sR{i₀:Nat}{x₀:Str}{pos₀ pos':Pos}{Nc capN tn:List Str}{scope:Scope}{cl:List (Str×Addr)}{n:Nat}{caps:List Nat}{tg iter elt:Expr}{pos:Pos}{ci:CI}{g:CG}{ce:CE}
  (hc:X.calm=true) (hi:QI X tg iter ci) (hg:∀s3 H3 fp,WG (cxC X Nc scope cl s3 H3 fp) tg (tG X.K g)) (he:∀s3 H3 fp,WE (cxC X Nc scope cl s3 H3 fp) elt (tE X.K ce))
  (hclos:closureFor scope X.env=pure cl) (hkind:scope.kind=.function) (hnl:∀x∈scope.names,x.2=.local->scope.names.lookup x.1=some .local) (hcell:∀x∈scope.names,x.2≠.cell)
  (hcl:o9 X.env cl) (hhas:((relabel scope X.env).names.all fun p=>!(p.2 == .cell||p.2 == .free)||(cl.lookup p.1).isSome)=true)
  (hcap:Paired (Cap X scope cl) caps capN) (hN:Nc=tn++capN) (hn:tn.length=n)
  (hN0:X.N.Nodup) (hi0:X.N[i₀]?=some x₀) (hx0:X.env.scope.names.lookup x₀=some .local)
  (hsw:swapsWith (.ListComp elt [⟨tg,iter,[],0⟩] scope pos) (some (.Name x₀ pos')) pos₀.line X.env=pure true)
  (hs:∀x,foldedSetIterable iter X.env x=pure x:=by intro _;rfl) :
  QS X (.Assign [.Name x₀ pos'] (.ListComp elt [⟨tg,iter,[],0⟩] scope pos) pos₀) (cG i₀ (iI ci g ce n caps)):=(sA hc hi hg he hclos hkind hnl hcell hcl hhas hcap hN hn hN0 hi0 hx0 hsw hs).imp fun D σ H hz=>tR hz fun m ρ S o ρ' S' sr lr hc post=>by
 obtain⟨⟨u,S1⟩,h1,h2⟩:=Q2.mp hc;cases h2;exact rR _ _ _ ⟨m,ρ,S,u,_,sr,lr,h1,fun m1 v1 H1 e1 sr1 i1=>post m1 _ H1 e1 sr1 ((lr.mono e1).set i₀ i1)⟩
theorem nI{i₀:Nat}{x₀:Str}{pos₀ pos':Pos}{Nc capN tn:List Str}{scope:Scope}{cl:List (Str×Addr)}{n:Nat}{caps:List Nat}{tg iter elt:Expr}{pos:Pos}{ci:CI}{g:CG}{ct:CT}{ce:CE}{c:Expr}
  (hc:X.calm=true) (hi:QI X tg iter ci) (hg:∀s3 H3 fp,WG (cxC X Nc scope cl s3 H3 fp) tg (tG X.K g)) (ht:∀s3 H3 fp,WT (cxC X Nc scope cl s3 H3 fp) c (tT X.K ct)) (he:∀s3 H3 fp,WE (cxC X Nc scope cl s3 H3 fp) elt (tE X.K ce))
  (hclos:closureFor scope X.env=pure cl) (hkind:scope.kind=.function) (hnl:∀x∈scope.names,x.2=.local->scope.names.lookup x.1=some .local) (hcell:∀x∈scope.names,x.2≠.cell)
  (hcl:o9 X.env cl) (hhas:((relabel scope X.env).names.all fun p=>!(p.2 == .cell||p.2 == .free)||(cl.lookup p.1).isSome)=true)
  (hcap:Paired (Cap X scope cl) caps capN) (hN:Nc=tn++capN) (hn:tn.length=n)
  (hN0:X.N.Nodup) (hi0:X.N[i₀]?=some x₀) (hx0:X.env.scope.names.lookup x₀=some .local)
  (hsw:swapsWith (.ListComp elt [⟨tg,iter,[c],0⟩] scope pos) (some (.Name x₀ pos')) pos₀.line X.env=pure true)
  (hs:∀x,foldedSetIterable iter X.env x=pure x:=by intro _;rfl) :
  QS X (.Assign [.Name x₀ pos'] (.ListComp elt [⟨tg,iter,[c],0⟩] scope pos) pos₀) (cG i₀ (a6 ci g ct ce n caps)):=(ni hc hi hg he ht hclos hkind hnl hcell hcl hhas hcap hN hn hN0 hi0 hx0 hsw hs).imp fun D σ H hz=>tR hz fun m ρ S o ρ' S' sr lr hc post=>by
 obtain⟨⟨u,S1⟩,h1,h2⟩:=Q2.mp hc;cases h2;exact lG _ _ _ ⟨m,ρ,S,u,_,sr,lr,h1,fun m1 v1 H1 e1 sr1 i1=>post m1 _ H1 e1 sr1 ((lr.mono e1).set i₀ i1)⟩
end
end OP
namespace OP
open PySem PySem.Spec PyProof PyProof.Rows L2 OG
variable{X:Cx}{K:Q5}
section
def xI(ca:CE):CE:=fun ρ S=>(ca ρ S).bind fun p=>match p.1 with
 |.int i=>some (.int (-i),p.2)
 |_=>none
theorem ER:UnR X (unaryOp .USub) (fun x H Q=>∃i,x=.int i/\Q (.int (-i)) H):=by
 rintro pins s σ H x v Q I rx ⟨i,rfl,q⟩;obtain⟨t,rfl⟩:=rx;exact PyProof.Rows.neg_int ⟨.int (-i),H,I.tok _,⟨_,rfl⟩,q⟩
theorem yB{a:Expr}{ca:CE}{pos:Pos}(ha:QE X a ca):QE X (.UnaryOp .USub a pos) (xI ca):=(EJ ER ha).imp fun σ H Q hz=>iF hz fun m ρ S u S' sr lr hc post=>by
 obtain⟨⟨x,S1⟩,h1,h2⟩:=Q2.mp hc;refine⟨m,ρ,S,x,S1,sr,lr,h1,fun m1 v1 H1 e1 sr1 i1=>?_⟩;cases x<;>simp at h2;obtain⟨rfl,rfl⟩:=h2;exact⟨_,i1.of_int,post m1 _ H1 e1 sr1 .int_⟩
def cV:U->List U->Sto->Option (U×Sto)
 |.ref l,[.ref b],S=>match S[l]?,S[b]? with
  |some (.lst us),some (.lst vs)=>if us.length+vs.length<=LIM then some (.non,S.set l (.lst (us++vs)))else none
  |_,_=>none
 |_,_,_=>none
theorem y1:MtP K uZ cV:=by
 intro m S H x v us vs u S' Q sr ix i hf post;match x,us,hf with
 |.ref l,[.ref b],hf=>
  simp only[cV]at hf;split at hf<;>try cases hf
  rename_i xs0 ys0 hS hB;split at hf<;>try cases hf
  rename_i hl;obtain⟨a,ha,rfl⟩:=ix.of_ref;obtain⟨a',ha',xs,hx,la⟩:=sr.get hS;rw[ha]at ha';cases ha';obtain⟨y,rfl,iy⟩:=i.one;obtain⟨c,hc,rfl⟩:=iy.of_ref;obtain⟨c',hc',ys,hy,lb⟩:=sr.get hB;rw[hc]at hc';cases hc';have eu:Ext K m H m (upd H a (.lst (xs++ys))):=.of (sr.keep ha _);exact⟨a,c,xs,ys,rfl,rfl,hx,hy,lim (by rw[la.length,lb.length];exact hl),post m _ _ eu (sr.put ha ⟨_,aH,(la.append lb).mono eu⟩) .non_⟩
def lA:U->List U->Sto->Option (U×Sto)
 |.ref l,[.int i],S=>match S[l]? with
  |some (.lst us)=>if 0<=i/\i<us.length/\us.length<=LIM then(us[i.toNat]?).bind fun u=>some (u,S.set l (.lst (us.eraseIdx i.toNat)))else none
  |_=>none
 |_,_,_=>none
theorem CU:MtP K AA lA:=by
 intro m S H x v us vs u S' Q sr ix i hf post;match x,us,hf with
 |.ref l,[.int k],hf=>
  simp only[lA]at hf;split at hf<;>try cases hf
  rename_i ws hS;split at hf<;>try cases hf
  rename_i hk;obtain⟨w,hw,h⟩:=Q2.mp hf;cases h;obtain⟨a,ha,rfl⟩:=ix.of_ref;obtain⟨a',ha',xs,hx,la⟩:=sr.get hS;rw[ha]at ha';cases ha';obtain⟨y,hy,iy⟩:=la.getD hw;obtain⟨z,rfl,iz⟩:=i.one;have eu:Ext K m H m (upd H a (.lst (xs.eraseIdx k.toNat))):=.of (sr.keep ha _);have hL:ws.length<=100000:=hk.2.2;exact⟨a,xs,k,k.toNat,y,rfl,by rw[iz.of_int],hx,by omega,by omega,seqIndex_of hk.1 (by rw[la.length];exact hk.2.1),hy,post m _ _ eu (sr.put ha ⟨_,aH,(la.erase _).mono eu⟩) (iy.mono eu)⟩
variable{e:Expr}{es:List Expr}{co:CE}{cr:CA}{o:Expr}{apos cpos:Pos}
theorem g9 (ho : QE X o co) (ha : QA X (e :: es) cr) (hbase : attributeBase o "extend" X.env (eval o X.env) = eval o X.env := by rfl) (hfew : ((backTo cpos (starEach (e :: es) X.env)).all (fun x => !x.1) && (backToKw cpos (keywordEach [] X.env)).all (fun x => x.1.isSome)
   && decide ((e::es).length+([]:List Keyword).length+(if ([]:List Keyword).isEmpty then 0 else 1)<30))=true:=by rfl) (hline:(apos.endLine == cpos.line)=true:=by rfl) (hs:starEach (e::es) X.env=(false,eval e X.env)::starEach es X.env:=by rfl) (hplain:(backTo cpos (starEach es X.env)).any (·.1)=false:=by rfl) :
  QE X (.Call (.Attribute o "extend" apos) (e::es) [] cpos) (cBM cV co cr):=(qv PySem.F.plainAttrs_list PySem.F.slot_list_extend PySem.F.type_list_extend vH ho ha.h hbase hfew hline hs hplain).imp (oN y1)
theorem Cr (ho : QE X o co) (ha : QA X (e :: es) cr) (hbase : attributeBase o "pop" X.env (eval o X.env) = eval o X.env := by rfl) (hfew : ((backTo cpos (starEach (e :: es) X.env)).all (fun x => !x.1) && (backToKw cpos (keywordEach [] X.env)).all (fun x => x.1.isSome)
   && decide ((e::es).length+([]:List Keyword).length+(if ([]:List Keyword).isEmpty then 0 else 1)<30))=true:=by rfl) (hline:(apos.endLine == cpos.line)=true:=by rfl) (hs:starEach (e::es) X.env=(false,eval e X.env)::starEach es X.env:=by rfl) (hplain:(backTo cpos (starEach es X.env)).any (·.1)=false:=by rfl) :
  QE X (.Call (.Attribute o "pop" apos) (e::es) [] cpos) (cBM lA co cr):=(qv PySem.F.plainAttrs_list PySem.F.slot_list_pop PySem.F.type_list_pop y8 ho ha.h hbase hfew hline hs hplain).imp (oN CU)
theorem Ac(bs:List Bool):(Qz bs.length).any (fun i=>(bs[i]?).getD false)=bs.any id:=by
 rw[Zi,List.any_eq_true,List.any_eq_true];constructor
 ·rintro⟨i,hi,h⟩;have hi':=Qy.mp hi;rw[Q4 hi',ZX]at h;exact⟨_,ZR hi',h⟩
 ·rintro⟨b,hb,h⟩;obtain⟨i,hi,e⟩:=List.mem_iff_getElem.mp hb;refine⟨i,Qy.mpr hi,?_⟩;rw[Q4 hi,ZX,e];exact h
theorem zS(hc:X.calm=true):bX X (.builtin "any") (fun xs H Q=>∃(p:Addr) (bs:List Bool),xs=[.ref p]/\SqL X.K H p (bs.map V.bl)/\Q (.bl (bs.any id)) H):=by
 intro pins s σ H xs us Q I r h;obtain⟨p,bs,rfl,hq,q⟩:=h;obtain⟨u,rfl,rx⟩:=eS r;cases rx;obtain⟨its,rv,pl,hz⟩:=I.list hq;have hlen:=rv.length;rw[QX]at hlen;refine call_any_walk (wpAny_pyIter_list pl.isList ?_);have lt:p<s.heap.objs.size:=by obtain⟨o,e,_⟩:=pl.isList;exact QV e
 refine⟨s.heap.objs.size,_,_,_,_,_,fun i=>(bs[i]?).getD false,rfl,Walks.list (show X.A.in1.handled=none from I.ok.hd hc) s.heap.objs.size p (Qj lt) its.toArray,⟨⟨_,QU _ rfl,rfl,rfl⟩,pl.isList.at fun o e=>Q3 _ e⟩,?_,fun h' tk hk=>?_⟩
 ·intro i v s' Q' E' hP hQ;have hP':its.toArray[i]?=some v:=hP;obtain⟨b,e1,e2⟩:=pA rv (by simpa using hP');subst e2;dsimp only at hQ;rw[e1,ZX]at hQ;exact wpAny_truthy_bool hQ
 ·have e:(Qz its.toArray.size).any (fun i=>(bs[i]?).getD false)=bs.any id:=by
   rw[QM,<-hlen];exact Ac bs
  rw[e];exact⟨.bl (bs.any id),H,I.kept fun b o e=>hk b o (vF e) (Q3 _ e),rfl,q⟩
def GJ:Fn
 |[.ref l],S=>match S[l]? with
  |some (.lst us)=>(DP us).bind fun bs=>some (.bl (bs.any id),S)
  |_=>none
 |_,_=>none
theorem IK:gJ K (fun xs H Q=>∃(p:Addr) (bs:List Bool),xs=[.ref p]/\SqL K H p (bs.map V.bl)/\Q (.bl (bs.any id)) H) GJ:=by
 intro m S H us vs u S' Q sr i hf post;match us,hf with
 |[.ref l],hf=>
  obtain⟨v,rfl,iv⟩:=i.one;obtain⟨a,ha,rfl⟩:=iv.of_ref;simp only[GJ]at hf;split at hf<;>try cases hf
  rename_i ws hS;obtain⟨bs,hb,h⟩:=Q2.mp hf;cases h;obtain⟨a',ha',xs,hx,la⟩:=sr.get hS;rw[ha]at ha';cases ha';rw[p8 hb]at la;rw[la.bls]at hx;exact⟨a,bs,rfl,SqL.of hx,post m _ H .refl sr .bl_⟩
def bS(cr:CA):CE:=fun ρ S=>(cr ρ S).bind fun p=>match p.1 with
 |[.int j]=>if 0<=j/\j<=1000 then some (.ref p.2.length,p.2++[.lst (bH 0 j.toNat)])else none
 |_=>none
theorem kZ:∀(n:Nat) (a:Int) (vs:List Value),vs.length=n->(∀(j:Nat) (v:Value),vs[j]?=some v->∃t,v=Value.int (a+(j:Int)) t)->aX ((Qz n).map fun i:Nat=>V.int (a+(i:Nat))) vs
 |0,a,vs,hl,h=>by
  rw[List.length_eq_zero_iff.mp hl];exact .nil
 |n+1,a,[],hl,h=>by simp at hl
 |n+1,a,v::vs,hl,h=>by
  rw[List.range_succ_eq_map,Qx,Qe];refine .cons ?_ ?_
  ·obtain⟨t,e⟩:=h 0 v rfl;exact⟨t,by simpa using e⟩
  ·have:=kZ n (a+1) vs (by simpa using hl) fun j x hx=>by
    obtain⟨t,e⟩:=h (j+1) x (by simpa using hx);exact⟨t,by rw[e];congr 1;omega⟩
   have e:(Qz n).map (fun i:Nat=>V.int (a+1+(i:Nat)))=(Qz n).map ((fun i:Nat=>V.int (a+(i:Nat))) ∘ Nat.succ):=XE fun i _=>by
    simp only[Function.comp];congr 1;omega
   rw[<-e];exact this
theorem nu{a:Expr}{ta:TA}{p1 p2 pos1 pos2:Pos}(hc:X.calm=true)(hgl:Gl X "list")(hml:X.mg "list"=none)(hg:Gl X "range")(hm:X.mg "range"=none)(ha:WA X [a] ta)(hs:starEach [a] X.env=[(false,eval a X.env)])
  (hs1:starEach [Expr.Call (.Name "range" p2) [a] [] pos2] X.env=[(false,eval (.Call (.Name "range" p2) [a] [] pos2) X.env)]) :
  WE X (.Call (.Name "list" p1) [.Call (.Name "range" p2) [a] [] pos2] [] pos1) (fun σ H Q=>ta σ H fun vs H1=>∃j:Int,vs=[.int j]/\0<=j/\j<=1000/\∀p,H1 p=none->Q (.ref p) (upd H1 p (.lst ((Qz j.toNat).map fun i:Nat=>V.int (0+(i:Nat)))))):=by
 constructor;intro pins s σ H Q I h;refine wpAny_Call_Name_kw (fU I hgl hml OG.bW ?_ (by decide) (by decide));refine PyProof.Rows.callWith_type1 ?_ hs1 rfl;rw[hs1];show wpAny _ _ (spliced [(false,eval (.Call (.Name "range" p2) [a] [] pos2) X.env)]) _ _ s;refine Calls.spliced_cons ?_;refine Call_ (fU I hg hm boot_range (PyProof.Rows.callWith_type1 (thn (ha.h pos2 pins s σ H _ I h) fun us s1 ⟨vs,H1,I1,r1,q1⟩=>?_) hs rfl));obtain⟨j,e,j0,j1,q⟩:=q1;subst e;cases r1 with
 |cons r rr=>
  cases rr;obtain⟨t,rfl⟩:=r;refine call_range_1 ?_;refine Calls.spliced_nil ?_;have hsz:Builtin.Range.rangeSize 0 j 1=((j.toNat:Nat):Int):=by
   unfold Builtin.Range.rangeSize;simp;omega
  refine call_list_range (n:=j.toNat) (I1.ok.hd hc) (QU _ rfl) ?_ hsz (by omega) fun h' tk acc c' hk hg' hi=>?_
  ·unfold Builtin.Range.small;rw[hsz];unfold Builtin.Range.rangeFitsLong;simp;omega
  ·have hv:aX ((Qz j.toNat).map fun i:Nat=>V.int (0+(i:Nat))) acc.toList:=kZ j.toNat 0 acc.toList (by simpa using hi.1) fun k v hv=>by
    obtain⟨t,e⟩:=hi.2 k v (by simpa using hv);exact⟨t,by rw[e];congr 1;omega⟩
   refine⟨.ref _,_,I1.laid (t':=tk) (o:=.lst ((Qz j.toNat).map fun i:Nat=>V.int (0+(i:Nat)))) (fun b ob q=>hk b ob (Q3 _ q)) (by rw[Zu];omega) ?_,rfl,q _ (I1.hok.fresh (by rw[Zu];omega))⟩;exact⟨by rw[QX,Zm];exact Qu (by omega) (show 1000<=sizeLine by decide),_,_,hv,by simpa using hg'⟩
theorem wc{m:List Addr}{H:Hp}(n:Nat):IsL K m H ((Qz n).map fun i:Nat=>V.int (0+(i:Nat))) (bH 0 n):=by
 unfold bH;generalize Qz n=l;induction l with
 |nil=>exact .nil_
 |cons a r ih=>exact .cons_ .int_ ih
theorem ej{a:Expr}{cr:CA}{p1 p2 pos1 pos2:Pos}(hc:X.calm=true)(hgl:Gl X "list")(hml:X.mg "list"=none)(hg:Gl X "range")(hm:X.mg "range"=none)(ha:QA X [a] cr)(hs:starEach [a] X.env=[(false,eval a X.env)])
  (hs1:starEach [Expr.Call (.Name "range" p2) [a] [] pos2] X.env=[(false,eval (.Call (.Name "range" p2) [a] [] pos2) X.env)]) :
  QE X (.Call (.Name "list" p1) [.Call (.Name "range" p2) [a] [] pos2] [] pos1) (bS cr):=(nu hc hgl hml hg hm ha.h hs hs1).imp fun σ H Q hz=>iF hz fun m ρ S u S' sr lr hc post=>by
 obtain⟨⟨ws,S1⟩,h1,h2⟩:=Q2.mp hc;simp only at h2;split at h2<;>try cases h2
 rename_i j;split at h2<;>try cases h2
 rename_i hj;refine⟨m,ρ,S,_,S1,sr,lr,h1,fun m1 v1 H1 e1 sr1 i1=>?_⟩;obtain⟨x,rfl,ix⟩:=i1.one;rw[ix.of_int];exact⟨j,rfl,hj.1,hj.2,fun p hp=>bA sr1 (wc _) (post.mono e1) hp⟩
end
section
variable{pos:Pos}
def B2:List U->Option (List Key)
 |[]=>some []
 |u::r=>(nY u).bind fun k=>(B2 r).map (k::·)
theorem pB{m:List Addr}{H:Hp}:∀{us:List U} {xs:List V} {ks:List Key},IsL K m H xs us->B2 us=some ks->xs=ks.map kV
 |[],xs,ks,i,h=>by cases h;exact i.of_nil
 |u::r,xs,ks,i,h=>by
  obtain⟨x,t,rfl,ix,it⟩:=i.of_cons;obtain⟨k,hk,h⟩:=Q2.mp h;obtain⟨ks',h',rfl⟩:=Qs.mp h;rw[iV ix hk,pB it h'];rfl
def rW:CE:=fun _ S=>some (.ref S.length,S++[.dit []])
theorem vc{pos:Pos}:QE X (.Dict [] [] pos) rW:=um.imp fun σ H Q hz=>iF hz fun m ρ S u S' sr lr hc post=>by
 cases hc;exact fun p hp=>post (m++[p]) _ _ (.new (bp hp _)) (sr.new hp ⟨[],aH,.nil_⟩) (.ref_ (cm sr.len))
def gE(co:CE)(cr:CA)(cv:CE):CS:=fun ρ S=>(cv ρ S).bind fun p=>(co ρ p.2).bind fun q=>(cr ρ q.2).bind fun r=>match q.1 with
 |.ref l=>match r.2[l]? with
  |some (.dit kus)=>(B2 r.1).bind fun k=>if kus.length<LIM/\r.1.length<=LIM then some (.nx,ρ,r.2.set l (.dit (jc kus k p.1)))else none
  |_=>none
 |_=>none
theorem nH{o:Expr}{es:List Expr}{e:Expr}{co cv:CE}{cr:CA}{k2:Nat}{p2 pos pos':Pos}(hu:X.A.units+1<cLine)(ho:QE X o co)(hi:QA X es cr)(hv:QE X e cv)
  (hs:swapsWith e (some (.Subscript o (.Tuple es k2 p2) pos')) pos.line X.env=pure false:=by rfl):QS X (.Assign [.Subscript o (.Tuple es k2 p2) pos'] e pos) (gE co cr cv):=
 (qq hu ho (uk hi.h) hv hs).imp fun D σ H hz=>tR hz fun m ρ S oo ρ' S' sr lr hc post=>by
 obtain⟨⟨v,S1⟩,h1,ha⟩:=Q2.mp hc;obtain⟨⟨ou,S2⟩,h2,hb⟩:=Q2.mp ha;obtain⟨⟨ius,S3⟩,h3,h⟩:=Q2.mp hb;clear ha hb hc;cases ou with
 |ref l=>
  simp only at h;split at h<;>try cases h
  rename_i kus hS;obtain⟨k,hk,h4⟩:=Q2.mp h;split at h4<;>try cases h4
  rename_i hlen;refine⟨m,ρ,S,v,S1,sr,lr,h1,fun m1 v1 H1 e1 sr1 i1=>⟨m1,ρ,S1,_,S2,sr1,lr.mono e1,h2,fun m2 v2 H2 e2 sr2 i2=>⟨m2,ρ,S2,ius,S3,sr2,lr.mono (e1.trans e2),h3,fun m3 vs H3 e3 sr3 i3=>?_⟩⟩⟩;refine⟨lim (by rw[i3.length];exact hlen.2),fun p hp=>?_⟩;obtain⟨a,ha,rfl⟩:=(i2.mono e3).of_ref;obtain⟨a',ha',kvs,hx,ip⟩:=sr3.get hS;rw[ha]at ha';cases ha';have hvs:=pB i3 hk;subst hvs;have s3:si H3 (upd H3 p (.tup (k.map kV))):=fE hp _;have en:Ext X.K m3 H3 m3 (upd H3 p (.tup (k.map kV))):=.of (bp hp _);have srn:=sr3.same s3;have hxn:(upd H3 p (.tup (k.map kV))) a=some (.dT kvs):=s3 _ _ hx;have e13:=((e1.trans e2).trans e3).trans en;have ee:Ext X.K m3 (upd H3 p (.tup (k.map kV))) m3 (upd (upd H3 p (.tup (k.map kV))) a (.dT (o5 kvs k v1))):=.of (srn.keep ha _);exact⟨a,_,rfl,Be.t hxn aH (F9 (by rw[IsP.length ip];exact hlen.1)),post m3 σ _ (e13.trans ee) (srn.put ha ⟨_,aH,(IsP.put (ip.mono en) (i1.mono ((e2.trans e3).trans en))).mono ee⟩) (lr.mono (e13.trans ee))⟩
 |_=>cases h
end
end OP
namespace OP
open PySem PySem.Spec PyProof PyProof.Rows L2 OG PySem.W
section
variable{cmp:Nat->Nat->(Bool->Shared->Prop)->Shared->Prop}{s:Shared}{n:Nat}{lt:Nat->Nat->Bool}
structure xJ(n:Nat)(lt:Nat->Nat->Bool):Prop where
 tr:∀{i j k},i<n->j<n->k<n->lt i j=true->lt j k=true->lt i k=true
 tot:∀{i j},i<n->j<n->i≠j->lt i j=false->lt j i=true
 asym:∀{i j},i<n->j<n->lt i j=true->lt j i=false
def D7(cmp:Nat->Nat->(Bool->Shared->Prop)->Shared->Prop)(n:Nat)(lt:Nat->Nat->Bool)(s:Shared):Prop:=∀i j C,i<n->j<n->C (lt i j) s->cmp i j C s
structure Pm(n:Nat)(p:Array Nat):Prop where
 sz:p.size=n
 bd:∀i,i<n->p.getD i 0<n
 ne:∀i j,i<j->j<n->p.getD i 0≠p.getD j 0
def Asc(lt:Nat->Nat->Bool)(p:Array Nat)(k:Nat):Prop:=∀i j,i<j->j<k->lt (p.getD i 0) (p.getD j 0)=true
def Dsc(lt:Nat->Nat->Bool)(p:Array Nat)(k:Nat):Prop:=∀i j,i<j->j<k->lt (p.getD j 0) (p.getD i 0)=true
variable{p:Array Nat}
theorem Pm.ne'(P:Pm n p){i j:Nat}(hi:i<n)(hj:j<n)(h:i≠j):p.getD i 0≠p.getD j 0:=by
 rcases Nat.lt_or_gt_of_ne h with z|z
 ·exact P.ne i j z hj
 ·exact Ne.symm (P.ne j i z hi)
theorem Asc.snoc(O:xJ n lt)(P:Pm n p){m:Nat}(h1:1<=m)(hm:m<n)(h:Asc lt p m)(h2:lt (p.getD (m-1) 0) (p.getD m 0)=true):Asc lt p (m+1):=fun i j hij hj=>by
 by_cases e:j=m
 ·subst e;by_cases e2:i=j-1
  ·subst e2;exact h2
  ·exact O.tr (P.bd _ (by omega)) (P.bd _ (by omega)) (P.bd _ (by omega)) (h i (j-1) (by omega) (by omega)) h2
 ·exact h i j hij (by omega)
theorem Dsc.snoc(O:xJ n lt)(P:Pm n p){m:Nat}(h1:1<=m)(hm:m<n)(h:Dsc lt p m)(h2:lt (p.getD m 0) (p.getD (m-1) 0)=true):Dsc lt p (m+1):=fun i j hij hj=>by
 by_cases e:j=m
 ·subst e;by_cases e2:i=j-1
  ·subst e2;exact h2
  ·exact O.tr (P.bd _ (by omega)) (P.bd _ (by omega)) (P.bd _ (by omega)) h2 (h i (j-1) (by omega) (by omega))
 ·exact h i j hij (by omega)
theorem xv(O:xJ n lt)(A:D7 cmp n lt s)(P:Pm n p):∀(f m:Nat) {Q:Nat->Shared->Prop},1<=m->m+f<=n->Asc lt p m->(∀m',m<=m'->m'<=m+f->Asc lt p m'->(m'=m+f\/lt (p.getD m' 0) (p.getD (m'-1) 0)=true)->Q m' s)->(kas_asc p f m).kasWp cmp Q s
 |0,m,Q,h1,h2,h3,q=>q m (QJ _) (by omega) h3 (.inl rfl)
 |f+1,m,Q,h1,h2,h3,q=>by
  refine A _ _ _ (P.bd _ (by omega)) (P.bd _ (by omega)) ?_;cases hc:lt (p.getD m 0) (p.getD (m-1) 0)with
  |true=>exact q m (QJ _) (by omega) h3 (.inr hc)
  |false=>
   have h4:=h3.snoc O P h1 (by omega) (O.tot (P.bd _ (by omega)) (P.bd _ (by omega)) (P.ne' (by omega) (by omega) (by omega)) hc);exact xv O A P f (m+1) (by omega) (by omega) h4 fun m' a b c d=>q m' (by omega) (by omega) c (by rcases d with d|d;exact .inl (by omega);exact .inr d)
theorem wL(O:xJ n lt)(A:D7 cmp n lt s)(P:Pm n p):∀(f m:Nat) {Q:Array Nat×Nat×Nat->Shared->Prop},1<=m->m+f<=n->Dsc lt p m->(∀m',m<=m'->m'<=m+f->Dsc lt p m'->Q (p,m',0) s)->(kas_desc f p m 0).kasWp cmp Q s
 |0,m,Q,h1,h2,h3,q=>q m (QJ _) (by omega) h3
 |f+1,m,Q,h1,h2,h3,q=>by
  refine A _ _ _ (P.bd _ (by omega)) (P.bd _ (by omega)) ?_;cases hc:lt (p.getD m 0) (p.getD (m-1) 0)with
  |true=>exact wL O A P f (m+1) (by omega) (by omega) (h3.snoc O P h1 (by omega) hc) fun m' a b c=>q m' (by omega) (by omega) c
  |false=>
   refine A _ _ _ (P.bd _ (by omega)) (P.bd _ (by omega)) ?_;rw[O.tot (P.bd _ (by omega)) (P.bd _ (by omega)) (P.ne' (by omega) (by omega) (by omega)) hc];exact q m (QJ _) (by omega) h3
theorem jX{p q:Array Nat}{i j:Nat}(h:p[i]?=q[j]?):p.getD i 0=q.getD j 0:=by
 rw[ZC,ZC,h]
theorem jI{m k:Nat}(hm:m<=p.size):(kas_rev p 0 m).getD k 0=if k<m then p.getD (m-1-k) 0 else p.getD k 0:=by
 unfold kas_rev;have h:=getElem?_mirror_all (i:=0) hm k;split
 ·rename_i c;rw[if_pos ⟨Qi _,c⟩]at h;exact jX (by rw[h];congr 1;omega)
 ·rename_i c;rw[if_neg (by omega)]at h;exact jX h
theorem Pm.rev(P:Pm n p){m:Nat}(hm:m<=n):Pm n (kas_rev p 0 m) where
 sz:=by rw[kas_rev_size];exact P.sz
 bd:=fun i hi=>by
  rw[jI (by rw[P.sz];exact hm)];split<;>exact P.bd _ (by omega)
 ne:=fun i j hij hj=>by
  rw[jI (by rw[P.sz];exact hm),jI (by rw[P.sz];exact hm)];split<;>split<;>exact P.ne' (by omega) (by omega) (by omega)
theorem Dsc.rev{m:Nat}(P:Pm n p)(hm:m<=n)(h:Dsc lt p m):Asc lt (kas_rev p 0 m) m:=fun i j hij hj=>by
 rw[jI (by rw[P.sz];exact hm),jI (by rw[P.sz];exact hm),if_pos (by omega),if_pos hj];exact h _ _ (by omega) (by omega)
theorem zP(O:xJ n lt)(A:D7 cmp n lt s)(P:Pm n p){Q:Nat×Array Nat->Shared->Prop}(h1:1<=n)(q:∀m p',1<=m->m<=n->Pm n p'->Asc lt p' m->Q (m,p') s):(kas_count n p).kasWp cmp Q s:=by
 unfold kas_count;rw[KasT.kasWp_bind];refine xv O A P (n-1) 1 (QJ _) (by omega) (fun i j a b=>by omega) fun m a b c d=>?_;by_cases e:m=n
 ·rw[if_pos (by rw[e];exact beq_self_eq_true n)];exact q m p a (by omega) P c
 rw[if_neg (by simpa using e)];have d':lt (p.getD m 0) (p.getD (m-1) 0)=true:=by
  rcases d with d|d
  ·omega
  ·exact d
 by_cases g:m>1
 ·rw[if_pos g];refine A _ _ _ (P.bd _ (by omega)) (P.bd _ (by omega)) ?_;rw[c 0 (m-1) (by omega) (by omega)];exact q m p a (by omega) P c
 ·rw[if_neg g];have m1:m=1:=by omega
  subst m1;unfold kas_descPart;rw[KasT.kasWp_bind];have d2:Dsc lt p 2:=fun i j a b=>by
   have e1:i=0:=by omega
   have e2:j=1:=by omega
   subst e1;subst e2;exact d'
  refine wL O A P (n-(1+1)) (1+1) (by omega) (by omega) d2 fun m' a' b' c'=>?_;rw[if_neg (by simp)];unfold kas_tail3;rw[KasT.kasWp_bind];have hm':m'<=n:=by omega
  exact xv O A (P.rev hm') (n-m') m' (by omega) (by omega) (c'.rev P hm') fun m2 a2 b2 c2 _=>q m2 _ (by omega) (by omega) (P.rev hm') c2
theorem mq(O:xJ n lt)(A:D7 cmp n lt s)(P:Pm n p){k:Nat}(hk:k<n)(hs:Asc lt p k):∀(f l r:Nat) {Q:Nat->Shared->Prop},l<=r->r<=k->r-l<=f->(∀i,i<l->lt (p.getD i 0) (p.getD k 0)=true)->(∀i,r<=i->i<k->lt (p.getD k 0) (p.getD i 0)=true)->
  (∀l',l'<=k->(∀i,i<l'->lt (p.getD i 0) (p.getD k 0)=true)->(∀i,l'<=i->i<k->lt (p.getD k 0) (p.getD i 0)=true)->Q l' s)->(kas_place p k f l r).kasWp cmp Q s
 |0,l,r,Q,h1,h2,h3,h4,h5,q=>q l (by omega) h4 fun i a b=>h5 i (by omega) b
 |f+1,l,r,Q,h1,h2,h3,h4,h5,q=>by
  unfold kas_place;by_cases e:l≥r
  ·rw[if_pos e];exact q l (by omega) h4 fun i a b=>h5 i (by omega) b
  ·rw[if_neg e];have hM:(l+r) / 2<k:=by omega
   refine A _ _ _ (P.bd _ hk) (P.bd _ (by omega)) ?_;cases hc:lt (p.getD k 0) (p.getD ((l+r) / 2) 0)with
   |true=>
    refine mq O A P hk hs f l ((l+r) / 2) (by omega) (by omega) (by omega) h4 (fun i a b=>?_) q;by_cases e2:i=(l+r) / 2
    ·subst e2;exact hc
    ·exact O.tr (P.bd _ hk) (P.bd _ (by omega)) (P.bd _ (by omega)) hc (hs _ i (by omega) b)
   |false=>
    have hc':=O.tot (P.bd _ hk) (P.bd _ (show(l+r) / 2<n by omega)) (P.ne' hk (by omega) (by omega)) hc;refine mq O A P hk hs f ((l+r) / 2+1) r (by omega) (by omega) (by omega) (fun i a=>?_) h5 q;by_cases e2:i=(l+r) / 2
    ·subst e2;exact hc'
    ·exact O.tr (P.bd _ (by omega)) (P.bd _ (by omega)) (P.bd _ hk) (hs i ((l+r) / 2) (by omega) hM) hc'
theorem kj{k l i:Nat}(hk:k<p.size)(hl:l<=k):(bubble p k (k-l)).getD i 0=if i=l then p.getD k 0 else if l<i/\i<=k then p.getD (i-1) 0 else p.getD i 0:=by
 have h:=getElem?_bubble hk (k-l) (by omega) i;rw[show k-(k-l)=l by omega]at h;by_cases c:i=l
 ·rw[if_pos c]at h ⊢;exact jX h
 ·rw[if_neg c]at h ⊢;by_cases d:l<i/\i<=k
  ·rw[if_pos d]at h ⊢;exact jX h
  ·rw[if_neg d]at h ⊢;exact jX h
theorem Pm.bub(P:Pm n p){k l:Nat}(hk:k<n)(hl:l<=k):Pm n (bubble p k (k-l)) where
 sz:=by rw[bubble_size];exact P.sz
 bd:=fun i hi=>by
  rw[kj (by rw[P.sz];exact hk) hl];repeat' split
  all_goals exact P.bd _ (by omega)
 ne:=fun i j hij hj=>by
  rw[kj (by rw[P.sz];exact hk) hl,kj (by rw[P.sz];exact hk) hl];repeat' split
  all_goals first|(exfalso;omega)|exact P.ne' (by omega) (by omega) (by omega)
theorem Asc.bub(P:Pm n p){k l:Nat}(hk:k<n)(hl:l<=k)(h:Asc lt p k)(h1:∀i,i<l->lt (p.getD i 0) (p.getD k 0)=true)(h2:∀i,l<=i->i<k->lt (p.getD k 0) (p.getD i 0)=true):Asc lt (bubble p k (k-l)) (k+1):=fun i j hij hj=>by
 rw[kj (by rw[P.sz];exact hk) hl,kj (by rw[P.sz];exact hk) hl];repeat' split
 all_goals first|(exfalso;omega)|exact h1 _ (by omega)|exact h2 _ (by omega) (by omega)|exact h _ _ (by omega) (by omega)
theorem A9(O:xJ n lt)(A:D7 cmp n lt s):∀(f:Nat) (p:Array Nat) (k:Nat) {Q:Array Nat->Shared->Prop},Pm n p->k+f=n->Asc lt p k->(∀p',Pm n p'->Asc lt p' n->Q p' s)->(kas_bin f p k).kasWp cmp Q s
 |0,p,k,Q,P,h1,h2,q=>q p P (by rw[<-h1];exact h2)
 |f+1,p,k,Q,P,h1,h2,q=>by
  unfold kas_bin;rw[KasT.kasWp_bind];refine mq O A P (k:=k) (by omega) h2 k 0 k (Qi _) (QJ _) (by omega) (fun i a=>by omega) (fun i a b=>by omega) fun l a b c=>?_;exact A9 O A f _ (k+1) (P.bub (by omega) a) (by omega) (h2.bub P (by omega) a b c) q
theorem mn:Pm n (List.toArray (Qz n)):=by
 have g:∀i,i<n->(List.toArray (Qz n)).getD i 0=i:=fun i hi=>by simp[XX,hi]
 exact⟨by simp,fun i hi=>by rw[g i hi];exact hi,fun i j hij hj=>by rw[g i (by omega),g j hj];omega⟩
theorem B6(O:xJ n lt)(A:D7 cmp n lt s){Q:Array Nat->Shared->Prop}(h1:1<=n)(q:∀p',Pm n p'->Asc lt p' n->Q p' s):(kas_sort n).kasWp cmp Q s:=by
 unfold kas_sort;rw[KasT.kasWp_bind];refine zP O A mn h1 fun m p' a b P c=>?_;by_cases e:m<n
 ·rw[if_pos e];rw[show max m 1=m by omega];exact A9 O A _ _ _ P (by omega) c q
 ·rw[if_neg e];exact q p' P (by rw[show n=m by omega];exact c)
end
end OP
namespace OP
open PySem PySem.Spec PyProof PyProof.Rows L2 OG
section
variable{prog:Program}{w:World}{A:Around}{E:Value->Shared->Prop}{s:Shared}{d it:Addr}{o:Obj}{es:Array DictEntry}{ep i:Nat}
theorem qL{Q:Value->Shared->Prop}(hd:(d == sysModules)=false)(ho:s.heap.get? d=some o)(hc:o.ExactDict)(he:o.data=.dict es ep)
  (q:Q (.ref s.heap.objs.size) { s with heap:=s.heap.push { cls:=.type "dict_keyiterator",data:=.fields #[.ref d,.int 0 0,.int es.size 0,.int ep 0] } }):wpAny (model prog w) A (pyIter (.ref d)) Q E s:=by
 have T:s.TypeIs (.ref d) "dict":=⟨o,ho,hc.1⟩;refine wpAny_pyIter_slot T F.slot_dict_iter (wpAny_call_entry F.slot_dict_iter T F.entry_dict_iter ?_ (F.args_dict_iter_1 _));unfold Builtin.«dict.__iter__»;refine Q0 ?_;unfold Builtin.Dict.dictSlotNone;refine Q0 (wpAny_notOrdered_dict T ?_);refine Q6 (show wpAny _ _ (Builtin.Dict.showsAll d >>= _) _ _ s from ?_);unfold Builtin.Dict.showsAll;rw[if_neg (by rw[hd];exact Qq)];refine Q0 (Q6 (Q0 (wpAny_dictEntries ho he (Q0 (wpAny_dictEpoch ho he ?_)))));refine Q0 (wpAny_newObj_type (Q6 ⟨_,rfl,"dict_keyiterator",_,⟨_,QU _ rfl,rfl⟩,F.slot_dict_keyiterator_next.lookup,q⟩))
theorem qM{Q:Option Value->Shared->Prop}(hit:s.heap.IsKeyIter it d i es.size ep)(ho:s.heap.get? d=some o)(he:o.data=.dict es ep)(hi:i<es.size)
  (q:∀h',h'.IsKeyIter it d (i+1) es.size ep->XI it s.heap h'->Q (some es[i].key) { s with heap:=h' }):wpAny (model prog w) A (pyNext (.ref it)) Q E s:=by
 obtain⟨io,hio,ic,id'⟩:=id hit;unfold pyNext;refine Q0 (wpAny_attempt (wpAny_callSpecial?_slot (name:=Str.ofString "__next__") hit.typeIs F.slot_dict_keyiterator_next (wpAny_call_entry F.slot_dict_keyiterator_next hit.typeIs F.entry_dict_keyiterator_next ?_ (F.args_dict_keyiterator_next_1 _))));refine Q0 (Q6 (Q0 (Q0 ?_)));first|refine Q0 (wpAny_typeNameOfWhole_keyiter hit.typeIs (Q6 (Q0 (wpAny_fieldsOf hio id' ?_))))|refine Q0 (wpAny_typeNameOf_keyiter hit.typeIs (Q6 (Q0 (wpAny_fieldsOf hio id' ?_))))
 simp only[show Builtin.Dict_items.ownsTuple "dict_keyiterator"=false by decide,Qr,if_false];refine(show wpAny _ _ (if (Value.ref d == Value.none)=true then _ else _) _ _ s from ?_);rw[if_neg (show ¬((Value.ref d == Value.none)=true)from Qq)];refine Q0 (Q6 (Q0 (wpAny_dictEntries ho he ?_)));rw[if_neg (by simp)];refine Q0 (Q6 (Q0 (wpAny_dictEpoch ho he ?_)));rw[if_neg (by simp)];refine Q6 ?_;simp only[show ¬((i:Int)<0)by omega,if_false,Zx,QR hi];refine Q0 ?_;first|refine Q0 (wpAny_typeNameOfWhole_keyiter hit.typeIs (Q6 (Q0 (wpAny_isOneOf_keyiter hit.typeIs ?_))))|refine Q0 (wpAny_typeNameOf_keyiter hit.typeIs (Q6 (Q0 (wpAny_isOneOf_keyiter hit.typeIs ?_))))
 refine(show wpAny _ _ (setField (.ref it) 1 (rawInt ((i:Int)+1)) >>= _) _ _ s from Q0 (wpAny_setField hio id' (by simp) ?_));have hit2:(s.heap.update it (Obj.mapFields (·.setIfInBounds 1 (rawInt ((i:Int)+1))))).IsKeyIter it d (i+1) es.size ep:=⟨_,Zr _ hio (Obj.isFreed_of_fields (Obj.data_mapFields id' _)),(Obj.cls_mapFields ..).trans ic,by rw[Obj.data_mapFields id'];simp[rawInt]⟩;refine Q0 (wpAny_holding (Q0 (wpAny_isOneOf_keyiter (s:={ s with heap:=s.heap.update it (Obj.mapFields (·.setIfInBounds 1 (rawInt ((i:Int)+1)))) }) hit2.typeIs ?_)));exact(show wpAny _ _ (pure es[i].key) _ _ _ from Q6 (Q6 ⟨_,rfl,Q6 (q _ hit2 (Heap.SameBut.update ..))⟩))
theorem uX{Q:Option Value->Shared->Prop}(hh:A.handled=none)(hit:s.heap.IsKeyIter it d i es.size ep)(ho:s.heap.get? d=some o)(he:o.data=.dict es ep)(hi:es.size<=i)
  (q:∀h',Heap.ExtBut it s.heap h'->Q none { s with heap:=h' }):wpAny (model prog w) A (pyNext (.ref it)) Q E s:=by
 obtain⟨io,hio,ic,id'⟩:=id hit;unfold pyNext;refine Q0 (wpAny_attempt (wpAny_callSpecial?_slot (name:=Str.ofString "__next__") hit.typeIs F.slot_dict_keyiterator_next (wpAny_call_entry F.slot_dict_keyiterator_next hit.typeIs F.entry_dict_keyiterator_next ?_ (F.args_dict_keyiterator_next_1 _))));refine Q0 (Q6 (Q0 (Q0 ?_)));first|refine Q0 (wpAny_typeNameOfWhole_keyiter hit.typeIs (Q6 (Q0 (wpAny_fieldsOf hio id' ?_))))|refine Q0 (wpAny_typeNameOf_keyiter hit.typeIs (Q6 (Q0 (wpAny_fieldsOf hio id' ?_))))
 simp only[show Builtin.Dict_items.ownsTuple "dict_keyiterator"=false by decide,Qr,if_false];refine(show wpAny _ _ (if (Value.ref d == Value.none)=true then _ else _) _ _ s from ?_);rw[if_neg (show ¬((Value.ref d == Value.none)=true)from Qq)];refine Q0 (Q6 (Q0 (wpAny_dictEntries ho he ?_)));rw[if_neg (by simp)];refine Q0 (Q6 (Q0 (wpAny_dictEpoch ho he ?_)));rw[if_neg (by simp)];refine Q6 ?_;simp only[show ¬((i:Int)<0)by omega,if_false,Zx,X7 hi];refine Q0 ?_;first|refine Q0 (wpAny_typeNameOfWhole_keyiter hit.typeIs (Q6 ?_));skip|refine Q0 (wpAny_typeNameOf_keyiter hit.typeIs (Q6 ?_));skip
 refine(show wpAny _ _ (setField (.ref it) 0 .none >>= _) _ _ s from Q0 (wpAny_setField hio id' (by simp) ?_));refine(show wpAny _ _ (newExc (.type "StopIteration") [] >>= _) _ _ _ from Q0 ?_);simp only[newExc,newTuple];refine Q0 (wpAny_newObj_type ?_ (by size_fits));refine Q0 (m:=firstArgMember _ _) (wpAny_of_eq (a:=Value.none) (by first|rfl|(simp only[firstArgMember];rfl)) (wpAny_newObj_type ?_ (by size_fits)));simp only[raiseNew];refine Q0 (wpAny_handled ?_);rw[show A.in1.handled=none from hh];refine Q0 (Q6 (wpAny_throw ?_));refine Q0 (wpAny_isInstance (T:="StopIteration") (b:=true) ⟨_,QU _ rfl,rfl⟩ isSubtype_stop ?_);exact Q6 (q _ (((Heap.SameBut.update ..).extBut.push _).push _))
end
def FzT(H:Hp)(a:Addr)(ep:Nat)(ks:List (List Key)):Prop:=∃ob es kvs,H a=some (.frz ob (.dT kvs))/\ob.data=.dict es ep/\kvs.map (·.1)=ks
def Itt(a:Addr)(ep:Nat)(ks:List (List Key)):It:=
 ⟨fun i H=>i<ks.length/\FzT H a ep ks,fun i H x H'=>H'=H/\∃k p,ks[i]?=some k/\x=.ref p/\H p=some (.tup (k.map kV)),fun i H=>ks.length<=i/\FzT H a ep ks⟩
theorem wz{P:Program}{w:World}{H:Hp}{h:Heap}{a:Addr}{ob:Obj}{kvs:List (List Key×V)}{es:Array DictEntry}{ep:Nat}(ok:HOk P w H h)(e:H a=some (.frz ob (.dT kvs)))(d:ob.data=.dict es ep) :
  h.get? a=some ob/\es.size=kvs.length/\∀(i:Nat) (hi:i<es.size),∃k p,(kvs.map (·.1))[i]?=some k/\es[i].key=.ref p/\H p=some (.tup (k.map kV)):=by
 obtain⟨e1,_,_,xs,r,o,es',ep',e2,e3,e4,e5,_⟩:=(show bF P w H h a (.frz ob (.dT kvs))from ok a _ e);rw[e1]at e2;cases e2;rw[d]at e4;cases e4;have hl:kvs.length=xs.length:=Paired.length r;have hs:es.size=xs.length:=size_of_entries e5;refine⟨e1,by omega,fun i hi=>?_⟩;have key:∀{l:List (List Key×V)} {m:List (List Key×Addr×Value)} {i:Nat} {x:List Key×Addr×Value},Paired (fun(p:List Key×V) (q:List Key×Addr×Value)=>p.1=q.1/\H q.2.1=some (.tup (p.1.map kV))/\bR p.2 q.2.2) l m->m[i]?=some x->∃k,(l.map (·.1))[i]?=some k/\H x.2.1=some (.tup (k.map kV)):=by
  intro l m i x q;induction q generalizing i with
  |nil=>intro z;simp at z
  |@cons p q ps qs hq t ih=>
   intro z;cases i with
   |zero=>simp at z;subst z;exact⟨p.1,by simp,hq.2.1⟩
   |succ i=>obtain⟨k,k1,k2⟩:=ih (by simpa using z);exact⟨k,by simpa using k1,k2⟩
 have hx:xs[i]?=some xs[i]:=Q4 (by omega);obtain⟨k,k1,k2⟩:=key r hx;refine⟨k,(xs[i]).2.1,k1,?_,k2⟩;have h1:=entry_at e5 i;rw[hx,QR hi]at h1;have h2:=Option.some.inj h1;rw[h2];rfl
theorem sI{P:Program}{w:World}{K:Q5}{tg:Expr}(a it:Addr){ks:List (List Key)}{ep:Nat} :
  GX P w K tg (Itt a ep ks) [it] it (fun n h=>h.IsKeyIter it a n ks.length ep) where
 mem:=by simp
 obj:=fun n h st c hc=>by
  simp only[Qk,X9,or_false]at hc;subst hc;obtain⟨o,e,_,q⟩:=st;exact⟨o,e,fun v z=>by rw[q]at z;cases z⟩
 keep:=fun n h h' st kp=>Heap.IsKeyIter.at st fun o q=>kp it (by simp) o q
 item:=by
  intro X hP hw hK hc n pins s σ H E Iv hf st hg;subst hP hw hK;obtain⟨hi,ob,es,kvs,hq,d,ek⟩:=hg;obtain⟨g1,g2,g3⟩:=wz Iv.hok hq d;have hl:ks.length=es.size:=by rw[<-ek,QX,g2]
  have hi':n<es.size:=by omega
  obtain⟨k,p,k1,k2,k3⟩:=g3 n hi';obtain⟨f0,f1,f2,f3⟩:=hf it (by simp);refine qM (by rw[<-hl];exact st) g1 d hi' fun h1 st1 sb=>⟨_,rfl,?_⟩;have I1:Inv X pins σ H { s with heap:=h1 }:=Iv.turned (t':=s.toks) (fun b o hb e=>(sb.2 b hb).trans e) f0 f1 f3.1 f3.2.1 f3.2.2;have st2:h1.IsKeyIter it a (n+1) ks.length ep:=by rw[hl];exact st1
  obtain⟨o,e,c,q⟩:=id st2;exact zG (s:={ s with heap:=h1 }) e c q (by decide) ⟨.ref p,H,I1,by rw[k2];rfl,⟨rfl,k,p,by rw[<-ek];exact k1,rfl,k3⟩,st2,fun b hb=>(hf b hb).1⟩
 done:=by
  intro X hP hw hK hc n pins s σ H E Iv hf st hg;subst hP hw hK;obtain⟨hi,ob,es,kvs,hq,d,ek⟩:=hg;obtain⟨g1,g2,g3⟩:=wz Iv.hok hq d;have hl:ks.length=es.size:=by rw[<-ek,QX,g2]
  obtain⟨f0,f1,f2,f3⟩:=hf it (by simp);exact uX (Iv.ok.hd hc) (by rw[<-hl];exact st) g1 d (by omega) fun h1 eb=>⟨rfl,Iv.turned (t':=s.toks) (fun b o hb e=>eb b o hb e) f0 f1 f3.1 f3.2.1 f3.2.2⟩
 self:=fun _ _ _ _ _ st h=>wpAny_pyIter_keyiter st h
def AZ(X:Cx)(tl:TE):TI:=fun σ H R=>tl σ H fun x H1=>∃a kvs,x=.ref a/\H1 a=some (.dT kvs)/\∀ob es ep,GY X a->ob.data=.dict es ep->R (Itt a ep (kvs.map (·.1))) (upd H1 a (.frz ob (.dT kvs)))
theorem x8{X:Cx}{tg l:Expr}{tl:TE}(hl:WE X l tl):WI X tg l (AZ X tl):=by
 constructor;intro pins s σ H R I h;refine thn (hl.h pins s σ H _ I h) fun v s1 hz=>?_;obtain⟨x,H1,I1,r1,q1⟩:=hz;obtain⟨a,kvs,rfl,hq,q⟩:=q1;have hq0:=hq;cases r1;obtain⟨hz,hs,xs,rv,ob,es,ep,e1,e2,e3,e4,e5⟩:=(show bF X.prog X.w H1 s1.heap a (.dT kvs)from I1.hok a _ hq);have hl:kvs.length=es.size:=by rw[size_of_entries e4];exact Paired.length rv
 have nf:GY X a:=fun ob' u' z=>by have:=I1.base.frzs a ob' u' z;rw[hq]at this;cases this
 have mono:∀{l:List (List Key×V)} {m:List (List Key×Addr×Value)} (fz:HO),Paired (fun(p:List Key×V) (q:List Key×Addr×Value)=>p.1=q.1/\H1 q.2.1=some (.tup (p.1.map kV))/\bR p.2 q.2.2) l m->Paired (fun(p:List Key×V) (q:List Key×Addr×Value)=>p.1=q.1/\(upd H1 a fz) q.2.1=some (.tup (p.1.map kV))/\bR p.2 q.2.2) l m:=by
  intro l m fz z;induction z with
  |nil=>exact .nil
  |cons hq t ih=>exact .cons ⟨hq.1,by rw[aQ (fun e=>by rw[e,hq0]at hq;cases hq.2.1)];exact hq.2.1,hq.2.2⟩ ih
 have rv2:=mono (.frz ob (.dT kvs)) rv;have I2:Inv X pins σ (upd H1 a (.frz ob (.dT kvs))) s1:=rH I1 hq (by simp) (by simp) (by simp) nf ⟨e1,hz,hs,xs,rv2,ob,es,ep,e1,e2,e3,e4,e5⟩;refine qL hs e1 e2 e3 ?_;refine⟨s1.heap.objs.size,[s1.heap.objs.size],_,_,_,rfl,I2.kept (t':=s1.toks) fun b o g=>Q3 _ g,sI a _,⟨_,QU _ rfl,rfl,by rw[QX,hl];rfl⟩,fun b hb=>?_,q ob es ep nf e3⟩;simp only[Qk,X9,or_false]at hb;subst hb;exact I2.fpOk (QJ _) (I2.hok.fresh (QJ _))
theorem we{X:Cx}{pins:List (Addr×Obj)}{σ:L2.St}{H:Hp}{s:Shared}{a:Addr}{ob:Obj}{kvs:List (List Key×V)}(I:Inv X pins σ H s)(nf:GY X a)(e:H a=some (.frz ob (.dT kvs))):Inv X pins σ (upd H a (.dT kvs)) s:=by
 obtain⟨_,hz,hs,xs,rv,rest⟩:=(show bF X.prog X.w H s.heap a (.frz ob (.dT kvs))from I.hok a _ e);have mono:∀{l:List (List Key×V)} {m:List (List Key×Addr×Value)} (fz:HO),Paired (fun(p:List Key×V) (q:List Key×Addr×Value)=>p.1=q.1/\H q.2.1=some (.tup (p.1.map kV))/\bR p.2 q.2.2) l m->Paired (fun(p:List Key×V) (q:List Key×Addr×Value)=>p.1=q.1/\(upd H a fz) q.2.1=some (.tup (p.1.map kV))/\bR p.2 q.2.2) l m:=by
  intro l m fz z;induction z with
  |nil=>exact .nil
  |cons hq t ih=>exact .cons ⟨hq.1,by rw[aQ (fun q=>by rw[q,e]at hq;cases hq.2.1)];exact hq.2.1,hq.2.2⟩ ih
 exact rH I e (by simp) (by simp) (by simp) nf ⟨hz,hs,xs,mono _ rv,rest⟩
theorem rF{K:Q5}{m:List Addr}{H:Hp}:∀ks:List Key,IsL K m H (ks.map kV) (ks.map kU)
 |[]=>.nil_
 |k::r=>.cons_ (AV k) (rF r)
theorem zu{K:Q5}{m:List Addr}{H:Hp}{a:Addr}{l ep:Nat}{kus:List (List Key×U)}(ha:m[l]?=some a):Aj K (Itt a ep (kus.map (·.1))) m H (kus.map fun q=>.tup (q.1.map kU)) (fun S'=>S'[l]?=some (.fdt ep kus)):=by
 intro m2 S2 H2 i e sr hok;obtain⟨a',ha',ob,es,kvs,hx,hd,ip⟩:=sr.get hok;have ha2:=e.get ha;rw[ha2]at ha';cases ha';have hz:FzT H2 a ep (kus.map (·.1)):=⟨ob,es,kvs,hx,hd,ip.1⟩;refine⟨fun u hu=>?_,fun hu=>⟨by simpa using hu,hz⟩⟩;have hi:i<kus.length:=by have:=(Q7.mp hu).1;simpa using this
 refine⟨⟨by simpa using hi,hz⟩,?_⟩;rintro x H3 ⟨rfl,k,p,hk,rfl,hp⟩;refine⟨.refl,sr,?_⟩;rw[Qb]at hk hu;rw[Q4 hi]at hk hu;cases hk;cases hu;exact .tup_ (.inl (.inl hp)) (rF _)
end OP
namespace OP
open PySem PySem.Spec PyProof PyProof.Rows L2 OG PySem.W
theorem mC{prog:Program}{w:World}{A:Around}{E:Value->Shared->Prop}{s:Shared}{a:Addr}{vs:List Value}{n:Nat}{P:PySem.Fin->Shared->Prop}
  (g:s.heap.get? a=some (seqObj "list" vs.toArray n)) (h2:2<=vs.length) (h64:vs.length<64)
  (ask:∀h':Heap,(∀b o,b≠a->s.heap.get? b=some o->h'.get? b=some o)->wpAny (model prog w) A (keyKind' vs.toArray) (fun κ s'=>s'={ s with heap:=h' }/\KasT.kasWp (kas_ask prog w A κ vs) (kas_sort vs.length)
   (fun p s''=>s''={ s with heap:=h' }/\P (Fin.done (Flow.ret Value.none)) { s with heap:=sortedHeap s.heap a vs (p.toList.map fun i=>vs.getD i Value.none).toArray }) { s with heap:=h' }) E { s with heap:=h' }) :
  wpAny (model prog w) A (Builtin.«list.sort» { pos:=[Value.ref a] }) P E s:=by
 rw[list_sort_plain];have hS:vs.toArray.size=vs.length:=by simp
 have hz:vs.length<=sizeLine:=by unfold sizeLine;omega
 have lt:=QV g;refine Q0 (listItems_at g rfl (Q0 (listUpdate_at g rfl ?_ (by rw[hS];exact hz) (by simp))));obtain⟨e1,g1⟩:∃e1,(s.heap.update a (Obj.mapSeq fun _=>#[])).get? a=some (seqObj "list" #[] e1):=⟨_,get?_update_seq g fun _=>#[]⟩;refine Q0 (seqEpoch_at g1 rfl (Q0 (wpAny_newTuple (Q0 (wpAny_newList (wpAny_holding ?_) (by simp))) (by simpa using hz))));have hu:(s.heap.update a (Obj.mapSeq fun _=>#[])).objs.size=s.heap.objs.size:=XA ..;have g2:(((s.heap.update a (Obj.mapSeq fun _=>#[])).push (seqObj "tuple" vs.toArray 0)).push (seqObj "list" #[] 0)).get? a=some (seqObj "list" #[] e1):=
  Q3 _ (Q3 _ g1)
 have n2:¬vs.toArray.size<2:=by rw[hS];omega
 dsimp only;rw[if_neg n2];have hk:∀b o,b≠a->s.heap.get? b=some o->(((s.heap.update a (Obj.mapSeq fun _=>#[])).push (seqObj "tuple" vs.toArray 0)).push (seqObj "list" #[] 0)).get? b=some o:=fun b o hb ho=>by
  refine Q3 _ (Q3 _ ?_);rw[Heap.get?_update_ne _ _ _ _ hb];exact ho
 refine Q0 (ZE (ask _ hk) (fun κ s' hs'=>?_) fun _ _ h'=>h');obtain⟨rfl,hrun⟩:=hs';rw[if_neg n2];refine Q0 (ZE (kat_run (ks:=vs) (Q:=fun st' s'=>∃p:Array Nat,p.size=vs.length/\arrOf st'=Array.map (kas_item (vs.toArray.zip vs.toArray)) p/\failedOf st'=none/\s'=_/\P (Fin.done (Flow.ret Value.none)) { s with heap:=sortedHeap s.heap a vs (p.toList.map fun i=>vs.getD i Value.none).toArray }) rfl h2 h64 (fun p st' s' hp harr hfail hG=>⟨p,hp,harr,hfail,hG⟩) hrun) (fun r s' hr=>?_) fun _ _ h'=>h');obtain⟨u,st'⟩:=r;obtain⟨p,hp,harr,hfail,rfl,hP⟩:=hr;have hout:Array.map (fun x=>x.snd) (arrOf st')=(p.toList.map fun i=>vs.getD i Value.none).toArray:=kat_snds rfl harr;refine Q0 (seqEpoch_at g2 rfl (Q0 (listUpdate_at g2 rfl ?_ (by simp) ?_)))
 ·dsimp only at hfail ⊢;rw[hfail];simp only[bne_self_eq_false,Qr,if_false];have hP':=hP;rw[<-hout]at hP';exact Q6 hP'
 ·dsimp only;rw[hout];simp;unfold sizeLine;omega
def aZ(h:Heap)(v:Value)(p:Int×Int):Prop:=∃b o t1 t2 e,v=Value.ref b/\h.get? b=some o/\o.cls=Value.type "tuple"/\o.data=Data.seq #[Value.int p.1 t1,Value.int p.2 t2] e
def ltP(p q:Int×Int):Bool:=decide (p.1<q.1\/p.1=q.1/\p.2<q.2)
variable{prog:Program}{w:World}{A:Around}{E:Value->Shared->Prop}{s:Shared}
theorem iS{b:Bool}{x y:Int}{t u:Tok}{Q:Bool->Shared->Prop}(h:Q (decide (x<y)) s):wpAny (model prog w) A (oneLt' b (Value.int x t) (Value.int y u)) Q E s:=by
 cases b with
 |true=>exact oneLt_int h
 |false=>
  rw[oneLt'_eq];dsimp only;rw[if_neg Qq];exact Q0 (wpAny_lt_int (wpAny_truthy_bool h))
theorem CP{v v':Value}{p p':Int×Int}{C:Bool->Shared->Prop}(h:aZ s.heap v p)(h':aZ s.heap v' p')(c:C (ltP p p') s):wpAny (model prog w) A (keyLt' (tuples' true) v v') C E s:=by
 obtain⟨b,o,t1,t2,e,rfl,g,_,d⟩:=h;obtain⟨b',o',t1',t2',e',rfl,g',_,d'⟩:=h';refine kat_lt g d g' d' (kat_cons (wpAny_eqBool_int ?_));by_cases e1:p.1=p'.1
 ·rw[e1,beq_self_eq_true];refine kat_yes (kat_cons (wpAny_eqBool_int ?_));by_cases e2:p.2=p'.2
  ·rw[e2,beq_self_eq_true];refine kat_yes (kat_nil ?_);have:ltP p p'=false:=by simp[ltP,e1,e2]
   rw[this]at c;exact c
  ·rw[beq_eq_false_iff_ne.mpr e2];refine kat_no (iS ?_);have:ltP p p'=decide (p.2<p'.2):=by simp[ltP,e1]
   rw[this]at c;exact c
 ·rw[beq_eq_false_iff_ne.mpr e1];refine kat_no (iS ?_);have:ltP p p'=decide (p.1<p'.1):=by simp[ltP,e1]
  rw[this]at c;exact c
def cI(h:Heap):List Value->List (Int×Int)->Prop
 |[],[]=>True
 |v::vs,p::ps=>aZ h v p/\cI h vs ps
 |_,_=>False
theorem dj{h:Heap}:∀{vs:List Value} {ps:List (Int×Int)},cI h vs ps->vs.length=ps.length
 |[],[],_=>rfl
 |_::_,_::_,k=>by rw[QH,QH,dj k.2]
 |[],_::_,k=>k.elim
 |_::_,[],k=>k.elim
theorem hE{h:Heap}:∀{vs:List Value} {ps:List (Int×Int)} {i:Nat},cI h vs ps->i<ps.length->aZ h (vs.getD i Value.none) (ps.getD i (0,0))
 |[],[],_,_,k=>absurd k (Nat.not_lt_zero _)
 |_::_,_::_,0,k,_=>k.1
 |_::vs,_::ps,i+1,k,l=>by
  show aZ h (vs.getD i Value.none) (ps.getD i (0,0));exact hE k.2 (by rw[QH]at l;omega)
 |[],_::_,_,k,_=>k.elim
 |_::_,[],_,k,_=>k.elim
theorem vw{h h':Heap}{v:Value}{p:Int×Int}{a:Addr}(k:aZ h v p)(hv:v≠.ref a)(m:∀b o,b≠a->h.get? b=some o->h'.get? b=some o):aZ h' v p:=by
 obtain⟨b,o,t1,t2,e,rfl,g,c,d⟩:=k;exact⟨b,o,t1,t2,e,rfl,m b o (fun e=>hv (by rw[e])) g,c,d⟩
theorem fG{h h':Heap}{a:Addr}(m:∀b o,b≠a->h.get? b=some o->h'.get? b=some o):∀{vs:List Value} {ps:List (Int×Int)},cI h vs ps->(∀v∈vs,v≠.ref a)->cI h' vs ps
 |[],[],_,_=>trivial
 |v::vs,_::_,k,hv=>⟨vw k.1 (hv v QB) m,fG m k.2 fun x hx=>hv x (QF _ hx)⟩
 |[],_::_,k,_=>k.elim
 |_::_,[],k,_=>k.elim
theorem kW{h:Heap}:∀{vs:List Value} {ps:List (Int×Int)},cI h vs ps->∃fs,KatTups h vs fs/\fs.length=vs.length/\∀f∈fs,∃i t,f=Value.int i t
 |[],[],_=>⟨[],trivial,rfl,fun f hf=>by cases hf⟩
 |v::vs,p::ps,k=>by
  obtain⟨fs,h1,h2,h3⟩:=kW k.2;obtain⟨b,o,t1,t2,e,hv,g,c,d⟩:=k.1;refine⟨Value.int p.1 t1::fs,⟨⟨b,o,_,e,hv,g,c,d,rfl⟩,h1⟩,by rw[QH,QH,h2],fun f hf=>?_⟩;rcases Qk.mp hf with z|z
  ·exact⟨_,_,z⟩
  ·exact h3 f z
 |[],_::_,k=>k.elim
 |_::_,[],k=>k.elim
theorem sU{vs:List Value}{ps:List (Int×Int)}{Q:SortKind->Shared->Prop}(h:cI s.heap vs ps)(hn:0<vs.length)(q:Q (tuples' true) s):wpAny (model prog w) A (keyKind' vs.toArray) Q E s:=by
 obtain⟨fs,h1,h2,h3⟩:=kW h;refine kat_kind (T:=Value.type "int") h1 (by omega) (fun v hv A Q E s' _ q=>?_) (by decide +kernel) (by exact q);obtain⟨i,t,rfl⟩:=h3 v hv;exact wpAny_typeOf (typeIs_int s' i t) q
theorem F7{ps:List (Int×Int)}(nd:ps.Nodup):xJ ps.length fun i j=>ltP (ps.getD i (0,0)) (ps.getD j (0,0)) where
 tr:=fun{i j k} hi hj hk h1 h2=>by simp only[ltP,decide_eq_true_eq]at *;omega
 asym:=fun{i j} hi hj h=>by simp only[ltP,decide_eq_true_eq,decide_eq_false_iff_not]at *;omega
 tot:=fun{i j} hi hj hne h=>by
  simp only[ltP,decide_eq_true_eq,decide_eq_false_iff_not]at *;have hd:ps.getD i (0,0)≠ps.getD j (0,0):=by
   rw[Q9,Q9,Q4 hi,Q4 hj];simp only[ZX];exact fun e=>hne ((List.getElem_inj nd).mp e)
  have:¬((ps.getD i (0,0)).1=(ps.getD j (0,0)).1/\(ps.getD i (0,0)).2=(ps.getD j (0,0)).2):=fun e=>hd (Prod.ext e.1 e.2);omega
theorem fe{prog:Program}{w:World}{A:Around}{E:Value->Shared->Prop}{s:Shared}{a:Addr}{vs:List Value}{n:Nat}{P:PySem.Fin->Shared->Prop}
  (g:s.heap.get? a=some (seqObj "list" vs.toArray n)) (h2:vs.length<2) (hP:P (Fin.done (Flow.ret Value.none)) { s with heap:=sortedHeap s.heap a vs vs.toArray }) :
  wpAny (model prog w) A (Builtin.«list.sort» { pos:=[Value.ref a] }) P E s:=by
 rw[list_sort_plain];have hS:vs.toArray.size=vs.length:=by simp
 have hz:vs.length<=sizeLine:=by unfold sizeLine;omega
 refine Q0 (listItems_at g rfl (Q0 (listUpdate_at g rfl ?_ (by rw[hS];exact hz) (by simp))));obtain⟨e1,g1⟩:∃e1,(s.heap.update a (Obj.mapSeq fun _=>#[])).get? a=some (seqObj "list" #[] e1):=⟨_,get?_update_seq g fun _=>#[]⟩;refine Q0 (seqEpoch_at g1 rfl (Q0 (wpAny_newTuple (Q0 (wpAny_newList (wpAny_holding ?_) (by simp))) (by simpa using hz))));have g2:(((s.heap.update a (Obj.mapSeq fun _=>#[])).push (seqObj "tuple" vs.toArray 0)).push (seqObj "list" #[] 0)).get? a=some (seqObj "list" #[] e1):=
  Q3 _ (Q3 _ g1)
 have n2:vs.toArray.size<2:=by rw[hS];omega
 dsimp only;rw[if_pos n2];refine Q0 (Q6 ?_);rw[if_pos n2];refine Q0 (Q6 ?_);have hout:Array.map (fun x=>x.snd) (arrOf (SortSt.mk' general' (vs.toArray.zip vs.toArray) #[] 7 none))=vs.toArray:=by
  show Array.map (fun x=>x.snd) (vs.toArray.zip vs.toArray)=vs.toArray;simp[List.map_snd_zip]
 refine Q0 (seqEpoch_at g2 rfl (Q0 (listUpdate_at g2 rfl ?_ (by simp) ?_)))
 ·have hfail:failedOf (SortSt.mk' general' (vs.toArray.zip vs.toArray) #[] 7 none)=none:=rfl;dsimp only at hfail ⊢;simp only[hfail,bne_self_eq_false,Qr,if_false];have hP':=hP;rw[<-hout]at hP';exact Q6 hP'
 ·dsimp only;rw[hout];rw[hS];omega
def D8(ps:List (Int×Int))(q:Array Nat):Prop:=Pm ps.length q/\Asc (fun i j=>ltP (ps.getD i (0,0)) (ps.getD j (0,0))) q ps.length
theorem fH{h:Heap}:∀{vs:List Value} {ps:List (Int×Int)},cI h vs ps->∀v∈vs,∀a,h.objs.size<=a->v≠.ref a
 |[],[],_,v,hv,_,_=>by cases hv
 |_::_,_::_,k,v,hv,a,ha=>by
  rcases Qk.mp hv with z|z
  ·obtain⟨b,o,t1,t2,e,e1,g,_⟩:=k.1;rw[z,e1];intro e2;cases e2;exact absurd (QV g) (XG.mpr ha)
  ·exact fH k.2 v z a ha
 |[],_::_,k,_,_,_,_=>k.elim
 |_::_,[],k,_,_,_,_=>k.elim
def PrL(K:Q5)(H:Hp):List V->List (Int×Int)->Prop
 |[],[]=>True
 |x::xs,p::ps=>(∃a,x=.ref a/\SqT K H a [.int p.1,.int p.2])/\PrL K H xs ps
 |_,_=>False
theorem jL{K:Q5}{H:Hp}:∀{ys:List V} {ps:List (Int×Int)},PrL K H ys ps->ys.length=ps.length
 |[],[],_=>rfl
 |_::_,_::_,k=>by rw[QH,QH,jL k.2]
 |[],_::_,k=>k.elim
 |_::_,[],k=>k.elim
theorem qS{X:Cx}{pins:List (Addr×Obj)}{σ:L2.St}{H:Hp}{s:Shared}(I:Inv X pins σ H s):∀{ys:List V} {ps:List (Int×Int)} {vs:List Value},PrL X.K H ys ps->aX ys vs->cI s.heap vs ps
 |[],[],_,_,r=>by cases r;trivial
 |_::_,p::ps,_,k,r=>by
  cases r with
  |cons r1 r2=>
   refine⟨?_,qS I k.2 r2⟩;obtain⟨a,rfl,hs⟩:=k.1;obtain⟨its,rv,⟨o,g,c,n,d⟩,_⟩:=I.tuple hs;cases r1;cases rv with
   |cons u1 u2=>cases u2 with
    |cons u3 u4=>
     cases u4;obtain⟨t1,rfl⟩:=u1;obtain⟨t2,rfl⟩:=u3;exact⟨a,o,t1,t2,n,rfl,g,c,d⟩
 |[],_::_,_,k,_=>k.elim
 |_::_,[],_,k,_=>k.elim
theorem yc{ys:List V}{vs:List Value}(r:aX ys vs){i:Nat}(hi:i<ys.length):bR (ys.getD i .non) (vs.getD i Value.none):=by
 induction r generalizing i with
 |nil=>simp at hi
 |cons r1 r2 ih=>
  cases i with
  |zero=>exact r1
  |succ i=>exact ih (by simpa using hi)
theorem gM{ys:List V}{vs:List Value}(r:aX ys vs):∀(is:List Nat),(∀i∈is,i<ys.length)->aX (is.map fun i=>ys.getD i .non) (is.map fun i=>vs.getD i Value.none)
 |[],_=>.nil
 |i::is,h=>.cons (yc r (h i QB)) (gM r is fun j hj=>h j (QF _ hj))
theorem dD{n:Nat}{q:Array Nat}(P:Pm n q):∀i∈q.toList,i<n:=fun i hi=>by
 obtain⟨j,hj,e⟩:=List.mem_iff_getElem.mp hi;have hj':j<q.size:=by simpa using hj
 have:=P.bd j (by rw[<-P.sz];exact hj');rw[ZC,QR hj']at this;rw[Array.getElem_toList]at e;rw[<-e];exact this
theorem xF{X:Cx}{pins:List (Addr×Obj)}{σ:List (Option V)}{H H':Hp}{s:Shared}{h':Heap}{t':Nat}(I:Inv X pins σ H s)(k:∀b u,s.heap.get? b=some u->h'.get? b=some u)
  (same:∀b,b<s.heap.objs.size->H' b=H b) (new:∀b u,s.heap.objs.size<=b->H' b=some u->bF X.prog X.w H' h' b u):Inv X pins σ H' { s with heap:=h',toks:=t' }:=by
 have up:∀b u,H b=some u->H' b=some u:=fun b u e=>by
  rw[same b (Nat.lt_of_not_le fun z=>by rw[I.hok.fresh z]at e;cases e)];exact e
 refine I.un ⟨fun b u q _ _ _=>k b u q,fun b u q _ _ _=>⟨u.slots,k b u q⟩,fun b u q n _=>?_,fun b u q _=>⟨u,k b u q⟩,fun b xs q=>up b _ q,fun b u xs q=>up b _ q,fun b ps q=>⟨#[],by rw[up b _ q];simp⟩⟩ fun b u e=>?_
 ·rw[same b (QV q)];exact n
 ·by_cases hb:b<s.heap.objs.size
  ·rw[same b hb]at e;exact(I.hok b u e).stay (fun c v _ q=>k c v q) (fun c q=>up c _ q) fun c xs q=>up c _ q
  ·exact new b u (Nat.le_of_not_lt hb) e
theorem lP:∀as:List Addr,aX (as.map V.ref) (as.map Value.ref)
 |[]=>.nil
 |a::r=>.cons rfl (lP r)
theorem mB{p:Int×Int}:ltP p p=false:=by simp[ltP]
theorem zf{p q:Int×Int}(h:ltP p q=true)(k:ltP q p=true):False:=by simp only[ltP,decide_eq_true_eq]at h k;omega
theorem sd:∀{L M:List (Int×Int)},L.Pairwise (fun a b=>ltP a b=true)->M.Pairwise (fun a b=>ltP a b=true)->(∀x,x∈L↔x∈M)->L=M
 |[],[],_,_,_=>rfl
 |[],m::M,_,_,h=>by have:=(h m).mpr QB;cases this
 |l::L,[],_,_,h=>by have:=(h l).mp QB;cases this
 |l::L,m::M,h1,h2,h=>by
  obtain⟨a1,b1⟩:=Zg.mp h1;obtain⟨a2,b2⟩:=Zg.mp h2;have e:l=m:=by
   rcases Qk.mp ((h l).mp QB)with z|z
   ·exact z
   ·rcases Qk.mp ((h m).mpr QB)with y|y
    ·exact y.symm
    ·exact(zf (a2 l z) (a1 m y)).elim
  subst e;congr 1;refine sd b1 b2 fun x=>⟨fun hx=>?_,fun hx=>?_⟩
  ·rcases Qk.mp ((h x).mp (QF _ hx))with z|z
   ·subst z;have:=a1 x hx;rw[mB]at this;cases this
   ·exact z
  ·rcases Qk.mp ((h x).mpr (QF _ hx))with z|z
   ·subst z;have:=a2 x hx;rw[mB]at this;cases this
   ·exact z
open Classical in
def bt(ps:List (Int×Int)):List (Int×Int):=if h:∃L:List (Int×Int),L.Pairwise (fun a b=>ltP a b=true)/\∀x,x∈L↔x∈ps then h.choose else[]
theorem ju{L ps:List (Int×Int)}(h1:L.Pairwise (fun a b=>ltP a b=true))(h2:∀x,x∈L↔x∈ps):bt ps=L:=by
 have h:∃L:List (Int×Int),L.Pairwise (fun a b=>ltP a b=true)/\∀x,x∈L↔x∈ps:=⟨L,h1,h2⟩;unfold bt;rw[dif_pos h];obtain⟨k1,k2⟩:=h.choose_spec;exact sd k1 h1 fun x=>(k2 x).trans (h2 x).symm
theorem oW{ps:List (Int×Int)}{q:Array Nat}(h:D8 ps q):bt ps=q.toList.map fun i=>ps.getD i (0,0):=by
 obtain⟨P,A⟩:=h;have hl:q.toList.length=ps.length:=by rw[QY,P.sz]
 have gd:∀i (hi:i<q.toList.length),q.getD i 0=q.toList[i]:=fun i hi=>by
  have hi':i<q.size:=by simpa using hi
  rw[ZC,QR hi',Array.getElem_toList];rfl
 have h1:(q.toList.map fun i=>ps.getD i (0,0)).Pairwise (fun a b=>ltP a b=true):=by
  rw[Ql];intro i j hi hj hij;rw[QX]at hi hj;rw[List.getElem_map,List.getElem_map,<-gd i hi,<-gd j hj];exact A i j hij (by omega)
 have nd:(q.toList.map fun i=>ps.getD i (0,0)).Nodup:=h1.imp fun{a b} h e=>by subst e;rw[mB]at h;cases h
 have sub:∀x∈q.toList.map fun i=>ps.getD i (0,0),x∈ps:=fun x hx=>by
  obtain⟨i,hi,rfl⟩:=Qc.mp hx;have:=dD P i hi;rw[Q9,Q4 this];exact ZR this
 refine ju h1 fun x=>⟨sub x,fun hx=>?_⟩;refine Classical.byContradiction fun hn=>?_;have:=List.Nodup.length_le_of_subset (Zb.mpr ⟨hn,nd⟩) (l₂:=ps) fun y hy=>by
  rcases Qk.mp hy with z|z
  ·rw[z];exact hx
  ·exact sub y z
 rw[QH,QX,hl]at this;omega
def pP(p:Int×Int):U:=.tup [.int p.1,.int p.2]
noncomputable def jN:List U->Option (List (Int×Int))
 |[]=>some []
 |.tup [.int a,.int b]::r=>(jN r).map ((a,b)::·)
 |_=>none
theorem fJ:∀ps:List (Int×Int),jN (ps.map pP)=some ps
 |[]=>rfl
 |p::ps=>by rw[Qx,pP,jN,fJ ps];rfl
theorem jM:∀{us:List U} {ps:List (Int×Int)},jN us=some ps->us=ps.map pP
 |[],ps,h=>by cases h;rfl
 |u::us,ps,h=>by
  unfold jN at h;split at h
  ·rename_i e;cases e
  ·rename_i e;injection e with e1 e2;subst e1;subst e2;obtain⟨qs,e,h⟩:=Qs.mp h;subst h;rw[Qx,<-jM e];rfl
  ·cases h
variable{K:Q5}{m:List Addr}{H:Hp}
theorem vg:∀{ys:List V} {ps:List (Int×Int)},IsL K m H ys (ps.map pP)->PrL K H ys ps
 |ys,[],h=>by rw[h.of_nil];trivial
 |ys,p::ps,h=>by
  obtain⟨y,r,rfl,i,t⟩:=h.of_cons;obtain⟨a,xs,rfl,hs,il⟩:=i.of_tup;have e:xs=[p.1,p.2].map V.int:=IsL.ints (ns:=[p.1,p.2]) il;subst e;exact⟨⟨a,rfl,hs⟩,vg t⟩
theorem vh:∀{ys:List V} {ps:List (Int×Int)} {i:Nat},PrL K H ys ps->i<ps.length->Is K m H (ys.getD i .non) (pP (ps.getD i (0,0)))
 |[],[],i,_,h=>by simp at h
 |y::ys,p::ps,0,k,_=>by
  obtain⟨a,e,hs⟩:=k.1;show Is K m H y (pP p);rw[e];exact .tup_ hs (fN [p.1,p.2])
 |y::ys,p::ps,i+1,k,h=>by
  show Is K m H (ys.getD i .non) (pP (ps.getD i (0,0)));exact vh k.2 (by simpa using h)
 |[],_::_,_,k,_=>k.elim
 |_::_,[],_,k,_=>k.elim
theorem pI{ys:List V}{ps:List (Int×Int)}(k:PrL K H ys ps):∀is:List Nat,(∀i∈is,i<ps.length)->IsL K m H (is.map fun i=>ys.getD i .non) (is.map fun i=>pP (ps.getD i (0,0)))
 |[],_=>.nil_
 |i::is,h=>.cons_ (vh k (h i QB)) (pI k is fun j hj=>h j (QF _ hj))
variable{X:Cx}
section
def AD:V->List V->Hp->VK->Prop:=fun x vs H Q=>∃(l:Addr) (ns:List Int) (z:Int) (j:Nat),x=.ref l/\vs=[.int z]/\H l=some (.lst (ns.map V.int))/\ns[j]?=some z/\(∀m,m<j->ns[m]?≠some z)/\j<1000000/\Q (.int (j:Nat)) H
def wd(z:Int):Value->Bool
 |.int i _=>i == z
 |_=>false
theorem ny{ns:List Int}{its:List Value}(r:aX (ns.map V.int) its){i:Nat}{v:Value}(h:its[i]?=some v):∃n t,ns[i]?=some n/\v=Value.int n t:=by
 have hi:i<its.length:=(Q7.mp h).1;have hl:=r.length;rw[QX]at hl;have hn:i<ns.length:=by omega
 obtain⟨u,e1,e2⟩:=r.get (i:=i) (x:=.int ns[i]) (by rw[Qb,Q4 hn];rfl);rw[h]at e1;cases e1;obtain⟨t,e⟩:=e2;exact⟨_,t,Q4 hn,e⟩
theorem y9:MtM X "list.index" AD:=by
 intro pins s σ H x vs v us Q I rx rv h;obtain⟨l,ns,z,j,rfl,rfl,hH,hj,hm,hb,q⟩:=h;cases rx;obtain⟨u,rfl,ru⟩:=rv.one;obtain⟨tz,rfl⟩:=ru;obtain⟨_,its,n,r,hl,e⟩:=I.lstM hH;have hlen:=r.length;rw[QX]at hlen;have hj':j<its.toArray.size:=by have:=(Q7.mp hj).1;simp;omega
 have at_:∀(m:Nat) (hm:m<its.toArray.size),∃k t,ns[m]?=some k/\its.toArray[m]=Value.int k t:=fun m hm=>by
  have hm':m<its.length:=by simpa using hm
  obtain⟨k,t,e1,e2⟩:=ny r (Q4 hm');exact⟨k,t,e1,by simpa using e2⟩
 refine call_meets PySem.F.slot_list_index ⟨_,e,rfl⟩ PySem.F.entry_list_index (PySem.F.args_list_index_2 _ _) (PySem.MeetsSeq.list_index l its.toArray n (Value.int z tz) (wd z) (fun y hy=>?_) j hj' (by omega) ?_ fun m hm1 hm2=>?_) ⟨e,?_⟩
 ·obtain⟨m,hm1,rfl⟩:=Array.mem_iff_getElem.mp hy;obtain⟨k,t,_,e2⟩:=at_ m hm1;rw[e2];exact PySem.MeetsSeq.EqGives.int _ _ _ _
 ·obtain⟨k,t,e1,e2⟩:=at_ j hj';rw[e2];rw[hj]at e1;cases e1;simp[wd]
 ·obtain⟨k,t,e1,e2⟩:=at_ m hm1;rw[e2];simp only[wd,beq_eq_false_iff_ne];intro e3;exact hm m hm2 (by rw[e1,e3])
 ·exact⟨.int (j:Nat),_,I.kept (fun b o g=>g),⟨_,rfl⟩,q⟩
theorem AY:∀{ns:List Int} {z:Int} {k:Nat} (h:k<ns.length),ns[k]=z->ns.idxOf z<=k
 |[],_,_,h,_=>absurd h (Nat.not_lt_zero _)
 |n::ns,z,0,_,e=>by
  have:n=z:=e;subst this;simp
 |n::ns,z,k+1,h,e=>by
  rw[List.idxOf_cons];have:=AY (ns:=ns) (z:=z) (k:=k) (by simpa using h) (by simpa using e);cases (n == z)<;>simp<;>omega
def bx:U->List U->Sto->Option (U×Sto)
 |.ref l,[.int z],S=>match S[l]? with
  |some (.lst us)=>(mG us).bind fun ns=>if z∈ns/\ns.length<=LIM then some (.int (ns.idxOf z:Nat),S)else none
  |_=>none
 |_,_,_=>none
theorem CW:MtP K AD bx:=by
 intro m S H x v us vs u S' Q sr ix i hf post;match x,us,hf with
 |.ref l,[.int z],hf=>
  simp only[bx]at hf;split at hf<;>try cases hf
  rename_i ws hS;obtain⟨ns,hn,h⟩:=Q2.mp hf;split at h<;>try cases h
  have hk:z∈ns/\ns.length<=LIM:=by assumption
  obtain⟨a,ha,rfl⟩:=ix.of_ref;obtain⟨a',ha',xs,hx,la⟩:=sr.get hS;rw[ha]at ha';cases ha';obtain⟨y,rfl,iy⟩:=i.one;rw[iD hn]at la;rw[la.ints]at hx;have hlt:ns.idxOf z<ns.length:=Zq hk.1;have hL:ns.length<=100000:=hk.2;refine⟨a,ns,z,ns.idxOf z,rfl,by rw[iy.of_int],hx,?_,fun k hk e=>?_,by omega,post m _ _ .refl sr .int_⟩
  ·rw[Q4 hlt,List.getElem_idxOf]
  ·obtain⟨h1,h2⟩:=Q7.mp e;exact absurd (AY h1 h2) (Nat.not_le.mpr hk)
variable{e:Expr}{es:List Expr}{co:CE}{cr:CA}{o:Expr}{apos cpos:Pos}
theorem et (ho : QE X o co) (ha : QA X (e :: es) cr) (hbase : attributeBase o "index" X.env (eval o X.env) = eval o X.env := by rfl) (hfew : ((backTo cpos (starEach (e :: es) X.env)).all (fun x => !x.1) && (backToKw cpos (keywordEach [] X.env)).all (fun x => x.1.isSome)
   && decide ((e::es).length+([]:List Keyword).length+(if ([]:List Keyword).isEmpty then 0 else 1)<30))=true:=by rfl) (hline:(apos.endLine == cpos.line)=true:=by rfl) (hs:starEach (e::es) X.env=(false,eval e X.env)::starEach es X.env:=by rfl) (hplain:(backTo cpos (starEach es X.env)).any (·.1)=false:=by rfl) :
  QE X (.Call (.Attribute o "index" apos) (e::es) [] cpos) (cBM bx co cr):=(qv PySem.F.plainAttrs_list PySem.F.slot_list_index PySem.F.type_list_index y9 ho ha.h hbase hfew hline hs hplain).imp (oN CW)
end
variable{n:Nat}{pos:Pos}
section
theorem Df{pins:List (Addr×Obj)}{σ:L2.St}{H:Hp}{s:Shared}{b:Addr}{ks:List Key}(I:Inv X pins σ H s)(sq:SqT X.K H b (ks.map kV)):(tupleKind (bB X.prog X.w)).is s.heap ks b:=by
 obtain⟨its,r,⟨o,h1,h2,n,h3⟩,_⟩:=I.tuple sq;exact⟨o,its.toArray,n,h1,h2,h3,by simpa using jS r⟩
def EY(K:Q5)(td ty:TE):TE:=fun σ H Q=>td σ H fun x H1=>ty σ H1 fun y H2=>∃(a b:Addr) (kvs:List (List Key×V)) (k:List Key) (v:V),x=.ref a/\y=.ref b/\Rd H2 a (.dT kvs)/\SqT K H2 b (k.map kV)/\kr kvs k=some v/\Q v H2
theorem uq{o i:Expr}{td ty:TE}{pos:Pos}(hu:X.A.units+1<cLine)(ho:WE X o td)(hi:WE X i ty)(hs:D6 i):WE X (.Subscript o i pos) (EY X.K td ty):=by
 constructor;intro pins s σ H Q I h;refine uF PySem.F.slot_dict_getitem.lookup hs (thn (ho.h pins s σ H _ I h) fun u s1 hz=>?_);obtain⟨x,H1,I1,rx,q1⟩:=hz;refine thn (hi.h pins s1 σ H1 _ I1 q1) fun iv s2 hz=>?_;obtain⟨y,H2,I2,ry,a,b,kvs,k,v,ex,ey,e,sq,l,q2⟩:=hz;subst ex;subst ey;cases (show u=Value.ref a from rx);cases (show iv=Value.ref b from ry);obtain⟨z,hd,xs,rel,dd⟩:=pV I2.hok e;refine⟨dd.typeIs,?_⟩;obtain⟨w',hw,rw'⟩:=tV.some_of (v:=v) (o:=(atKey xs k).map (·.2)) (by rw[<-l];exact rel.val k);obtain⟨p,hp,hp2⟩:=Qs.mp hw;refine wpAny_getItem_heap (tupleKind_room_in1 hu) (Df I2 sq) dd hp ?_;rw[hp2];exact⟨v,H2,I2.tok _,rw',q2⟩
def Dw:U->U->Sto->Option (U×Sto):=fun x y S=>match x with
 |.ref l=>match y with
  |.tup us=>(B2 us).bind fun ks=>match S[l]? with
   |some (.dit kus)=>(kI kus ks).bind fun u=>some (u,S)
   |some (.fdt _ kus)=>(kI kus ks).bind fun u=>some (u,S)
   |_=>none
  |_=>none
 |_=>none
theorem Ip{a b:Expr}{ca cb:CE}{pos:Pos}(hu:X.A.units+1<cLine)(ha:QE X a ca)(hb:QE X b cb)(hs:D6 b):QE X (.Subscript a b pos) (cOp Dw ca cb):=
 (uq hu ha hb hs).imp fun σ H Q hz=>iF hz fun m ρ S u S' sr lr hc post=>by
 obtain⟨⟨x,S1⟩,h1,h⟩:=Q2.mp hc;obtain⟨⟨y,S2⟩,h3,h4⟩:=Q2.mp h;refine⟨m,ρ,S,_,S1,sr,lr,h1,fun m1 v1 H1 e1 sr1 i1=>⟨m1,ρ,S1,_,S2,sr1,lr.mono e1,h3,fun m2 v2 H2 e2 sr2 i2=>?_⟩⟩;cases x with
 |ref l=>
  cases y with
  |tup us=>
   simp only[Dw]at h4;obtain⟨ks,hk,h5⟩:=Q2.mp h4;obtain⟨a,ha,rfl⟩:=(i1.mono e2).of_ref;obtain⟨b,xs,rfl,sb,lb⟩:=i2.of_tup;have hx:=pB lb hk;subst hx;split at h5<;>try cases h5
   ·rename_i kus hS;obtain⟨w,hw,h6⟩:=Q2.mp h5;cases h6;obtain⟨a',ha',kvs,hx,ip⟩:=sr2.get hS;rw[ha]at ha';cases ha';have rf:=IsP.val (k:=ks) ip;rw[hw]at rf;cases hv:kr kvs ks with
    |none=>rw[hv]at rf;exact rf.elim
    |some z=>
     rw[hv]at rf;exact⟨a,b,kvs,ks,z,rfl,rfl,.inl hx,sb,hv,post m2 _ H2 (e1.trans e2) sr2 rf⟩
   ·rename_i ep kus hS;obtain⟨w,hw,h6⟩:=Q2.mp h5;cases h6;obtain⟨a',ha',ob,es,kvs,hx,hd,ip⟩:=sr2.get hS;rw[ha]at ha';cases ha';have rf:=IsP.val (k:=ks) ip;rw[hw]at rf;cases hv:kr kvs ks with
    |none=>rw[hv]at rf;exact rf.elim
    |some z=>
     rw[hv]at rf;exact⟨a,b,kvs,ks,z,rfl,rfl,.inr ⟨ob,hx⟩,sb,hv,post m2 _ H2 (e1.trans e2) sr2 rf⟩
  |_=>cases h4
 |_=>cases h4
theorem yb{e:Expr}{t:TE}(h:WE X e t):WE X e (fun σ H Q=>t σ H fun v H'=>∃a ob kvs,GY X a/\H' a=some (.frz ob (.dT kvs))/\Q v (upd H' a (.dT kvs))):=by
 constructor;intro pins s σ H Q I k;refine thn (h.h pins s σ H _ I k) fun u s1 hz=>?_;obtain⟨v,H1,I1,r1,a,ob,kvs,nf,e,q⟩:=hz;exact⟨v,_,we I1 nf e,r1,q⟩
def xc(ce:CE)(f:(Sto->Prop)->Nat->List U->Rho->Sto->Option Sto)(n:Nat)(caps:List Nat):CE:=fun ρ S=>(ce ρ S).bind fun p=>match p.1 with
 |.ref l=>match p.2[l]? with
  |some (.dit kus)=>uni fun ep=>(f (fun S'=>S'[l]?=some (.fdt ep kus)) p.2.length (kus.map fun q=>.tup (q.1.map kU)) (me n caps ρ) (p.2.set l (.fdt ep kus)++[.lst []])).bind fun S'=>match S'[l]? with
   |some (.fdt _ kus')=>some (.ref p.2.length,S'.set l (.dit kus'))
   |_=>none
  |_=>none
 |_=>none
def rX(ce:CE)(g:CG)(el:CE)(n:Nat)(caps:List Nat):CE:=xc ce (fun ok l=>iG ok g el l) n caps
theorem uv{ce:CE}{f:(Sto->Prop)->Nat->List U->Rho->Sto->Option Sto}{n:Nat}{caps:List Nat}{G:It->Hp->L2.St->VK->Prop}
  (core:∀{J:It} {us:List U} {ok:Sto->Prop} {Q:VK} {m1:List Addr} {H1:Hp} {S1 S':Sto} {ρ:Rho} {σ:L2.St},Sr X.K m1 S1 H1->Lr X.K m1 H1 ρ σ->Aj X.K J m1 H1 us ok->f ok S1.length us (me n caps ρ) (S1++[.lst []])=some S'->
   (∀l,H1 l=none->∀m2 H2,Ext X.K (m1++[l]) (upd H1 l (.lst [])) m2 H2->Sr X.K m2 S' H2->Q (.ref l) H2)->G J H1 σ Q) :
  ∀σ H Q,tE X.K (xc ce f n caps) σ H Q->AZ X (tE X.K ce) σ H fun J H1=>G J H1 σ fun v H'=>∃a ob kvs,GY X a/\H' a=some (.frz ob (.dT kvs))/\Q v (upd H' a (.dT kvs)):=by
 intro σ H Q hz;refine iF hz fun m ρ S u S' sr lr hc post=>?_;obtain⟨⟨x,S1⟩,h1,h⟩:=Q2.mp hc;refine⟨m,ρ,S,x,S1,sr,lr,h1,fun m1 v1 H1 e1 sr1 i1=>?_⟩;cases x with
 |ref l=>
  simp only at h;split at h<;>try cases h
  rename_i kus hS;obtain⟨a,ha,rfl⟩:=i1.of_ref;obtain⟨a',ha',kvs,hx,ip⟩:=sr1.get hS;rw[ha]at ha';cases ha';refine⟨a,kvs,rfl,hx,fun ob es ep nf hd=>?_⟩;obtain⟨S2,h2,h3⟩:=Q2.mp (ye h ep);try simp only at h3
  split at h3<;>try cases h3
  rename_i ep' kus' hS2;have ee:Ext X.K m1 H1 m1 (upd H1 a (.frz ob (.dT kvs))):=.of (sr1.keep ha _);have sr2:Sr X.K m1 (S1.set l (.fdt ep kus)) (upd H1 a (.frz ob (.dT kvs))):=sr1.put ha ⟨ob,es,kvs,aH,hd,ip.mono ee⟩;rw[ip.1];have hln:(S1.set l (.fdt ep kus)).length=S1.length:=by simp
  refine core sr2 (lr.mono (e1.trans ee)) (zu ha) (by rw[hln];exact h2) fun p hp m3 H3 e3 sr3=>?_;have en:Ext X.K m1 (upd H1 a (.frz ob (.dT kvs))) (m1++[p]) (upd (upd H1 a (.frz ob (.dT kvs))) p (.lst [])):=.new (bp hp _);have e03:=en.trans e3;obtain⟨a3,ha3,ob3,es3,kvs3,hx3,hd3,ip3⟩:=sr3.get hS2;rw[e03.get ha]at ha3;cases ha3;have e4:Ext X.K m3 H3 m3 (upd H3 a (.dT kvs3)):=.of (sr3.keep (e03.get ha) _);refine⟨a,ob3,kvs3,nf,hx3,post m3 _ _ (((e1.trans ee).trans e03).trans e4) (sr3.put (e03.get ha) ⟨kvs3,aH,ip3.mono e4⟩) ?_⟩;have lg:(m1++[p])[S1.length]?=some p:=cm sr1.len;exact .ref_ (e3.get lg)
 |_=>cases h
variable{Nc capN tn:List Str}{scope:Scope}{cl:List (Str×Addr)}{caps:List Nat}{tg iter elt:Expr}{ci:CE}{g:CG}{ce:CE}
theorem Cs(hc:X.calm=true)(hi:QE X iter ci)(hg:∀s3 H3 fp,WG (cxC X Nc scope cl s3 H3 fp) tg (tG X.K g))(he:∀s3 H3 fp,WE (cxC X Nc scope cl s3 H3 fp) elt (tE X.K ce))
  (hclos:closureFor scope X.env=pure cl) (hkind:scope.kind=.function) (hnl:∀x∈scope.names,x.2=.local->scope.names.lookup x.1=some .local) (hcell:∀x∈scope.names,x.2≠.cell)
  (hcl:o9 X.env cl) (hhas:((relabel scope X.env).names.all fun p=>!(p.2 == .cell||p.2 == .free)||(cl.lookup p.1).isSome)=true)
  (hcap:Paired (Cap X scope cl) caps capN) (hN:Nc=tn++capN) (hn:tn.length=n)
  (hs:∀x,foldedSetIterable iter X.env x=pure x:=by intro _;rfl) :
  QE X (.ListComp elt [⟨tg,iter,[],0⟩] scope pos) (rX ci g ce n caps):=
 (yb (qt hc (x8 hi) hg he hclos hkind hnl hcell hcl hhas hcap hN hn hs)).imp (uv (G:=fun J H1 σ Q=>∀l,H1 l=none->∃W:Nat->Nat->L2.St->Hp->Prop,(∃m,W 0 m (OG.stC n caps σ) (upd H1 l (.lst [])))/\
  ∀i m σ' H2,W i m σ' H2->(J.stop i H2/\Q (.ref l) H2)\/(J.go i H2/\∃N:L2.St->Hp->Prop,(∀σ'' H',N σ'' H'->∃m',m'<m/\W (i+1) m' σ'' H')/\
  ∀x H3,J.yld i H2 x H3->tG X.K g x σ' H3 fun σ2 H4=>tE X.K ce σ2 H4 fun v H5=>∃ys,H5 l=some (.lst ys)/\ys.length<sizeLine/\N σ2 (upd H5 l (.lst (ys++[v]))))) fun sr lr ito h2 post l hl=>oF sr lr ito hl h2 (post l hl))
end
theorem sQ(n:Nat):(Qz n).map (fun k=>n-1-k)=(Qz n).reverse:=by
 refine List.ext_getElem (by simp) fun i h1 h2=>?_;simp at h1;simp[List.getElem_reverse]
theorem vn(its:List Value):slicePick its.toArray none none (some (-1))=its.reverse.toArray:=by
 have hr:sliceRange ((its.length:Int)-1) (-1) (-1)=(Qz its.length).reverse:=by
  rw[<-sQ];unfold sliceRange;have h0:¬((-1:Int)>0):=by decide
  simp only[h0,if_false];have hc:(if (its.length:Int)-1 > -1 then((its.length:Int)-1 - -1 - -1-1) / - -1 else 0).toNat=its.length:=by
   by_cases h:(its.length:Int)-1 > -1
   ·rw[if_pos h];have:((its.length:Int)-1 - -1 - -1-1) / - -1=its.length:=by
     rw[Int.neg_neg,Int.ediv_one];omega
    rw[this];exact Zx _
   ·rw[if_neg h];simp;omega
  rw[hc];refine XE fun k hk=>?_;have:=Qy.mp hk;omega
 unfold slicePick sliceBounds;have h0:¬((-1:Int)>0):=by decide
 simp only[ZX,h0,if_false,QM,hr];rw[List.filterMap_reverse];have:=pick_run its.toArray 0 its.length;simp only[X6,List.map_id',XZ]at this;rw[this,ZI (by simp)]
theorem yL(its:List Value):slicePick its.toArray none none (some 1)=its.toArray:=by
 unfold slicePick sliceBounds;have h0:(1:Int)>0:=by decide
 simp only[ZX,h0,if_true,QM];have:=sliceRange_one 0 its.length;simp only[Nat.sub_zero]at this;rw[show((0:Int))=((0:Nat):Int)from rfl,this];have:=pick_run its.toArray 0 its.length;rw[this,XZ,ZI (by simp)]
theorem lO:∀{xs:List V} {us:List Value},aX xs us->aX xs.reverse us.reverse
 |[],us,r=>by cases r;exact .nil
 |x::xs,us,r=>by
  cases r with
  |cons r1 r2=>
   rw[List.reverse_cons,List.reverse_cons];exact aX.append (lO r2) (.cons r1 .nil)
def J9(K:Q5)(te ts:TE):TE:=fun σ H Q=>te σ H fun x H1=>ts σ H1 fun y H2=>∃(a:Addr) (xs:List V) (b:Bool),x=.ref a/\SqL K H2 a xs/\y=.int (if b then 1 else -1)/\∀p,H2 p=none->Q (.ref p) (upd H2 p (.lst (if b then xs else xs.reverse)))
theorem BO{e st:Expr}{te ts:TE}{pos p2:Pos}(he:WE X e te)(hst:WE X st ts):WE X (.Subscript e (.Slice none none (some st) p2) pos) (J9 X.K te ts):=by
 constructor;intro pins s σ H Q I h;refine Subscript_ (thn (he.h pins s σ H _ I h) fun v s1 hz=>?_);obtain⟨x,H1,I1,r1,q1⟩:=hz;refine wpAny_Slice ?_;rw[evalPart_none];refine Q6 (Q6 ?_);show wpAny _ _ (eval st X.env) _ _ s1;refine thn (hst.h pins s1 σ H1 _ I1 q1) fun vs s3 hz=>?_;obtain⟨y,H3,I3,ry,a,xs,b,rfl,hx,rfl,q⟩:=hz;cases r1;obtain⟨t,rfl⟩:=(show ∃t,vs=Value.int (if b then 1 else -1) t from ry);have I4:Inv X pins σ H3 { s3 with heap:=s3.heap.push { cls:=.type "slice",data:=.fields #[.none,.none,.int (if b then 1 else -1) t] } }:=I3.kept (t':=s3.toks) fun b ob q=>Q3 _ q;obtain⟨its,r,ht,hz⟩:=I4.list hx;have hlen:=r.length;show wpAny (model X.prog X.w) X.A (subscriptTail e (.Slice none none (some st) p2) (.ref a) (.ref s3.heap.objs.size)) (EP X pins σ Q) X.xe { s3 with heap:=s3.heap.push { cls:=.type "slice",data:=.fields #[.none,.none,.int (if b then 1 else -1) t] } };refine tail_any (ops:=[.ref a,.ref s3.heap.objs.size]) ht.isList.typeIs slot_list_getitem.lookup ?_ (by with_unfolding_all rfl);refine wpAny_getItem_list_slice ht.isList (Heap.IsSliceOf.new ..) .none .none (.int _ t) (by cases b<;>simp) ?_ (by rw[QM]<;>omega);have hp:slicePick its.toArray none none (some (if b then 1 else -1))=(if b then its else its.reverse).toArray:=by
  cases b
  ·exact vn its
  ·exact yL its
 rw[hp];refine⟨.ref _,_,I4.laid (t':=s3.toks) (o:=.lst (if b then xs else xs.reverse)) (fun b ob q=>Q3 _ q) (QJ _) ?_,rfl,q _ (I4.hok.fresh (QJ _))⟩;cases b
 ·exact⟨by simpa using hz,_,0,lO r,QU _ rfl⟩
 ·exact⟨hz,_,0,r,QU _ rfl⟩
noncomputable def D2(x y:U)(S:Sto):Option (U×Sto):=match x with
 |.ref l=>match y with
  |.int i=>match S[l]? with
   |some (.lst us)=>if i=1 then some (.ref S.length,S++[.lst us])else if i=-1 then some (.ref S.length,S++[.lst us.reverse])else none
   |_=>none
  |_=>none
 |_=>none
theorem Io{e st:Expr}{ca cs:CE}{pos p2:Pos}(ha:QE X e ca)(hs:QE X st cs):QE X (.Subscript e (.Slice none none (some st) p2) pos) (cOp D2 ca cs):=
 (BO ha hs).imp fun σ H Q hz=>iF hz fun m ρ S u S' sr lr hc post=>by
 obtain⟨⟨x,S1⟩,h1,h⟩:=Q2.mp hc;obtain⟨⟨y,S2⟩,h3,h4⟩:=Q2.mp h;refine⟨m,ρ,S,_,S1,sr,lr,h1,fun m1 v1 H1 e1 sr1 i1=>⟨m1,ρ,S1,_,S2,sr1,lr.mono e1,h3,fun m2 v2 H2 e2 sr2 i2=>?_⟩⟩;cases x with
 |ref l=>
  cases y with
  |int i=>
   simp only[D2]at h4;split at h4<;>try cases h4
   rename_i us hS;obtain⟨a,ha,rfl⟩:=(i1.mono e2).of_ref;obtain⟨a',ha',xs,hx,la⟩:=sr2.get hS;rw[ha]at ha';cases ha';split at h4
   ·rename_i hi;subst hi;cases h4;refine⟨a,xs,true,rfl,SqL.of hx,i2.of_int,fun p hp=>?_⟩;have en:Ext X.K m2 H2 (m2++[p]) (upd H2 p (.lst xs)):=.new (bp hp _);exact post (m2++[p]) _ _ ((e1.trans e2).trans en) (sr2.new hp ⟨xs,aH,la.mono en⟩) (.ref_ (cm sr2.len))
   ·split at h4<;>try cases h4
    rename_i hi;subst hi;refine⟨a,xs,false,rfl,SqL.of hx,i2.of_int,fun p hp=>?_⟩;have en:Ext X.K m2 H2 (m2++[p]) (upd H2 p (.lst xs.reverse)):=.new (bp hp _);exact post (m2++[p]) _ _ ((e1.trans e2).trans en) (sr2.new hp ⟨xs.reverse,aH,la.rev.mono en⟩) (.ref_ (cm sr2.len))
  |_=>cases h4
 |_=>cases h4
def ltR:List Int->List Int->Bool
 |[],[]=>false
 |[],_::_=>true
 |_::_,[]=>false
 |a::r,b::t=>if a=b then ltR r t else decide (a<b)
theorem jP:∀r:List Int,ltR r r=false
 |[]=>rfl
 |a::r=>by rw[ltR,if_pos rfl];exact jP r
theorem mz:∀{r t:List Int},ltR r t=true->ltR t r=false
 |[],[],h=>by cases h
 |[],_::_,_=>rfl
 |_::_,[],h=>by cases h
 |a::r,b::t,h=>by
  rw[ltR]at h ⊢;by_cases e:a=b
  ·rw[if_pos e]at h;rw[if_pos e.symm];exact mz h
  ·rw[if_neg e,decide_eq_true_eq]at h;rw[if_neg (Ne.symm e),decide_eq_false_iff_not];omega
theorem vM:∀{r t:List Int},r≠t->ltR r t=false->ltR t r=true
 |[],[],n,_=>absurd rfl n
 |[],_::_,_,h=>by cases h
 |_::_,[],_,_=>rfl
 |a::r,b::t,n,h=>by
  rw[ltR]at h ⊢;by_cases e:a=b
  ·subst e;rw[if_pos rfl]at h ⊢;exact vM (fun z=>n (by rw[z])) h
  ·rw[if_neg e,decide_eq_false_iff_not]at h;rw[if_neg (Ne.symm e),decide_eq_true_eq];omega
theorem nV:∀{r t u:List Int},ltR r t=true->ltR t u=true->ltR r u=true
 |[],[],_,h,_=>by cases h
 |_::_,[],_,h,_=>by cases h
 |_,_::_,[],_,k=>by cases k
 |[],_::_,_::_,_,_=>rfl
 |a::r,b::t,c::u,h,k=>by
  rw[ltR]at h k ⊢;by_cases e:a=b
  ·subst e;rw[if_pos rfl]at h;by_cases e2:a=c
   ·rw[if_pos e2]at k ⊢;exact nV h k
   ·rw[if_neg e2]at k ⊢;exact k
  ·rw[if_neg e,decide_eq_true_eq]at h;by_cases e2:b=c
   ·subst e2;rw[if_neg e,decide_eq_true_eq];exact h
   ·rw[if_neg e2,decide_eq_true_eq]at k;have:a≠c:=by omega
    rw[if_neg this,decide_eq_true_eq];omega
def qf(h:Heap)(v:Value)(ns:List Int):Prop:=∃b o its e,v=Value.ref b/\h.get? b=some o/\o.cls=Value.type "tuple"/\o.data=Data.seq its e/\aX (ns.map V.int) its.toList
theorem AR{C:Bool->Shared->Prop}{fin:Bool}:∀{ns ms:List Int} {vs us:List Value} {i:Nat},aX (ns.map V.int) vs->aX (ms.map V.int) us->fin=decide (ns.length<ms.length)->C (ltR ns ms) s->KatLex prog w A true fin C (vs.zip us) i s
 |[],ms,vs,us,i,r1,r2,e,c=>by
  cases r1;rw[List.zip_nil_left];refine kat_nil ?_;cases ms with
  |nil=>subst e;exact c
  |cons m ms=>subst e;exact c
 |n::ns,[],vs,us,i,r1,r2,e,c=>by
  cases r2;rw[List.zip_nil_right];refine kat_nil ?_;subst e;exact c
 |n::ns,m::ms,vs,us,i,r1,r2,e,c=>by
  cases r1 with
  |cons u1 t1=>
   cases r2 with
   |cons u2 t2=>
    obtain⟨k1,rfl⟩:=u1;obtain⟨k2,rfl⟩:=u2;rw[List.zip_cons_cons];refine kat_cons (wpAny_eqBool_int ?_);by_cases en:n=m
    ·subst en;rw[beq_self_eq_true];rw[ltR,if_pos rfl]at c;exact kat_yes (AR t1 t2 (by rw[e];simp) c)
    ·rw[beq_eq_false_iff_ne.mpr en];rw[ltR,if_neg en]at c;exact kat_no (iS c)
theorem Fe{v v':Value}{ns ms:List Int}{C:Bool->Shared->Prop}(h:qf s.heap v ns)(h':qf s.heap v' ms)(c:C (ltR ns ms) s):wpAny (model prog w) A (keyLt' (tuples' true) v v') C E s:=by
 obtain⟨b,o,its,e,rfl,g,_,d,r⟩:=h;obtain⟨b',o',its',e',rfl,g',_,d',r'⟩:=h';refine kat_lt g d g' d' (AR r r' ?_ c);have l1:its.size=ns.length:=by have:=r.length;rw[QX]at this;rw[this];exact QY.symm
 have l2:its'.size=ms.length:=by have:=r'.length;rw[QX]at this;rw[this];exact QY.symm
 rw[l1,l2]
def dG(h:Heap):List Value->List (List Int)->Prop
 |[],[]=>True
 |v::vs,p::ps=>qf h v p/\dG h vs ps
 |_,_=>False
theorem lZ{h:Heap}:∀{vs:List Value} {ps:List (List Int)},dG h vs ps->vs.length=ps.length
 |[],[],_=>rfl
 |_::_,_::_,k=>by rw[QH,QH,lZ k.2]
 |[],_::_,k=>k.elim
 |_::_,[],k=>k.elim
theorem ma{h:Heap}:∀{vs:List Value} {ps:List (List Int)} {i:Nat},dG h vs ps->i<ps.length->qf h (vs.getD i Value.none) (ps.getD i [])
 |[],[],_,_,k=>absurd k (Nat.not_lt_zero _)
 |_::_,_::_,0,k,_=>k.1
 |_::vs,_::ps,i+1,k,l=>by
  show qf h (vs.getD i Value.none) (ps.getD i []);exact ma k.2 (by rw[QH]at l;omega)
 |[],_::_,_,k,_=>k.elim
 |_::_,[],_,k,_=>k.elim
theorem gX{h h':Heap}{a:Addr}(m:∀b o,b≠a->h.get? b=some o->h'.get? b=some o):∀{vs:List Value} {ps:List (List Int)},dG h vs ps->(∀v∈vs,v≠.ref a)->dG h' vs ps
 |[],[],_,_=>trivial
 |v::vs,_::_,k,hv=>by
  refine⟨?_,gX m k.2 fun x hx=>hv x (QF _ hx)⟩;obtain⟨b,o,its,e,rfl,g,c,d⟩:=k.1;exact⟨b,o,its,e,rfl,m b o (fun e=>hv _ QB (by rw[e])) g,c,d⟩
 |[],_::_,k,_=>k.elim
 |_::_,[],k,_=>k.elim
theorem nE{h:Heap}:∀{vs:List Value} {ps:List (List Int)},dG h vs ps->(∀p∈ps,p≠[])->∃fs,KatTups h vs fs/\fs.length=vs.length/\∀f∈fs,∃i t,f=Value.int i t
 |[],[],_,_=>⟨[],trivial,rfl,fun f hf=>by cases hf⟩
 |v::vs,p::ps,k,ne=>by
  obtain⟨fs,h1,h2,h3⟩:=nE k.2 fun q hq=>ne q (QF _ hq);obtain⟨b,o,its,e,hv,g,c,d,r⟩:=k.1;cases p with
  |nil=>exact absurd rfl (ne [] QB)
  |cons n ns=>
   obtain⟨x,t,hx⟩:∃x t,its.toList=x::t:=by
    cases hl:its.toList with
    |nil=>rw[hl]at r;have:=r.length;simp at this
    |cons x t=>exact⟨x,t,rfl⟩
   have hi:∃i t',x=Value.int i t':=by
    rw[hx]at r;cases r with
    |cons u1 t1=>obtain⟨k1,rfl⟩:=u1;exact⟨_,_,rfl⟩
   refine⟨x::fs,⟨⟨b,o,its,e,hv,g,c,d,?_⟩,h1⟩,by rw[QH,QH,h2],fun f hf=>?_⟩
   ·rw[<-QC,hx];rfl
   ·rcases Qk.mp hf with z|z
    ·rw[z];exact hi
    ·exact h3 f z
 |[],_::_,k,_=>k.elim
 |_::_,[],k,_=>k.elim
theorem uT{vs:List Value}{ps:List (List Int)}{Q:SortKind->Shared->Prop}(h:dG s.heap vs ps)(ne:∀p∈ps,p≠[])(hn:0<vs.length)(q:Q (tuples' true) s):wpAny (model prog w) A (keyKind' vs.toArray) Q E s:=by
 obtain⟨fs,h1,h2,h3⟩:=nE h ne;refine kat_kind (T:=Value.type "int") h1 (by omega) (fun v hv A Q E s' _ q=>?_) (by decide +kernel) (by exact q);obtain⟨i,t,rfl⟩:=h3 v hv;exact wpAny_typeOf (typeIs_int s' i t) q
theorem gZ{h:Heap}:∀{vs:List Value} {ps:List (List Int)},dG h vs ps->∀v∈vs,∀a,h.objs.size<=a->v≠.ref a
 |[],[],_,v,hv,_,_=>by cases hv
 |_::_,_::_,k,v,hv,a,ha=>by
  rcases Qk.mp hv with z|z
  ·obtain⟨b,o,its,e,e1,g,_⟩:=k.1;rw[z,e1];intro e2;cases e2;exact absurd (QV g) (XG.mpr ha)
  ·exact gZ k.2 v z a ha
 |[],_::_,k,_,_,_,_=>k.elim
 |_::_,[],k,_,_,_,_=>k.elim
theorem F6{ps:List (List Int)}(nd:ps.Nodup):xJ ps.length fun i j=>ltR (ps.getD i []) (ps.getD j []) where
 tr:=fun{i j k} hi hj hk h1 h2=>nV h1 h2
 asym:=fun{i j} hi hj h=>mz h
 tot:=fun{i j} hi hj hne h=>by
  refine vM (fun e=>hne ?_) h;rw[Q9,Q9,Q4 hi,Q4 hj]at e;simp only[ZX]at e;exact(List.getElem_inj nd).mp e
def G7(ps:List (List Int))(q:Array Nat):Prop:=Pm ps.length q/\Asc (fun i j=>ltR (ps.getD i []) (ps.getD j [])) q ps.length
theorem fT{prog:Program}{w:World}{A:Around}{E:Value->Shared->Prop}{s:Shared}{a:Addr}{vs:List Value}{ps:List (List Int)}{n:Nat}{P:PySem.Fin->Shared->Prop}
  (g:s.heap.get? a=some (seqObj "list" vs.toArray n)) (hp:dG s.heap vs ps) (hv:∀v∈vs,v≠.ref a) (ne:∀p∈ps,p≠[]) (nd:ps.Nodup) (h64:ps.length<64)
  (k:∀q:Array Nat,G7 ps q->P (Fin.done (Flow.ret Value.none)) { s with heap:=sortedHeap s.heap a vs (q.toList.map fun i=>vs.getD i Value.none).toArray }) :
  wpAny (model prog w) A (Builtin.«list.sort» { pos:=[Value.ref a] }) P E s:=by
 have hl:=lZ hp;by_cases h2:vs.length<2
 ·have hr:((Qz ps.length).toArray.toList.map fun i=>vs.getD i Value.none)=vs:=by
   rw[<-hl];refine Zw fun i=>?_;by_cases hi:i<vs.length
   ·simp[XD hi,Q4 hi]
   ·simp[ZU (Nat.le_of_not_lt hi),hi]
  have:=k (Qz ps.length).toArray ⟨mn,fun i j hij hj=>by omega⟩;rw[hr]at this;exact fe g h2 this
 ·refine mC g (by omega) (by omega) fun h' m=>?_;have hp':dG ({ s with heap:=h' }:Shared).heap vs ps:=gX m hp hv;refine uT hp' ne (by omega) ⟨rfl,?_⟩;have hl':vs.length=ps.length:=hl;rw[hl'];refine B6 (F6 nd) (fun i j C hi hj c=>?_) (by omega) fun q P1 P2=>⟨rfl,k q ⟨P1,P2⟩⟩;exact Fe (ma hp' hi) (ma hp' hj) c
theorem pD{prog:Program}{w:World}{A:Around}{E:Value->Shared->Prop}{s:Shared}{l:Addr}{vs:List Value}{ps:List (List Int)}{Q:Value->Shared->Prop}
  (hL:s.heap.IsList l vs.toArray) (hp:dG s.heap vs ps) (ne:∀p∈ps,p≠[]) (nd:ps.Nodup) (h64:ps.length<64)
  (k:∀q:Array Nat,G7 ps q->Q (Value.ref (s.heap.objs.size+1)) { s with heap:=sortedAll s.heap vs (q.toList.map fun i=>vs.getD i Value.none).toArray }) :
  wpAny (model prog w) A (call (Value.builtin "sorted") [Value.ref l]) Q E s:=by
 have hl:=lZ hp;have hz:vs.length<=sizeLine:=by unfold sizeLine;omega
 refine Calls.call_function_entry kind_sorted plain_sorted entry_sorted (args_sorted1 _) ?_;unfold Builtin.«sorted»;refine Q0 (m:=checkCount "sorted" 1 1 _) (Q6 (Q0 (collect_list hL (Q0 (wpAny_newList ?_ hz)) hz)));have hsz:((s.heap.push (seqObj "list" #[] 0)).update s.heap.objs.size (Obj.mapSeq fun x=>x++vs.toArray)).objs.size=s.heap.objs.size+1:=by
  rw[XA,size_push']
 have gL:(((s.heap.push (seqObj "list" #[] 0)).update s.heap.objs.size (Obj.mapSeq fun x=>x++vs.toArray)).push (seqObj "list" vs.toArray 0)).get? (s.heap.objs.size+1)=some (seqObj "list" vs.toArray 0):=by
  rw[<-hsz];exact QU _ rfl
 have old:∀b o,s.heap.get? b=some o->(((s.heap.push (seqObj "list" #[] 0)).update s.heap.objs.size (Obj.mapSeq fun x=>x++vs.toArray)).push (seqObj "list" vs.toArray 0)).get? b=some o:=fun b o g=>by
  refine Q3 _ ?_;rw[Heap.get?_update_ne _ _ _ _ (Qj (QV g))];exact Q3 _ g
 show wpAny _ _ _ _ _ { s with heap:=((s.heap.push (seqObj "list" #[] 0)).update s.heap.objs.size (Obj.mapSeq fun x=>x++vs.toArray)).push (seqObj "list" vs.toArray 0) };rw[show Value.ref ((s.heap.push (seqObj "list" #[] 0)).update s.heap.objs.size (Obj.mapSeq fun x=>x++vs.toArray)).objs.size=Value.ref (s.heap.objs.size+1)from by rw[hsz]];refine Q0 (wpAny_holding (wpAny_call_entry slot_list_sort ⟨_,gL,rfl⟩ entry_list_sort (fT (n:=0) gL (gX (a:=s.heap.objs.size+1) (fun b o _ g=>old b o g) hp fun v hv=>gZ hp v hv _ (by omega)) (fun v hv=>gZ hp v hv _ (by omega)) ne nd h64 fun q hq=>⟨_,rfl,?_⟩) (args_list_sort _)));exact Q6 ⟨_,rfl,k q hq⟩
def RwL(K:Q5)(H:Hp):List V->List (List Int)->Prop
 |[],[]=>True
 |x::xs,p::ps=>(∃a,x=.ref a/\SqT K H a (p.map V.int))/\RwL K H xs ps
 |_,_=>False
theorem uO{K:Q5}{H:Hp}:∀{ys:List V} {ps:List (List Int)},RwL K H ys ps->ys.length=ps.length
 |[],[],_=>rfl
 |_::_,_::_,k=>by rw[QH,QH,uO k.2]
 |[],_::_,k=>k.elim
 |_::_,[],k=>k.elim
theorem Ax{X:Cx}{pins:List (Addr×Obj)}{σ:L2.St}{H:Hp}{s:Shared}(I:Inv X pins σ H s):∀{ys:List V} {ps:List (List Int)} {vs:List Value},RwL X.K H ys ps->aX ys vs->dG s.heap vs ps
 |[],[],_,_,r=>by cases r;trivial
 |_::_,p::ps,_,k,r=>by
  cases r with
  |cons r1 r2=>
   refine⟨?_,Ax I k.2 r2⟩;obtain⟨a,rfl,hs⟩:=k.1;obtain⟨its,rv,⟨o,g,c,n,d⟩,_⟩:=I.tuple hs;cases r1;exact⟨a,o,_,n,rfl,g,c,d,by simpa using rv⟩
 |[],_::_,_,k,_=>k.elim
 |_::_,[],_,k,_=>k.elim
def mi(K:Q5):List V->Hp->VK->Prop:=fun xs H Q=>∃(p:Addr) (ys:List V) (ps:List (List Int)),xs=[.ref p]/\SqL K H p ys/\RwL K H ys ps/\(∀p∈ps,p≠[])/\ps.Nodup/\ps.length<64/\
 ∀(l:Addr) (q:Array Nat),H l=none->G7 ps q->Q (.ref l) (upd H l (.lst (q.toList.map fun i=>ys.getD i .non)))
theorem vE{X:Cx}:bX X (.builtin "sorted") (mi X.K):=by
 rintro pins s σ H xs us Q I r ⟨p,ys,ps,rfl,hL,hp,ne,nd,h64,q⟩;obtain⟨u,rfl,ru⟩:=eS r;cases ru;obtain⟨its,rv,pl,hz⟩:=I.list hL;have hlen:=uO hp;refine pD pl.isList (Ax I hp rv) ne nd h64 fun qa a1=>?_;obtain⟨e,ge⟩:=sortedAll_at s.heap its (qa.toList.map fun i=>its.getD i Value.none).toArray;have hf:=I.hok.fresh (XR s.heap.objs.size);have hq:qa.toList.length=ps.length:=by rw[QY,a1.1.sz]
 refine⟨.ref (s.heap.objs.size+1),_,I.laid (o:=.lst (qa.toList.map fun i=>ys.getD i .non)) (t':=s.toks) (fun b o e=>sortedAll_old e) (XR _) ⟨by rw[QX,hq];unfold sizeLine;omega,_,e,gM rv qa.toList (by rw[hlen];exact dD a1.1),ge⟩,rfl,q _ qa hf a1⟩
theorem Co{prog:Program}{w:World}{d:Addr}{o:Obj}{es:Array DictEntry}{ep:Nat}(hd:(d == sysModules)=false)(hc:o.ExactDict)(he:o.data=.dict es ep) :
  KdlSrc prog w "dict" d d es.size (fun i v=>∃h:i<es.size,v=es[i].key) (fun h=>h.get? d=some o) where
 type:=fun s g=>⟨o,g,hc.1⟩
 there:=fun h g=>⟨QV g,QV g⟩
 keep:=fun h h' g m=>m d (.inl rfl) o g
 notList:=by decide
 notTuple:=by decide
 hint:=fun A E s Q g q=>kdl_hint_dict ⟨o,g,hc.1⟩ q
 iter:=fun A s hh g=>by
  refine⟨_,fun i h=>h.IsKeyIter s.heap.objs.size d i es.size ep/\h.get? d=some o,fun E Q q=>qL hd g hc he q,?_,⟨⟨_,QU _ rfl,rfl,rfl⟩,Q3 _ g⟩⟩;refine⟨fun b hb=>by simp at hb;simp[hb],fun i h h' st m=>?_,fun i s' Q E hi st k=>?_,fun s' Q E st k=>?_,fun i s' Q E st q=>?_⟩
  ·obtain⟨⟨o1,g1,c1,d1⟩,g2⟩:=st;exact⟨⟨o1,m _ (by simp) o1 g1,c1,d1⟩,m _ (by simp) o g2⟩
  ·refine qM st.1 st.2 he hi fun h' it' sb=>k _ h' _ ⟨hi,rfl⟩ ⟨it',?_⟩ fun b o' hb g'=>?_
   ·have:d≠s.heap.objs.size:=Qj (QV g);rw[sb.2 d this];exact st.2
   ·rw[sb.2 b (by simpa using hb)];exact g'
  ·exact uX hh st.1 st.2 he (QJ _) fun h' eb=>k h' _ fun b o' hb g'=>eb b o' (by simpa using hb) g'
  ·exact wpAny_pyIter_keyiter st.1 q
def mf:List V->Hp->VK->Prop:=fun xs H Q=>∃(d:Addr) (kvs:List (List Key×V)) (ps:List (List Int)),xs=[.ref d]/\H d=some (.dT kvs)/\kvs.map (·.1)=ps.map (fun p=>p.map Sum.inl)/\(∀p∈ps,p≠[])/\ps.Nodup/\ps.length<64/\
 ∀(as:List Addr) (l:Addr) (q:Array Nat),H l=none->as.length=ps.length->(∀(i:Nat) (a:Addr) (p:List Int),as[i]?=some a->ps[i]?=some p->H a=some (.tup (p.map V.int)))->G7 ps q->
  Q (.ref l) (upd H l (.lst (q.toList.map fun i=>.ref (as.getD i 0))))
theorem Ge{H:Hp}:∀{kvs:List (List Key×V)} {xs:List (List Key×Addr×Value)} {ps:List (List Int)},KT H kvs xs->kvs.map (·.1)=ps.map (fun p=>p.map Sum.inl)->∀(i:Nat) (a:Addr) (p:List Int),(xs.map fun x=>x.2.1)[i]?=some a->ps[i]?=some p->H a=some (.tup (p.map V.int))
 |_,_,ps,.nil,_,i,a,p,h,_=>by simp at h
 |(k,v)::kvs,(k',b,u)::xs,[],.cons r t,e,i,a,p,_,hp=>by simp at hp
 |(k,v)::kvs,(k',b,u)::xs,p0::ps,.cons r t,e,i,a,p,h,hp=>by
  simp only[Qx,List.cons.injEq]at e;obtain⟨e1,e2⟩:=e;cases i with
  |zero=>
   simp at h hp;subst h;subst hp;obtain⟨r1,r2,r3⟩:=r;dsimp only at r1 r2;rw[r2,e1,Qe];rfl
  |succ i=>
   simp only[Qx,Qd]at h hp;exact Ge t e2 i a p h hp
theorem uS{h:Heap}:∀{as:List Addr} {ps:List (List Int)},as.length=ps.length->(∀(i:Nat) (a:Addr) (p:List Int),as[i]?=some a->ps[i]?=some p->qf h (.ref a) p)->dG h (as.map Value.ref) ps
 |[],[],_,_=>trivial
 |a::as,p::ps,l,k=>⟨k 0 a p rfl rfl,uS (by simpa using l) fun i a p h1 h2=>k (i+1) a p (by simpa using h1) (by simpa using h2)⟩
 |[],_::_,l,_=>by simp at l
 |_::_,[],l,_=>by simp at l
theorem vC{X:Cx}(hc:X.calm=true):bX X (.builtin "sorted") mf:=by
 rintro pins s σ H xs us Q I r ⟨d,kvs,ps,rfl,hD,hk,ne,nd,h64,q⟩;obtain⟨u,rfl,ru⟩:=eS r;cases ru;obtain⟨z,hd,ks,rel,o,es,ep,h1,h2,h3,h4,h5⟩:=pV I.hok (.inl hD);have lkv:kvs.length=ps.length:=by have:=congrArg List.length hk;simpa using this
 have lks:ks.length=ps.length:=by rw[<-Paired.length rel];exact lkv
 have les:es.size=ps.length:=by rw[<-lks,<-QY,h4,QX]
 obtain⟨as,has⟩:∃as,as=ks.map fun x=>x.2.1:=⟨_,rfl⟩;have las:as.length=ps.length:=by rw[has,QX,lks]
 have hH:∀(i:Nat) (a:Addr) (p:List Int),as[i]?=some a->ps[i]?=some p->H a=some (.tup (p.map V.int)):=by rw[has];exact Ge rel hk
 refine Calls.call_function_entry kind_sorted plain_sorted entry_sorted (args_sorted1 _) ?_;unfold Builtin.«sorted»;refine Q0 (m:=checkCount "sorted" 1 1 _) (Q6 (Q0 (kdu_collect (Co hd h2 h3) (show X.A.in1.handled=none from I.ok.hd hc) h1 (by rw[les];unfold sizeLine;omega) fun h' tk acc up hac=>?_)));have hacc:acc.toList=as.map Value.ref:=by
  refine Zw fun i=>?_;by_cases hi:i<es.size
  ·have hi':i<acc.size:=by rw[hac.1];exact hi
   obtain⟨_,e2⟩:=hac.2 i acc[i] (QR hi');have e3:acc.toList[i]?=some acc[i]:=by rw[QC,QR hi']
   have hk2:i<ks.length:=by rw[lks,<-les];exact hi
   have e4:es.toList[i]?=some (entryOfKey (tupleKind (bB X.prog X.w)) ks[i]):=by rw[h4,Qb,Q4 hk2];rfl
   rw[QC,QR hi]at e4;rw[e3,e2,Option.some.inj e4,has,Qe,Qb,Q4 hk2];rfl
  ·rw[ZU (by rw[QY,hac.1];omega),ZU (by rw[QX,las,<-les];omega)]
 have hrow:∀(i:Nat) (a:Addr) (p:List Int),as[i]?=some a->ps[i]?=some p->qf h' (.ref a) p:=fun i a p ha hp=>by
  obtain⟨_,its,r,o1,g1,c1,n1,d1⟩:=(show bF X.prog X.w H s.heap a (.tup (p.map V.int))from I.hok a _ (hH i a p ha hp));exact⟨a,o1,_,n1,rfl,up a o1 g1,c1,d1,by simpa using r⟩
 have hrows:dG h' (as.map Value.ref) ps:=uS las hrow;rw[hacc];refine Q0 (wpAny_newList ?_ (by rw[QX,las];unfold sizeLine;omega));have gL:(h'.push { cls:=.type "list",data:=.seq (as.map Value.ref).toArray }).get? h'.objs.size=some (seqObj "list" (as.map Value.ref).toArray 0):=QU _ rfl;have hv':∀v∈as.map Value.ref,v≠.ref h'.objs.size:=fun v hv=>gZ hrows v hv _ (QJ _);refine Q0 (wpAny_holding (wpAny_call_entry slot_list_sort ⟨_,gL,rfl⟩ entry_list_sort (fT (s:={ s with heap:=h'.push { cls:=.type "list",data:=.seq (as.map Value.ref).toArray },toks:=tk }) gL (gX (a:=h'.objs.size) (fun b o _ g=>Q3 _ g) hrows hv') hv' ne nd h64 fun qa a1=>⟨_,rfl,?_⟩) (args_list_sort _)));obtain⟨e,ge⟩:=sortedHeap_at (out:=(qa.toList.map fun i=>(as.map Value.ref).getD i Value.none).toArray) gL;have I2:Inv X pins σ H { s with heap:=h',toks:=tk }:=I.kept (t':=tk) up;have old:∀b o,h'.get? b=some o->(sortedHeap (h'.push { cls:=.type "list",data:=.seq (as.map Value.ref).toArray }) h'.objs.size (as.map Value.ref) (qa.toList.map fun i=>(as.map Value.ref).getD i Value.none).toArray).get? b=some o:=fun b o g1=>by
  have lt1:=QV g1;rw[sortedHeap_old (Qj lt1) (by rw[Zu];exact XW lt1)];exact Q3 _ g1
 have hq:qa.toList.length=ps.length:=by rw[QY,a1.1.sz]
 have rv:=lP as;have gd:∀i,i<as.length->(as.map V.ref).getD i .non=.ref (as.getD i 0):=fun i hi=>by
  simp[Q9,Q4 hi]
 have el:(qa.toList.map fun i=>(as.map V.ref).getD i .non)=qa.toList.map fun i=>V.ref (as.getD i 0):=XE fun i hi=>gd i (by rw[las];exact dD a1.1 i hi);refine Q6 ⟨_,rfl,.ref h'.objs.size,_,Inv.laid (s:={ s with heap:=h',toks:=tk }) (o:=.lst (qa.toList.map fun i=>.ref (as.getD i 0))) (t':=tk) I2 old (QJ _) ⟨by rw[QX,hq];unfold sizeLine;omega,_,e,?_,ge⟩,rfl,q as _ qa (I2.hok.fresh (QJ _)) las hH a1⟩;rw[<-el];exact gM rv qa.toList (by rw[QX,las];exact dD a1.1)
open Classical in
def fO(ps:List (List Int)):List (List Int):=if h:∃L:List (List Int),L.Pairwise (fun a b=>ltR a b=true)/\∀x,x∈L↔x∈ps then h.choose else[]
theorem oU:∀{L M:List (List Int)},L.Pairwise (fun a b=>ltR a b=true)->M.Pairwise (fun a b=>ltR a b=true)->(∀x,x∈L↔x∈M)->L=M
 |[],[],_,_,_=>rfl
 |[],m::M,_,_,h=>by have:=(h m).mpr QB;cases this
 |l::L,[],_,_,h=>by have:=(h l).mp QB;cases this
 |l::L,m::M,h1,h2,h=>by
  obtain⟨a1,b1⟩:=Zg.mp h1;obtain⟨a2,b2⟩:=Zg.mp h2;have e:l=m:=by
   rcases Qk.mp ((h l).mp QB)with z|z
   ·exact z
   ·rcases Qk.mp ((h m).mpr QB)with y|y
    ·exact y.symm
    ·have p1:=a2 l z;rw[mz (a1 m y)]at p1;cases p1
  subst e;congr 1;refine oU b1 b2 fun x=>⟨fun hx=>?_,fun hx=>?_⟩
  ·rcases Qk.mp ((h x).mp (QF _ hx))with z|z
   ·subst z;have:=a1 x hx;rw[jP]at this;cases this
   ·exact z
  ·rcases Qk.mp ((h x).mpr (QF _ hx))with z|z
   ·subst z;have:=a2 x hx;rw[jP]at this;cases this
   ·exact z
theorem yn{L ps:List (List Int)}(h1:L.Pairwise (fun a b=>ltR a b=true))(h2:∀x,x∈L↔x∈ps):fO ps=L:=by
 have h:∃L:List (List Int),L.Pairwise (fun a b=>ltR a b=true)/\∀x,x∈L↔x∈ps:=⟨L,h1,h2⟩;unfold fO;rw[dif_pos h];obtain⟨k1,k2⟩:=h.choose_spec;exact oU k1 h1 fun x=>(k2 x).trans (h2 x).symm
theorem oV{ps:List (List Int)}{q:Array Nat}(h:G7 ps q):fO ps=q.toList.map fun i=>ps.getD i []:=by
 obtain⟨P,A⟩:=h;have hl:q.toList.length=ps.length:=by rw[QY,P.sz]
 have gd:∀i (hi:i<q.toList.length),q.getD i 0=q.toList[i]:=fun i hi=>by
  have hi':i<q.size:=by simpa using hi
  rw[ZC,QR hi',Array.getElem_toList];rfl
 have h1:(q.toList.map fun i=>ps.getD i []).Pairwise (fun a b=>ltR a b=true):=by
  rw[Ql];intro i j hi hj hij;rw[QX]at hi hj;rw[List.getElem_map,List.getElem_map,<-gd i hi,<-gd j hj];exact A i j hij (by omega)
 have nd:(q.toList.map fun i=>ps.getD i []).Nodup:=h1.imp fun{a b} h e=>by subst e;rw[jP]at h;cases h
 have sub:∀x∈q.toList.map fun i=>ps.getD i [],x∈ps:=fun x hx=>by
  obtain⟨i,hi,rfl⟩:=Qc.mp hx;have:=dD P i hi;rw[Q9,Q4 this];exact ZR this
 refine yn h1 fun x=>⟨sub x,fun hx=>?_⟩;refine Classical.byContradiction fun hn=>?_;have:=List.Nodup.length_le_of_subset (Zb.mpr ⟨hn,nd⟩) (l₂:=ps) fun y hy=>by
  rcases Qk.mp hy with z|z
  ·rw[z];exact hx
  ·exact sub y z
 rw[QH,QX,hl]at this;omega
def rwU(p:List Int):U:=.tup (p.map U.int)
def sO:List U->Option (List (List Int))
 |[]=>some []
 |.tup us::r=>(mG us).bind fun p=>(sO r).map (p::·)
 |_=>none
theorem nF:∀ps:List (List Int),sO (ps.map rwU)=some ps
 |[]=>rfl
 |p::ps=>by rw[Qx,rwU,sO,dW,QQ,nF ps];rfl
theorem qJ:∀{us:List U} {ps:List (List Int)},sO us=some ps->us=ps.map rwU
 |[],ps,h=>by cases h;rfl
 |u::us,ps,h=>by
  cases u with
  |tup ws=>
   rw[sO]at h;obtain⟨p,e1,h⟩:=Q2.mp h;obtain⟨qs,e2,h⟩:=Qs.mp h;subst h;rw[Qx,<-qJ e2,iD e1];rfl
  |_=>cases h
noncomputable def zv:List Key->Option (List Int)
 |[]=>some []
 |.inl i::r=>(zv r).map (i::·)
 |_=>none
theorem rK:∀{ks:List Key} {ns:List Int},zv ks=some ns->ks=ns.map Sum.inl
 |[],ns,h=>by cases h;rfl
 |.inl i::r,ns,h=>by
  rw[zv]at h;obtain⟨qs,e2,h⟩:=Qs.mp h;subst h;rw[Qx,<-rK e2]
 |.inr x::r,ns,h=>by cases h
def sP:List (List Key×U)->Option (List (List Int))
 |[]=>some []
 |(ks,_)::r=>(zv ks).bind fun p=>(sP r).map (p::·)
theorem qK:∀{kus:List (List Key×U)} {ps:List (List Int)},sP kus=some ps->kus.map (·.1)=ps.map fun p=>p.map Sum.inl
 |[],ps,h=>by cases h;rfl
 |(ks,u)::us,ps,h=>by
  rw[sP]at h;obtain⟨p,e1,h⟩:=Q2.mp h;obtain⟨qs,e2,h⟩:=Qs.mp h;subst h;rw[Qx,Qx,<-qK e2,rK e1]
open Classical in
def dE:Fn
 |[.ref l],S=>match S[l]? with
  |some (.lst us)=>(sO us).bind fun ps=>if (∀p∈ps,p≠[])/\ps.Nodup/\ps.length<64 then some (.ref S.length,S++[.lst ((fO ps).map rwU)])else none
  |some (.dit kus)=>(sP kus).bind fun ps=>if (∀p∈ps,p≠[])/\ps.Nodup/\ps.length<64 then some (.ref S.length,S++[.lst ((fO ps).map rwU)])else none
  |_=>none
 |_,_=>none
theorem Aw:∀{ys:List V} {ps:List (List Int)},IsL K m H ys (ps.map rwU)->RwL K H ys ps
 |ys,[],h=>by rw[h.of_nil];trivial
 |ys,p::ps,h=>by
  obtain⟨y,r,rfl,i,t⟩:=h.of_cons;obtain⟨a,xs,rfl,hs,il⟩:=i.of_tup;have e:xs=p.map V.int:=IsL.ints il;subst e;exact⟨⟨a,rfl,hs⟩,Aw t⟩
theorem uP:∀{ys:List V} {ps:List (List Int)} {i:Nat},RwL K H ys ps->i<ps.length->Is K m H (ys.getD i .non) (rwU (ps.getD i []))
 |[],[],i,_,h=>by simp at h
 |y::ys,p::ps,0,k,_=>by
  obtain⟨a,e,hs⟩:=k.1;show Is K m H y (rwU p);rw[e];exact .tup_ hs (fN p)
 |y::ys,p::ps,i+1,k,h=>by
  show Is K m H (ys.getD i .non) (rwU (ps.getD i []));exact uP k.2 (by simpa using h)
 |[],_::_,_,k,_=>k.elim
 |_::_,[],_,k,_=>k.elim
theorem uN{ys:List V}{ps:List (List Int)}(k:RwL K H ys ps):∀is:List Nat,(∀i∈is,i<ps.length)->IsL K m H (is.map fun i=>ys.getD i .non) (is.map fun i=>rwU (ps.getD i []))
 |[],_=>.nil_
 |i::is,h=>.cons_ (uP k (h i QB)) (uN k is fun j hj=>h j (QF _ hj))
theorem xy{as:List Addr}{ps:List (List Int)}(la:as.length=ps.length)(hH:∀(i:Nat) (a:Addr) (p:List Int),as[i]?=some a->ps[i]?=some p->H a=some (.tup (p.map V.int))):∀is:List Nat,(∀i∈is,i<ps.length)->IsL K m H (is.map fun i=>V.ref (as.getD i 0)) (is.map fun i=>rwU (ps.getD i []))
 |[],_=>.nil_
 |i::is,h=>by
  have hi:=h i QB;have hi':i<as.length:=by rw[la];exact hi
  refine .cons_ ?_ (xy la hH is fun j hj=>h j (QF _ hj));have e1:as.getD i 0=as[i]:=by rw[Q9,Q4 hi'];rfl
  have e2:ps.getD i []=ps[i]:=by rw[Q9,Q4 hi];rfl
  show Is K m H (V.ref (as.getD i 0)) (rwU (ps.getD i []));rw[e1,e2];exact .tup_ (SqT.of (hH i _ _ (Q4 hi') (Q4 hi))) (fN _)
theorem kX{X:Cx}(hc:X.calm=true):bX X (.builtin "sorted") (fun xs H Q=>mi X.K xs H Q\/mf xs H Q):=vE.or (vC hc)
theorem nM{K:Q5}:gJ K (fun xs H Q=>mi K xs H Q\/mf xs H Q) dE:=by
 intro m S H us vs u S' Q sr i hf post;match us,hf with
 |[.ref l],hf=>
  obtain⟨v,rfl,iv⟩:=i.one;obtain⟨a,ha,rfl⟩:=iv.of_ref;simp only[dE]at hf;split at hf<;>try cases hf
  ·rename_i ws hS;obtain⟨ps,hn,h⟩:=Q2.mp hf;split at h<;>try cases h
   have hc:(∀p∈ps,p≠[])/\ps.Nodup/\ps.length<64:=by assumption
   obtain⟨a',ha',xs,hx,la⟩:=sr.get hS;rw[ha]at ha';cases ha';rw[qJ hn]at la;have pr:=Aw la;refine .inl ⟨a,xs,ps,rfl,SqL.of hx,pr,hc.1,hc.2.1,hc.2.2,fun p q hp aq=>?_⟩;have il:=uN (m:=m) pr q.toList (dD aq.1);have e:(q.toList.map fun i=>rwU (ps.getD i []))=(fO ps).map rwU:=by rw[oV aq,Qe];rfl
   rw[e]at il;exact bA sr il post hp
  ·rename_i ws hS;obtain⟨ps,hn,h⟩:=Q2.mp hf;split at h<;>try cases h
   have hc:(∀p∈ps,p≠[])/\ps.Nodup/\ps.length<64:=by assumption
   obtain⟨a',ha',kvs,hx,ip⟩:=sr.get hS;rw[ha]at ha';cases ha';refine .inr ⟨a,kvs,ps,rfl,hx,ip.1.trans (qK hn),hc.1,hc.2.1,hc.2.2,fun as p q hp las hH aq=>?_⟩;have il:=xy (m:=m) (K:=K) las hH q.toList (dD aq.1);have e:(q.toList.map fun i=>rwU (ps.getD i []))=(fO ps).map rwU:=by rw[oV aq,Qe];rfl
   rw[e]at il;exact bA sr il post hp
def qC(K:Q5):Sp:=fun vs H Q _=>∃(a:Addr) (ns:List Int),vs=[.ref a]/\KL K H a ns/\ns.length<=63/\∀H',Q (.bl true) H'
theorem IT{K:Q5}{H:Hp}{a:Addr}{ns:List Int}(hO:Hl H)(h:SqL K H a (ns.map V.int)):KL K H a ns:=by
 rcases h with(h|h)|h
 ·rcases hO a with e|⟨o,xs,e⟩
  ·rw[e]at h;cases h
  ·rw[e]at h;cases h
 ·exact .inl h
 ·exact .inr h
theorem zm{K:Q5}{H:Hp}{a:Addr}{ns:List Int}{c:CS}{r:Rho}{σ:L2.St}{Q:VK}{nx bk ct:L2.St->Hp->Prop}(h:KL K H a ns)
  (ok:∃ρ' S',c (some (.kl ns)::r) []=some (.rt (.bl true),ρ',S')) (q:∀H',Q (.bl true) H')
  (hr:r=Za r.length none:=by rfl) (hl:σ.length=r.length:=by rfl):tS K c { nx:=nx,rt:=Q,bk:=bk,ct:=ct } (some (.ref a)::σ) H:=by
 obtain⟨ρ',S',e⟩:=ok;refine⟨[],_,_,_,ρ',S',⟨rfl,List.nodup_nil,fun l ad o e1 e2=>by simp at e1⟩,⟨by simp[hl],fun i u e1=>?_⟩,e,fun m' v H' _ _ iv=>by rw[iv.of_bl];exact q H'⟩;cases i with
 |zero=>
  simp at e1;subst e1;exact⟨.ref a,rfl,.kl_ h⟩
 |succ i=>
  simp only[Qd]at e1;rw[hr,XF]at e1;split at e1<;>cases e1
theorem HF{ns:List Int}{i:Int}{S:Sto}:fIx (.kl ns) (.int i) S=(atI (ns.map U.int) i).bind fun u=>some (u,S):=rfl
theorem t7{ns:List Int}{S:Sto}:jn [.kl ns] S=some (.int ns.length,S):=rfl
def AB:List V->Hp->VK->Prop:=fun xs H Q=>∃(d:Addr) (kvs:List (Key×V)),xs=[.ref d]/\H d=some (.dK kvs)/\∀l,H l=none->Q (.ref l) (upd H l (.lst (kvs.map fun p=>kV p.1)))
theorem uy{n:Nat}{ks:List Key}:∀{vs:List Value},vs.length=ks.length->(∀(i:Nat) (v:Value),vs[i]?=some v->∃k,ks[i]?=some k/\mD k v=true)->aX (ks.map kV) vs:=by
 induction ks with
 |nil=>intro vs hl _;rw[List.length_eq_zero_iff.mp hl];exact .nil
 |cons k ks ih=>
  intro vs hl h;cases vs with
  |nil=>simp at hl
  |cons v vs=>
   refine .cons ?_ (ih (by simpa using hl) fun i v' e=>by
    obtain⟨k',h1,h2⟩:=h (i+1) v' (by simpa using e);exact⟨k',by simpa using h1,h2⟩)
   obtain⟨k',h1,h2⟩:=h 0 v rfl;simp at h1;subst h1;rcases aU h2 with⟨j,t,e6,e7⟩|⟨j,t,e6,e7⟩
   ·subst e6;subst e7;exact⟨t,rfl⟩
   ·subst e6;subst e7;exact⟨t,rfl⟩
theorem C6(hc:X.calm=true):bX X (.type "list") AB:=by
 rintro pins s σ H xs us Q I r ⟨d,kvs,rfl,hD,q⟩;obtain⟨u,rfl,ru⟩:=eS r;cases ru;obtain⟨z,hd,vs,rel,dd⟩:=DG I.hok hD;obtain⟨ep,da⟩:=dd.dictAt;have lv:vs.length=kvs.length:=(Paired.length rel).symm;refine kdl_call (kdl_dict (kvs:=vs) (ep:=ep) hd) (I.ok.hd hc) da (by rw[lv];exact z) fun h' tk acc c up gl hac=>?_;have hks:vs.map (·.1)=kvs.map (·.1):=(pN rel);have hv:aX (kvs.map fun p=>kV p.1) acc.toList:=by
  have:=uy (n:=0) (ks:=kvs.map (·.1)) (vs:=acc.toList) (by rw[QY,hac.1,QX,lv]) fun i v e=>by
   obtain⟨k,x,e1,e2⟩:=hac.2 i v (by rw[<-QC];exact e);exact⟨k,by rw[<-hks,Qb,e1];rfl,e2⟩
  rw[Qe]at this;exact this
 refine⟨.ref s.heap.objs.size,_,I.laid (o:=.lst (kvs.map fun p=>kV p.1)) (t':=tk) up (QJ _) ⟨by rw[QX];exact z,_,c,hv,by rw[gl]⟩,rfl,q _ (I.hok.fresh (QJ _))⟩
def oy:Fn
 |[.ref l],S=>match S[l]? with
  |some (.dic kus)=>some (.ref S.length,S++[.lst (kus.map fun p=>kU p.1)])
  |_=>none
 |_,_=>none
theorem n6{m:List Addr}{H:Hp}:∀ks:List Key,IsL K m H (ks.map kV) (ks.map kU)
 |[]=>.nil_
 |k::ks=>.cons_ (AV k) (n6 ks)
theorem CV:gJ K AB oy:=by
 intro m S H us vs u S' Q sr i hf post;match us,hf with
 |[.ref l],hf=>
  obtain⟨v,rfl,iv⟩:=i.one;obtain⟨a,ha,rfl⟩:=iv.of_ref;simp only[oy]at hf;split at hf<;>try cases hf
  rename_i kus hS;obtain⟨a',ha',kvs,hx,ip⟩:=sr.get hS;rw[ha]at ha';cases ha';refine⟨a,kvs,rfl,hx,fun p hp=>?_⟩;have e1:(kvs.map fun p=>kV p.1)=(kus.map (·.1)).map kV:=by rw[<-ip.1,Qe];rfl
  have e2:(kus.map fun p=>kU p.1)=(kus.map (·.1)).map kU:=by rw[Qe];rfl
  rw[e1];have il:IsL K m H ((kus.map (·.1)).map kV) (kus.map fun p=>kU p.1):=by rw[e2];exact n6 _
  exact bA sr il post hp
variable{M:Model}{σ:Type}
theorem bT{β:Type}{f:Nat->β->StateT σ Sem (ForInStep β)}{Q:β->σ->Shared->Prop}{s:Shared}(I:Nat->β->σ->Prop)
  (step:∀x k b st,I (k+1) b st->kasC M A E (f x b) (fun r st' s'=>match r with|.done b'=>Q b' st' s'|.yield b'=>I k b' st'/\s'=s) st s)
  (fin:∀b st,I 0 b st->Q b st s):∀(l:List Nat) (b:β) (st:σ),I l.length b st->kasC M A E (forIn l b f) Q st s
 |[],b,st,h=>kasC_nil (fin b st h)
 |x::l,b,st,h=>by
  refine kasC_cons ?_;have:=step x l.length b st h;unfold kasC at this ⊢;refine ZE this (fun r s' h'=>?_) fun _ _ e=>e;obtain⟨r,st'⟩:=r;cases r with
  |done b'=>exact h'
  |yield b'=>
   obtain⟨h1,rfl⟩:=h';exact bT I step fin l b' st' h1
def Dp:Bool->Keyed->Array Keyed->Nat->Nat->Nat->StateT SortSt Sem (Option Nat):=sortPriv% PySem.Builtin.gallop
variable{κ:SortKind}{LT:Keyed->Keyed->Bool}
section
variable{X:Keyed->Prop}
def sk(prog:Program)(w:World)(A:Around)(E:Value->Shared->Prop)(s:Shared)(κ:SortKind)(LT:Keyed->Keyed->Bool)(X:Keyed->Prop):Prop:=
 ∀x y st (Q:Option Bool->SortSt->Shared->Prop),X x->X y->Rows.kindOf st=κ->Q (some (LT x y)) st s->kasC (model prog w) A E (lt' x y) Q st s
def bey(LT:Keyed->Keyed->Bool)(left:Bool)(key x:Keyed):Bool:=if left then LT x key else !LT key x
theorem aW{arr:Array Keyed}{i:Nat}{x:Keyed}{st:SortSt}{Q:Keyed->SortSt->Shared->Prop}(h:arr[i]?=some x)(q:Q x st s):kasC (model prog w) A E (elem' arr i) Q st s:=by
 rw[elem'_eq,h];exact kasC_pure q
theorem GS(hl:sk prog w A E s κ LT X){left:Bool}{key x:Keyed}{arr:Array Keyed}{i:Nat}{st:SortSt}{Q:Option Bool->SortSt->Shared->Prop}(hx:arr[i]?=some x)(x1:X x)(x2:X key)(hk:Rows.kindOf st=κ)(q:Q (some (bey LT left key x)) st s) :
  kasC (model prog w) A E (elem' arr i >>= fun x=>if left=true then lt' x key else lt' key x >>= fun r=>pure (Option.map (fun x=>!x) r)) Q st s:=by
 refine kasC_bind (aW hx ?_);cases left with
 |true=>exact hl x key st Q x1 x2 hk q
 |false=>exact kasC_bind (hl key x st _ x2 x1 hk (kasC_pure q))
theorem a9{α:Type}{m:StateT SortSt Sem α}{Q Q':α->SortSt->Shared->Prop}{st:SortSt}(h:kasC (model prog w) A E m Q' st s)(hq:∀a st' s',Q' a st' s'->Q a st' s'):kasC (model prog w) A E m Q st s:=by
 unfold kasC at h ⊢;exact ZE h (fun r s' h'=>hq _ _ _ h') fun _ _ e=>e
theorem rZ{f:Nat->Option (Option Nat)×Nat×Nat->StateT SortSt Sem (ForInStep (Option (Option Nat)×Nat×Nat))}{B:Nat->Bool}{n:Nat}{st:SortSt}
  (hd:∀x lo hi,lo≥hi->∀R:_->SortSt->Shared->Prop,R (.done (none,lo,hi)) st s->kasC (model prog w) A E (f x (none,lo,hi)) R st s)
  (hf:∀x lo hi,lo<hi->hi<=n->∀R:_->SortSt->Shared->Prop,R (if B (lo+(hi-lo) / 2)=true then .yield (none,lo+(hi-lo) / 2+1,hi)else .yield (none,lo,lo+(hi-lo) / 2)) st s->kasC (model prog w) A E (f x (none,lo,hi)) R st s)
  (up:∀k,k<n->B k=true->∀i,i<k+1->B i=true) (dn:∀k,k<n->B k=false->∀i,k<=i->i<n->B i=false)
  {l:List Nat} {lo hi:Nat} (hl:hi-lo<=l.length) (h1:lo<=hi) (h2:hi<=n) (h3:∀i,i<lo->B i=true) (h4:∀i,hi<=i->i<n->B i=false) {Q:_->SortSt->Shared->Prop}
  (q:∀k,k<=n->(∀i,i<k->B i=true)->(∀i,k<=i->i<n->B i=false)->Q (none,k,k) st s):kasC (model prog w) A E (forIn l (none,lo,hi) f) Q st s:=by
 refine bT (fun k b st'=>st'=st/\∃lo hi,b=(none,lo,hi)/\hi-lo<=k/\lo<=hi/\hi<=n/\(∀i,i<lo->B i=true)/\∀i,hi<=i->i<n->B i=false) (fun x k b st' h=>?_) (fun b st' h=>?_) l _ _ ⟨rfl,lo,hi,rfl,hl,h1,h2,h3,h4⟩
 ·obtain⟨rfl,lo,hi,rfl,a1,a2,a3,a4,a5⟩:=h;by_cases e:lo≥hi
  ·have:lo=hi:=by omega
   subst this;exact hd x lo lo e _ (q lo a3 a4 a5)
  ·refine hf x lo hi (by omega) a3 _ ?_;cases hB:B (lo+(hi-lo) / 2)with
   |true=>rw[if_pos rfl];exact⟨⟨rfl,_,_,rfl,by omega,by omega,a3,up _ (by omega) hB,a5⟩,rfl⟩
   |false=>rw[if_neg (by decide)];exact⟨⟨rfl,_,_,rfl,by omega,by omega,by omega,a4,dn _ (by omega) hB⟩,rfl⟩
 ·obtain⟨rfl,lo,hi,rfl,a1,a2,a3,a4,a5⟩:=h;have:lo=hi:=by omega
  subst this;exact q lo a3 a4 a5
theorem lq(hl:sk prog w A E s κ LT X){left:Bool}{key:Keyed}{arr:Array Keyed}{base n hint:Nat}{g:Nat->Keyed}{st:SortSt}{Q:Option Nat->SortSt->Shared->Prop}(hk:Rows.kindOf st=κ)(xk:X key)(hg:∀i,i<n->arr[base+i]?=some (g i)/\X (g i))(hh:hint<n)(mono:∀i j,i<=j->j<n->bey LT left key (g j)=true->bey LT left key (g i)=true)
  (q:∀k,k<=n->(∀i,i<k->bey LT left key (g i)=true)->(∀i,k<=i->i<n->bey LT left key (g i)=false)->Q (some k) st s):kasC (model prog w) A E (Dp left key arr base n hint) Q st s:=by
 have ask:∀i,i<n->∀(Q:Option Bool->SortSt->Shared->Prop),Q (some (bey LT left key (g i))) st s->kasC (model prog w) A E (elem' arr (base+i) >>= fun x=>if left=true then lt' x key else lt' key x >>= fun r=>pure (Option.map (fun x=>!x) r)) Q st s:=fun i hi Q h=>GS hl (hg i hi).1 (hg i hi).2 xk hk h;have lo_:∀k,k<n->bey LT left key (g k)=true->∀i,i<k+1->bey LT left key (g i)=true:=fun k hk h i hi=>mono i k (by omega) hk h;have hi_:∀k,k<n->bey LT left key (g k)=false->∀i,k<=i->i<n->bey LT left key (g i)=false:=fun k hk h i hi hn=>by
  cases hb:bey LT left key (g i)with
  |false=>rfl
  |true=>rw[mono k i hi hn hb]at h;cases h
 refine kasC_bind (ask hint hh _ ?_);cases hB:bey LT left key (g hint)with
 |true=>
  dsimp only;rw[if_pos rfl];refine kasC_bind (kasC_range (a9 (Q':=fun b st' s'=>st'=st/\s'=s/\∃la o,b=(none,la,o)/\hint+la<n/\bey LT left key (g (hint+la))=true/\la<o/\(n-hint<=o\/(hint+o<n/\bey LT left key (g (hint+o))=false))) ?_ ?_))
  ·refine bT (fun k b st'=>st'=st/\∃la o,b=(none,la,o)/\hint+la<n/\bey LT left key (g (hint+la))=true/\la<o/\n+1<=o+k) (fun x k b st' h=>?_) (fun b st' h=>?_) _ _ _ ⟨rfl,0,1,rfl,hh,hB,by omega,by rw[Z0];omega⟩
   ·obtain⟨rfl,la,o,rfl,a1,a2,a3,a4⟩:=h;dsimp only;by_cases e:o≥n-hint
    ·rw[if_pos e];exact kasC_pure ⟨rfl,rfl,la,o,rfl,a1,a2,a3,.inl e⟩
    ·rw[if_neg e];refine kasC_bind (ask (hint+o) (by omega) _ ?_);cases hC:bey LT left key (g (hint+o))with
     |true=>exact kasC_pure ⟨⟨rfl,o,2*o+1,rfl,by omega,hC,by omega,by omega⟩,rfl⟩
     |false=>exact kasC_pure ⟨rfl,rfl,la,o,rfl,a1,a2,a3,.inr ⟨by omega,hC⟩⟩
   ·obtain⟨rfl,la,o,rfl,a1,a2,a3,a4⟩:=h;exact⟨rfl,rfl,la,o,rfl,a1,a2,a3,.inl (by omega)⟩
  ·rintro b st' s' ⟨rfl,rfl,la,o,rfl,a1,a2,a3,a4⟩;dsimp only;refine kasC_bind (kasC_range (rZ (B:=fun i=>bey LT left key (g i)) (n:=n) (fun x lo hi h R hR=>?_) (fun x lo hi h1 h2 R hR=>?_) lo_ hi_ (by rw[Z0];omega) (by omega) (by omega) (lo_ _ a1 a2) (fun i h1 h2=>?_) fun k k1 k2 k3=>?_))
   ·dsimp only;rw[if_pos h];exact kasC_pure hR
   ·dsimp only;rw[if_neg (by omega)];refine kasC_bind (ask _ (by omega) _ ?_);dsimp only at hR ⊢;cases hC:bey LT left key (g (lo+(hi-lo) / 2))with
    |true=>rw[hC]at hR;exact kasC_pure hR
    |false=>rw[hC]at hR;exact kasC_pure hR
   ·rcases a4 with a4|⟨a4,a5⟩
    ·omega
    ·exact hi_ _ a4 a5 i (by omega) h2
   ·exact kasC_pure (q k k1 k2 k3)
 |false=>
  dsimp only;rw[if_neg (by decide)];refine kasC_bind (kasC_range (a9 (Q':=fun b st' s'=>st'=st/\s'=s/\∃la o,b=(none,la,o)/\la<=hint/\bey LT left key (g (hint-la))=false/\la<o/\(hint+1<=o\/(o<=hint/\bey LT left key (g (hint-o))=true))) ?_ ?_))
  ·refine bT (fun k b st'=>st'=st/\∃la o,b=(none,la,o)/\la<=hint/\bey LT left key (g (hint-la))=false/\la<o/\n+1<=o+k) (fun x k b st' h=>?_) (fun b st' h=>?_) _ _ _ ⟨rfl,0,1,rfl,by omega,hB,by omega,by rw[Z0];omega⟩
   ·obtain⟨rfl,la,o,rfl,a1,a2,a3,a4⟩:=h;dsimp only;by_cases e:o≥hint+1
    ·rw[if_pos e];exact kasC_pure ⟨rfl,rfl,la,o,rfl,a1,a2,a3,.inl e⟩
    ·rw[if_neg e];refine kasC_bind (ask (hint-o) (by omega) _ ?_);cases hC:bey LT left key (g (hint-o))with
     |true=>exact kasC_pure ⟨rfl,rfl,la,o,rfl,a1,a2,a3,.inr ⟨by omega,hC⟩⟩
     |false=>exact kasC_pure ⟨⟨rfl,o,2*o+1,rfl,by omega,hC,by omega,by omega⟩,rfl⟩
   ·obtain⟨rfl,la,o,rfl,a1,a2,a3,a4⟩:=h;exact⟨rfl,rfl,la,o,rfl,a1,a2,a3,.inl (by omega)⟩
  ·rintro b st' s' ⟨rfl,rfl,la,o,rfl,a1,a2,a3,a4⟩;dsimp only;refine kasC_bind (kasC_range (rZ (B:=fun i=>bey LT left key (g i)) (n:=n) (fun x lo hi h R hR=>?_) (fun x lo hi h1 h2 R hR=>?_) lo_ hi_ (by rw[Z0];omega) (by omega) (by omega) (fun i h1=>?_) (fun i h1 h2=>hi_ _ (by omega) a2 i (by omega) h2) fun k k1 k2 k3=>?_))
   ·dsimp only;rw[if_pos h];exact kasC_pure hR
   ·dsimp only;rw[if_neg (by omega)];refine kasC_bind (ask _ (by omega) _ ?_);dsimp only at hR ⊢;cases hC:bey LT left key (g (lo+(hi-lo) / 2))with
    |true=>rw[hC]at hR;exact kasC_pure hR
    |false=>rw[hC]at hR;exact kasC_pure hR
   ·rcases a4 with a4|⟨a4,a5⟩
    ·omega
    ·exact lo_ _ (by omega) a5 i (by omega)
   ·exact kasC_pure (q k k1 k2 k3)
end
variable{α:Type}{i j k:Nat}
section
variable{LT:α->α->Bool}{a b o:List α}
def cL(LT:α->α->Bool)(l:List α):Prop:=l.Pairwise fun x y=>LT x y=true
structure MgI(LT:α->α->Bool)(a b o:List α)(i j:Nat):Prop where
 pm:(o++(a.drop i++b.drop j)).Perm (a++b)
 as:cL LT o
 lo:∀x∈o,∀y∈a.drop i++b.drop j,LT x y=true
theorem MgI.start:MgI LT a b [] 0 0:=⟨.refl _,List.Pairwise.nil,fun _ h=>by cases h⟩
theorem Ba{l:List α}(h:cL LT l)(i k:Nat):cL LT ((l.drop i).take k)/\∀x∈(l.drop i).take k,∀y∈l.drop (i+k),LT x y=true:=by
 have h1:cL LT (l.drop i):=List.Pairwise.sublist (Zn _ _) h;rw[<-ZK k (l.drop i)]at h1;obtain⟨h2,h3,h4⟩:=Qh.mp h1;refine⟨h2,fun x hx y hy=>h4 x hx y ?_⟩;rw[List.drop_drop];exact hy
theorem MgI.takeA(M:MgI LT a b o i j)(ha:cL LT a)(h:∀x∈(a.drop i).take k,∀y∈b.drop j,LT x y=true):MgI LT a b (o++(a.drop i).take k) (i+k) j:=by
 obtain⟨t1,t2⟩:=Ba ha i k;have e:(a.drop i).take k++a.drop (i+k)=a.drop i:=by rw[<-List.drop_drop];exact ZK _ _
 refine⟨?_,Qh.mpr ⟨M.as,t1,fun x hx y hy=>M.lo x hx y (Qm _ (X3 hy))⟩,fun x hx y hy=>?_⟩
 ·have:=M.pm;rw[<-e]at this;simpa only[Q8] using this
 ·rcases QN.mp hx with hx|hx
  ·refine M.lo x hx y ?_;rcases QN.mp hy with hy|hy
   ·rw[<-e];exact Qm _ (QL _ hy)
   ·exact QL _ hy
  ·rcases QN.mp hy with hy|hy
   ·exact t2 x hx y hy
   ·exact h x hx y hy
theorem MgI.takeB(M:MgI LT a b o i j)(hb:cL LT b)(h:∀x∈(b.drop j).take k,∀y∈a.drop i,LT x y=true):MgI LT a b (o++(b.drop j).take k) i (j+k):=by
 obtain⟨t1,t2⟩:=Ba hb j k;have e:(b.drop j).take k++b.drop (j+k)=b.drop j:=by rw[<-List.drop_drop];exact ZK _ _
 refine⟨?_,Qh.mpr ⟨M.as,t1,fun x hx y hy=>M.lo x hx y (QL _ (X3 hy))⟩,fun x hx y hy=>?_⟩
 ·refine List.Perm.trans ?_ M.pm;rw[Q8];refine List.Perm.append_left o ?_;refine List.Perm.trans ?_ (List.Perm.append_left _ (List.Perm.of_eq e));rw[<-Q8,<-Q8];exact List.Perm.append_right _ List.perm_append_comm
 ·rcases QN.mp hx with hx|hx
  ·refine M.lo x hx y ?_;rcases QN.mp hy with hy|hy
   ·exact Qm _ hy
   ·rw[<-e];exact QL _ (QL _ hy)
  ·rcases QN.mp hy with hy|hy
   ·exact h x hx y hy
   ·exact t2 x hx y hy
theorem MgI.done(M:MgI LT a b o i j)(ha:cL LT a)(hb:cL LT b)(h:∀x∈a.drop i,∀y∈b.drop j,LT x y=true):(o++(a.drop i++b.drop j)).Perm (a++b)/\cL LT (o++(a.drop i++b.drop j)):=
 ⟨M.pm,Qh.mpr ⟨M.as,Qh.mpr ⟨List.Pairwise.sublist (Zn _ _) ha,List.Pairwise.sublist (Zn _ _) hb,h⟩,M.lo⟩⟩
theorem MgI.last(M:MgI LT a b o i j)(ha:cL LT a)(hb:cL LT b)(h:∀x∈b.drop j,∀y∈a.drop i,LT x y=true):(o++(b.drop j++a.drop i)).Perm (a++b)/\cL LT (o++(b.drop j++a.drop i)):=
 ⟨(List.Perm.append_left o List.perm_append_comm).trans M.pm,Qh.mpr ⟨M.as,Qh.mpr ⟨List.Pairwise.sublist (Zn _ _) hb,List.Pairwise.sublist (Zn _ _) ha,h⟩,fun x hx y hy=>M.lo x hx y (QN.mpr (QN.mp hy).symm)⟩⟩
end
def zd:Array Keyed->Array Keyed->StateT SortSt Sem (Array Keyed):=sortPriv% PySem.Builtin.mergeLo
def ze:Array Keyed->Array Keyed->StateT SortSt Sem (Array Keyed):=sortPriv% PySem.Builtin.mergeHi
variable{a b out:Array Keyed}
section
variable{X:Keyed->Prop}
def Gl(st st':SortSt):Prop:=∃g,st'=SortSt.mk' (Rows.kindOf st) (arrOf st) (pendingOf st) g (failedOf st)
theorem Gl.refl{st:SortSt}:Gl st st:=⟨gallopOf st,rfl⟩
theorem Gl.kind{st st':SortSt}(h:Gl st st'):Rows.kindOf st'=Rows.kindOf st:=by obtain⟨g,rfl⟩:=h;rfl
theorem Gl.trans{st st' st2:SortSt}(h:Gl st st')(h2:Gl st' st2):Gl st st2:=by obtain⟨g,rfl⟩:=h;obtain⟨g2,rfl⟩:=h2;exact⟨g2,rfl⟩
theorem sf{n i t:Nat}(h:t<n-i):i+t<n:=by omega
theorem xA{n i:Nat}(h:i<n):0<n-i:=by omega
theorem Jl{n i k:Nat}(h0:i<=n)(h:k<=n-i)(hn:¬i+k=n):i+k<n:=by omega
theorem DS{n i k:Nat}(h:i+k<n):k<n-i:=by omega
theorem Jm{n m i i1 j j1:Nat}(l1:i<=i1)(l2:j<=j1)(h1:i1+1<n):n-(i1+1)+(m-j1)+1<=n-i+(m-j):=by omega
theorem Jn{i i1 j j1:Nat}(c1:0<i1)(l1:i1<=i)(l2:j1<=j-1)(hj:1<j):i1-1+j1+1<=i+j:=by omega
theorem JY{i k:Nat}(h:k<=i)(e:¬i-k>0):k=i:=by omega
theorem dw{x y:Nat}(h:¬(x == y)=true):x≠y:=fun z=>h (by rw[z];exact beq_self_eq_true _)
theorem aV{l:Array Keyed}{i:Nat}(h:i<l.size):l[i]?=some (kas_item l i):=by
 unfold kas_item;simp[XX,h]
theorem ff{l:Array Keyed}{i:Nat}(h:i<l.size):l.toList.drop i=kas_item l i::l.toList.drop (i+1):=by
 rw[List.drop_eq_getElem_cons (by simpa using h)];congr 1;have:=aV h;simpa [h] using this
theorem aG{l:Array Keyed}{i:Nat}(h:i<l.size):kas_item l i∈l.toList:=ZF (i:=i) (by rw[ff h];exact QB)
theorem zt{l:Array Keyed}{i:Nat}{x:Keyed}(h:x∈l.toList.drop i):∃t,i+t<l.size/\x=kas_item l (i+t):=by
 obtain⟨t,ht,e⟩:=List.getElem_of_mem h;rw[Zs]at ht;have hz:i+t<l.size:=by simp at ht;omega
 refine⟨t,hz,?_⟩;rw[<-e,List.getElem_drop];have:=aV hz;simpa [hz] using this
theorem mE{l:Array Keyed}{i k:Nat}{x:Keyed}(h:x∈(l.toList.drop i).take k):∃t,t<k/\i+t<l.size/\x=kas_item l (i+t):=by
 obtain⟨t,ht,e⟩:=List.getElem_of_mem h;rw[Qp,Zs]at ht;have hz:i+t<l.size:=by simp at ht;omega
 refine⟨t,by omega,hz,?_⟩;rw[<-e,List.getElem_take,List.getElem_drop];have:=aV hz;simpa [hz] using this
theorem jd{l:Array Keyed}{i j:Nat}(h:cL LT l.toList)(hij:i<j)(hj:j<l.size):LT (kas_item l i) (kas_item l j)=true:=by
 have hi:i<l.size:=by omega
 have:=Ql.mp h i j (by simpa using hi) (by simpa using hj) hij;have e1:=aV hi;have e2:=aV hj;simp only[hi,hj,getElem?_pos,Option.some.injEq]at e1 e2;rw[<-e1,<-e2];simpa using this
theorem mL{l:Array Keyed}{i k:Nat}:(l.extract i (i+k)).toList=(l.toList.drop i).take k:=by
 simp
theorem jA{l:Array Keyed}{i:Nat}:(l.extract i l.size).toList=l.toList.drop i:=by
 simp only[Array.toList_extract];rw[List.extract_eq_take_drop,ZI (by simp)]
structure Two(LT:Keyed->Keyed->Bool)(X:Keyed->Prop)(a b:Array Keyed):Prop where
 aa:cL LT a.toList
 ab:cL LT b.toList
 xa:∀x∈a.toList,X x
 xb:∀x∈b.toList,X x
 tr:∀{x y z},X x->X y->X z->LT x y=true->LT y z=true->LT x z=true
 tot:∀x∈a.toList,∀y∈b.toList,LT y x=false->LT x y=true
 asym:∀x∈a.toList,∀y∈b.toList,LT x y=true->LT y x=false
 na:0<a.size
 nb:0<b.size
 fst:LT (kas_item b 0) (kas_item a 0)=true
 lst:LT (kas_item b (b.size-1)) (kas_item a (a.size-1))=true
theorem Two.leA(T:Two LT X a b){x:Keyed}(hx:X x)(hi:i<a.size)(h:LT x (kas_item a i)=true):∀y∈a.toList.drop i,LT x y=true:=fun y hy=>by
 obtain⟨t,ht,rfl⟩:=zt hy;by_cases e:t=0
 ·subst e;exact h
 ·exact T.tr hx (T.xa _ (aG hi)) (T.xa _ (aG ht)) h (jd T.aa (by omega) ht)
theorem Two.leB(T:Two LT X a b){x:Keyed}(hx:X x)(hj:j<b.size)(h:LT x (kas_item b j)=true):∀y∈b.toList.drop j,LT x y=true:=fun y hy=>by
 obtain⟨t,ht,rfl⟩:=zt hy;by_cases e:t=0
 ·subst e;exact h
 ·exact T.tr hx (T.xb _ (aG hj)) (T.xb _ (aG ht)) h (jd T.ab (by omega) ht)
theorem Two.bl(T:Two LT X a b):∀y∈b.toList,LT y (kas_item a (a.size-1))=true:=fun y hy=>by
 obtain⟨t,ht,rfl⟩:=zt (i:=0) hy;rw[X6]at ht ⊢;have na:=T.na;have nb:=T.nb;by_cases e:t=b.size-1
 ·subst e;exact T.lst
 ·exact T.tr (T.xb _ (aG ht)) (T.xb _ (aG (by omega))) (T.xa _ (aG (by omega))) (jd T.ab (by omega) (by omega)) T.lst
def oY(LT:Keyed->Keyed->Bool)(a b r:Array Keyed):Prop:=r.toList.Perm (a.toList++b.toList)/\cL LT r.toList
theorem Two.pushB(T:Two LT X a b)(M:MgI LT a.toList b.toList out.toList i j)(hi:i<a.size)(hj:j<b.size)(h:LT (kas_item b j) (kas_item a i)=true):MgI LT a.toList b.toList (out.push (kas_item b j)).toList i (j+1):=by
 have:=M.takeB (k:=1) T.ab (fun x hx=>by
  rw[ff hj,List.take_succ_cons,List.take_zero,Qg]at hx;subst hx;exact T.leA (T.xb _ (aG hj)) hi h)
 rw[ff hj,List.take_succ_cons,List.take_zero]at this;rw[Xq];exact this
theorem Two.pushA(T:Two LT X a b)(M:MgI LT a.toList b.toList out.toList i j)(hi:i<a.size)(hj:j<b.size)(h:LT (kas_item a i) (kas_item b j)=true):MgI LT a.toList b.toList (out.push (kas_item a i)).toList (i+1) j:=by
 have:=M.takeA (k:=1) T.aa (fun x hx=>by
  rw[ff hi,List.take_succ_cons,List.take_zero,Qg]at hx;subst hx;exact T.leB (T.xa _ (aG hi)) hj h)
 rw[ff hi,List.take_succ_cons,List.take_zero]at this;rw[Xq];exact this
theorem Two.takA(T:Two LT X a b)(M:MgI LT a.toList b.toList out.toList i j)(hj:j<b.size)(h:∀t,t<k->i+t<a.size->LT (kas_item b j) (kas_item a (i+t))=false):MgI LT a.toList b.toList (out++a.extract i (i+k)).toList (i+k) j:=by
 rw[ZY,mL];refine M.takeA T.aa fun x hx=>?_;obtain⟨t,h1,h2,rfl⟩:=mE hx;exact T.leB (T.xa _ (aG h2)) hj (T.tot _ (aG h2) _ (aG hj) (h t h1 h2))
theorem Two.takB(T:Two LT X a b)(M:MgI LT a.toList b.toList out.toList i j)(hi:i<a.size)(h:∀t,t<k->j+t<b.size->LT (kas_item b (j+t)) (kas_item a i)=true):MgI LT a.toList b.toList (out++b.extract j (j+k)).toList i (j+k):=by
 rw[ZY,mL];refine M.takeB T.ab fun x hx=>?_;obtain⟨t,h1,h2,rfl⟩:=mE hx;exact T.leA (T.xb _ (aG h2)) hi (h t h1 h2)
theorem Two.fin(T:Two LT X a b)(M:MgI LT a.toList b.toList out.toList i j)(hj:j=b.size):oY LT a b (out++a.extract i a.size++b.extract j b.size):=by
 have:=M.done T.aa T.ab (fun x _ y hy=>by rw[hj,List.drop_of_length_le (by simp)]at hy;cases hy);unfold oY;rw[ZY,ZY,jA,jA,Q8];exact this
theorem Two.finL(T:Two LT X a b)(M:MgI LT a.toList b.toList out.toList i j)(hi:i+1=a.size):oY LT a b (out++b.extract j b.size++a.extract i a.size):=by
 have:=M.last T.aa T.ab (fun x hx y hy=>by
  rw[ff (by omega),List.drop_of_length_le (by simp;omega),Qg]at hy;subst hy;have:=T.bl x (ZF hx);rw[show a.size-1=i by omega]at this;exact this)
 unfold oY;rw[ZY,ZY,jA,jA,Q8];exact this
theorem Two.monoF(T:Two LT X a b){key:Keyed}{i0:Nat}(xk:X key):∀i j,i<=j->j<a.size-i0->bey LT false key (kas_item a (i0+j))=true->bey LT false key (kas_item a (i0+i))=true:=fun i j hij hj h=>by
 by_cases e:i=j
 ·subst e;exact h
 ·unfold bey at h ⊢;simp only[Qr,if_false,Bool.not_eq_true']at h ⊢;cases hc:LT key (kas_item a (i0+i))with
  |false=>rfl
  |true=>rw[T.tr xk (T.xa _ (aG (by omega))) (T.xa _ (aG (by omega))) hc (jd T.aa (show i0+i<i0+j by omega) (by omega))]at h;cases h
theorem Two.monoT(T:Two LT X a b){key:Keyed}{i0:Nat}(xk:X key):∀i j,i<=j->j<b.size-i0->bey LT true key (kas_item b (i0+j))=true->bey LT true key (kas_item b (i0+i))=true:=fun i j hij hj h=>by
 by_cases e:i=j
 ·subst e;exact h
 ·exact T.tr (T.xb _ (aG (by omega))) (T.xb _ (aG (by omega))) xk (jd T.ab (show i0+i<i0+j by omega) (by omega)) h
theorem rD{α:Type}{F:Nat->Nat->StateT SortSt Sem α}{Q:α->SortSt->Shared->Prop}{st:SortSt}{c:Nat->Prop}{_:∀m,Decidable (c m)}(h:∀m n,kasC (model prog w) A E (F m n) Q st s):∀m n:Nat,kasC (model prog w) A E (if c m then F m n else F m m) Q st s:=fun m n=>by split<;>exact h _ _
theorem F3(hl:sk prog w A E s κ LT X)(T:Two LT X a b){st:SortSt}{Q:Array Keyed->SortSt->Shared->Prop}(hk:Rows.kindOf st=κ)(q:∀r st',Gl st st'->oY LT a b r->Q r st' s):kasC (model prog w) A E (zd a b) Q st s:=by
  have na:=T.na;have nb:=T.nb;refine kasC_bind (kasC_lift (XC ?_));refine kasC_bind (aW (aV nb) ?_);dsimp only;have M0:MgI LT a.toList b.toList (#[kas_item b 0]:Array Keyed).toList 0 1:=T.pushB (out:=#[]) MgI.start na nb T.fst;by_cases e1:(1 == b.size)=true
  · rw[if_pos e1]
    exact kasC_pure (q _ _ Gl.refl (T.fin M0 (eq_of_beq e1)))
  rw[if_neg e1];by_cases e2:(0+1 == a.size)=true
  · rw[if_pos e2]
    exact kasC_pure (q _ _ Gl.refl (T.finL M0 (eq_of_beq e2)))
  rw[if_neg e2];have b1:1<b.size:=by have:¬1=b.size:=fun z=>e1 (by rw[<-z];rfl);omega
  have a1:0+1<a.size:=by have:¬0+1=a.size:=fun z=>e2 (by rw[<-z];rfl);omega
  refine kasC_bind (kasC_get ?_);refine kasC_bind (kasC_range (a9 (Q':=fun c st' s'=>s'=s/\Gl st st'/\∃r rest,c=(some r,rest)/\oY LT a b r) ?_ ?_))
  · refine bT (fun k c st'=>Gl st st'/\∃out i j mg,c=(none,out,i,j,mg)/\MgI LT a.toList b.toList out.toList i j/\i+1<a.size/\j<b.size/\(a.size-i)+(b.size-j)+1<=k) (fun x k c st' h=>?_) (fun c st' h=>?_) _ _ _ ⟨Gl.refl,_,_,_,_,rfl,M0,a1,b1,by rw[Z0];omega⟩
    · obtain⟨gl,out,i,j,mg,rfl,M,hi,hj,hr⟩:=h
      refine kasC_bind (kasC_range (a9 (Q':=fun c st2 s2=>s2=s/\st2=st'/\((∃r rest,c=(some r,rest)/\oY LT a b r)\/∃out' i' j' ac bc,c=(none,out',i',j',ac,bc)/\MgI LT a.toList b.toList out'.toList i' j'/\i'+1<a.size/\j'<b.size/\(a.size-i')+(b.size-j')+1<=(a.size-i)+(b.size-j))) ?_ ?_))
      · refine bT (fun k c st2=>st2=st'/\∃out' i' j' ac bc,c=(none,out',i',j',ac,bc)/\MgI LT a.toList b.toList out'.toList i' j'/\i'+1<a.size/\j'<b.size/\(a.size-i')+(b.size-j')<=(a.size-i)+(b.size-j)/\(a.size-i')+(b.size-j')<=k) (fun x k c st2 h=>?_) (fun c st2 h=>?_) _ _ _ ⟨rfl,_,_,_,_,_,rfl,M,hi,hj,QJ _,by rw[Z0];omega⟩
        · obtain⟨rfl,out',i',j',ac,bc,rfl,M',hi',hj',r1,r2⟩:=h
          refine kasC_bind (aW (aV hj') (kasC_bind (aW (aV (show i'<a.size by omega)) (kasC_bind (hl _ _ _ _ (T.xb _ (aG hj')) (T.xa _ (aG (show i'<a.size by omega))) (gl.kind.trans hk) ?_)))));cases hc:LT (kas_item b j') (kas_item a i')with
          | true=>
            have M2:=T.pushB M' (by omega) hj' hc;refine kasC_bind (aW (aV hj') ?_);dsimp only;by_cases e3:(j'+1 == b.size)=true
            · rw[if_pos e3]
              exact kasC_pure ⟨rfl,rfl,.inl ⟨_,_,rfl,T.fin M2 (eq_of_beq e3)⟩⟩
            rw[if_neg e3];have j3:j'+1<b.size:=by have:¬j'+1=b.size:=fun z=>e3 (by rw[<-z];exact beq_self_eq_true _);omega
            split
            · exact kasC_pure ⟨rfl,rfl,.inr ⟨_,_,_,_,_,rfl,M2,hi',j3,by omega⟩⟩
            · exact kasC_pure ⟨⟨rfl,_,_,_,_,_,rfl,M2,hi',j3,by omega,by omega⟩,rfl⟩
          | false=>
            have M2:=T.pushA M' (by omega) hj' (T.tot _ (aG (by omega)) _ (aG hj') hc);refine kasC_bind (aW (aV (show i'<a.size by omega)) ?_);dsimp only;by_cases e3:(i'+1+1 == a.size)=true
            · rw[if_pos e3]
              exact kasC_pure ⟨rfl,rfl,.inl ⟨_,_,rfl,T.finL M2 (eq_of_beq e3)⟩⟩
            rw[if_neg e3];have i3:i'+1+1<a.size:=by have:¬i'+1+1=a.size:=fun z=>e3 (by rw[<-z];exact beq_self_eq_true _);omega
            split
            · exact kasC_pure ⟨rfl,rfl,.inr ⟨_,_,_,_,_,rfl,M2,i3,hj',by omega⟩⟩
            · exact kasC_pure ⟨⟨rfl,_,_,_,_,_,rfl,M2,i3,hj',by omega,by omega⟩,rfl⟩
        · obtain⟨rfl,out',i',j',ac,bc,rfl,M',hi',hj',r1,r2⟩:=h
          omega
      · rintro c st2 s2 ⟨rfl,rfl,⟨r,rest,rfl,fr⟩|⟨out',i',j',ac,bc,rfl,M',hi',hj',hr'⟩⟩
        · exact kasC_pure ⟨rfl,gl,_,_,rfl,fr⟩
        dsimp only;refine kasC_bind (kasC_lift (XC ?_));refine kasC_bind (kasC_range (a9 (Q':=fun c st3 s3=>s3=s2/\Gl st st3/\((∃r rest,c=(some r,rest)/\oY LT a b r)\/∃out' i' j' mg ac bc,c=(none,out',i',j',mg,ac,bc)/\MgI LT a.toList b.toList out'.toList i' j'/\i'+1<a.size/\j'<b.size/\(a.size-i')+(b.size-j')+1<=(a.size-i)+(b.size-j))) ?_ ?_))
        · refine bT (fun k c st3=>Gl st st3/\∃out' i' j' mg ac bc,c=(none,out',i',j',mg,ac,bc)/\MgI LT a.toList b.toList out'.toList i' j'/\i'+1<a.size/\j'<b.size/\(a.size-i')+(b.size-j')+1<=(a.size-i)+(b.size-j)/\(a.size-i')+(b.size-j')<=k) (fun x k c st3 h=>?_) (fun c st3 h=>?_) _ _ _ ⟨gl,_,_,_,_,_,_,rfl,M',hi',hj',hr',by rw[Z0];omega⟩
          · clear M' hi' hj' hr' M hi hj out' i' j' ac bc out
            obtain⟨gl3,out,i',j',mg',ac,bc,rfl,M,hi,hj,r1,r2⟩:=h;dsimp only;have hi0:=Nat.lt_of_succ_lt hi;generalize mg'-1=m1;revert mg' m1;refine rD ?_;intro mg' m2;refine kasC_bind (kasC_modify ?_);refine kasC_bind (aW (aV hj) ?_);refine kasC_bind (lq hl (g:=fun t=>kas_item a (i'+t)) (gl3.kind.trans hk) (T.xb _ (aG hj)) (fun t ht=>⟨aV (sf ht),T.xa _ (aG (sf ht))⟩) (xA hi0) (T.monoF (T.xb _ (aG hj))) (fun kk k1 k2 k3=>?_));have ik:i'+kk<a.size:=by
              by_cases z:i'+kk<a.size
              · exact z
              · have z1:=k2 (a.size-1-i') (by omega)
                rw[show i'+(a.size-1-i')=a.size-1 by omega]at z1;unfold bey at z1;rw[T.bl _ (aG hj)]at z1;cases z1
            have hb1:LT (kas_item b j') (kas_item a (i'+kk))=true:=by
              have z1:=k3 kk (QJ _) (by omega);unfold bey at z1;simpa using z1
            have M1:=T.takA (k:=kk) M hj (fun t h1 h2=>by
              have z1:=k2 t h1;unfold bey at z1;simpa using z1)
            dsimp only;rcases Nat.eq_zero_or_pos kk with ek|ek;all_goals first
              | (rw [if_pos ek]
                 by_cases e3:(i'+kk+1 == a.size)=true
                 · rw[if_pos e3]
                   exact kasC_pure ⟨rfl,gl3.trans ⟨_,rfl⟩,.inl ⟨_,_,rfl,T.finL M1 (eq_of_beq e3)⟩⟩
                 rw[if_neg e3,if_neg (show ¬(i'+kk == a.size)=true from fun z=>Qj ik (eq_of_beq z))];have c1:i'+kk+1<a.size:=XN ik (dw e3);have le1:i'<=i'+kk:=X8 ..;clear M ik hi k1 k2 k3 ek e3;generalize out++a.extract i' (i'+kk)=o1 at M1 ⊢;generalize i'+kk=i1 at hb1 M1 c1 le1 ⊢)
              | (subst ek
                 rw[if_neg (by decide)];have c1:=hi;have le1:i'<=i':=QJ _
                 replace M1:=M
                 replace hb1:LT (kas_item b j') (kas_item a i')=true:=hb1
                 clear M ik hi k1 k2 k3;generalize out=o1 at M1 ⊢;generalize hi1:i'=i1 at hb1 M1 c1 ⊢;have le1:i'<=i1:=Nat.le_of_eq hi1)
            all_goals
              have ci:=Nat.lt_of_succ_lt c1;refine kasC_bind (aW (aV hj) ?_);have M2:=T.pushB M1 ci hj hb1;by_cases e4:(j'+1 == b.size)=true
              · rw[if_pos e4]
                exact kasC_pure ⟨rfl,gl3.trans ⟨_,rfl⟩,.inl ⟨_,_,rfl,T.fin M2 (eq_of_beq e4)⟩⟩
              rw[if_neg e4];have j3:j'+1<b.size:=XN hj (dw e4);refine kasC_bind (aW (aV ci) ?_);refine kasC_bind (lq hl (g:=fun t=>kas_item b (j'+1+t)) (gl3.kind.trans hk) (T.xa _ (aG ci)) (fun t ht=>⟨aV (sf ht),T.xb _ (aG (sf ht))⟩) (xA j3) (T.monoT (T.xa _ (aG ci))) (fun kb k1 k2 k3=>?_));have M3:=T.takB (k:=kb) M2 ci (fun t h1 h2=>k2 t h1);dsimp only;rcases Nat.eq_zero_or_pos kb with ek|ek;all_goals first
                | (rw [if_pos ek]
                   by_cases e5:(j'+1+kb == b.size)=true
                   · rw[if_pos e5]
                     exact kasC_pure ⟨rfl,gl3.trans ⟨_,rfl⟩,.inl ⟨_,_,rfl,T.fin M3 (eq_of_beq e5)⟩⟩
                   rw[if_neg e5];have c5:j'+1+kb<b.size:=Jl hj k1 (dw e5);have hb3:LT (kas_item b (j'+1+kb)) (kas_item a i1)=false:=k3 kb (QJ _) (DS c5);have le2:j'+1<=j'+1+kb:=X8 ..;clear k1 k2 k3 ek e5;generalize o1.push (kas_item b j')++b.extract (j'+1) (j'+1+kb)=o3 at M3 ⊢;generalize j'+1+kb=j1 at M3 c5 hb3 le2 ⊢)
                | (subst ek
                   rw[if_neg (by decide)];have hb3:LT (kas_item b (j'+1)) (kas_item a i1)=false:=k3 0 (QJ _) (xA j3)
                   replace M3:=M2
                   have c5:=j3;clear k1 k2 k3;generalize o1.push (kas_item b j')=o3 at M3 ⊢;have le2:j'+1<=j'+1:=QJ _;generalize hj1:j'+1=j1 at M3 c5 hb3 ⊢;have le2:j'+1<=j1:=Nat.le_of_eq hj1)
              all_goals
                refine kasC_bind (aW (aV ci) ?_);have M4:=T.pushA M3 ci c5 (T.tot _ (aG ci) _ (aG c5) hb3);have lt:=Jm (m:=b.size) le1 (Nat.le_of_succ_le le2) c1;by_cases e6:(i1+1+1 == a.size)=true
                · rw[if_pos e6]
                  exact kasC_pure ⟨rfl,gl3.trans ⟨_,rfl⟩,.inl ⟨_,_,rfl,T.finL M4 (eq_of_beq e6)⟩⟩
                rw[if_neg e6];have i3:i1+1+1<a.size:=XN c1 (dw e6);split
                · exact kasC_pure ⟨rfl,gl3.trans ⟨_,rfl⟩,.inr ⟨_,i1+1,j1,_,_,_,rfl,M4,i3,c5,Qu lt (Nat.le_of_succ_le r1)⟩⟩
                · exact kasC_pure ⟨⟨gl3.trans ⟨_,rfl⟩,_,i1+1,j1,_,_,_,rfl,M4,i3,c5,Qu lt (Nat.le_of_succ_le r1),Nat.le_of_succ_le_succ (Qu lt r2)⟩,rfl⟩
          · obtain⟨gl3,out',i',j',mg',ac,bc,rfl,M',hi',hj',r1,r2⟩:=h
            omega
        · rintro c st3 s3 ⟨rfl,gl3,⟨r,rest,rfl,fr⟩|⟨out',i',j',mg',ac,bc,rfl,M',hi',hj',hr'⟩⟩
          · exact kasC_pure ⟨rfl,gl3,_,_,rfl,fr⟩
          · exact kasC_bind (kasC_modify (kasC_pure ⟨⟨gl3.trans ⟨_,rfl⟩,out',i',j',_,rfl,M',hi',hj',by omega⟩,rfl⟩))
    · obtain⟨gl,out,i,j,mg,rfl,M,hi,hj,hr⟩:=h
      omega
  · rintro c st' s' ⟨rfl,gl,r,rest,rfl,fr⟩
    exact kasC_pure (q _ _ gl fr)
end
variable{p:Nat}
section
variable{LT:α->α->Bool}{a b t:List α}
structure MgH(LT:α->α->Bool)(a b t:List α)(i j:Nat):Prop where
 pm:(a.take i++(b.take j++t)).Perm (a++b)
 as:cL LT t
 hi:∀x∈a.take i++b.take j,∀y∈t,LT x y=true
theorem MgH.start:MgH LT a b [] a.length b.length:=⟨by rw[List.take_length,List.take_length,Qn],List.Pairwise.nil,fun _ _ _ h=>by cases h⟩
theorem js{l:List α}(h:p<=i):l.take p++(l.take i).drop p=l.take i:=by
 have:=ZK p (l.take i);rwa[List.take_take,Nat.min_eq_left h]at this
theorem qe{l:List α}(hl:cL LT l)(h:p<=i):cL LT ((l.take i).drop p)/\∀x∈l.take p,∀y∈(l.take i).drop p,LT x y=true:=by
 have h1:cL LT (l.take i):=List.Pairwise.sublist (ZS _ _) hl;rw[<-js h]at h1;obtain⟨_,h3,h4⟩:=Qh.mp h1;exact⟨h3,h4⟩
theorem MgH.takeA(M:MgH LT a b t i j)(ha:cL LT a)(hp:p<=i)(h:∀x∈b.take j,∀y∈(a.take i).drop p,LT x y=true):MgH LT a b ((a.take i).drop p++t) p j:=by
 obtain⟨t1,t2⟩:=qe ha hp;have e:=js (l:=a) hp;refine⟨?_,Qh.mpr ⟨t1,M.as,fun x hx y hy=>M.hi x (Qm _ (ZF hx)) y hy⟩,fun x hx y hy=>?_⟩
 ·refine List.Perm.trans ?_ M.pm;refine List.Perm.trans ?_ (List.Perm.append_right _ (List.Perm.of_eq e));rw[Q8];refine List.Perm.append_left _ ?_;rw[<-Q8,<-Q8];exact List.Perm.append_right _ List.perm_append_comm
 ·rcases QN.mp hx with hx|hx<;>rcases QN.mp hy with hy|hy
  ·exact t2 x hx y hy
  ·exact M.hi x (Qm _ (by rw[<-e];exact Qm _ hx)) y hy
  ·exact h x hx y hy
  ·exact M.hi x (QL _ hx) y hy
theorem MgH.takeB(M:MgH LT a b t i j)(hb:cL LT b)(hp:p<=j)(h:∀x∈a.take i,∀y∈(b.take j).drop p,LT x y=true):MgH LT a b ((b.take j).drop p++t) i p:=by
 obtain⟨t1,t2⟩:=qe hb hp;have e:=js (l:=b) hp;refine⟨?_,Qh.mpr ⟨t1,M.as,fun x hx y hy=>M.hi x (QL _ (ZF hx)) y hy⟩,fun x hx y hy=>?_⟩
 ·have:=M.pm;rw[<-e]at this;simpa only[Q8] using this
 ·rcases QN.mp hx with hx|hx<;>rcases QN.mp hy with hy|hy
  ·exact h x hx y hy
  ·exact M.hi x (Qm _ hx) y hy
  ·exact t2 x hx y hy
  ·exact M.hi x (QL _ (by rw[<-e];exact Qm _ hx)) y hy
theorem MgH.done(M:MgH LT a b t i j)(ha:cL LT a)(hb:cL LT b)(h:∀x∈a.take i,∀y∈b.take j,LT x y=true):(a.take i++b.take j++t).Perm (a++b)/\cL LT (a.take i++b.take j++t):=
 ⟨by rw[Q8];exact M.pm,Qh.mpr ⟨Qh.mpr ⟨List.Pairwise.sublist (ZS _ _) ha,List.Pairwise.sublist (ZS _ _) hb,h⟩,M.as,M.hi⟩⟩
theorem MgH.last(M:MgH LT a b t i j)(ha:cL LT a)(hb:cL LT b)(h:∀x∈b.take j,∀y∈a.take i,LT x y=true):(b.take j++a.take i++t).Perm (a++b)/\cL LT (b.take j++a.take i++t):=
 ⟨(List.Perm.append_right t List.perm_append_comm).trans (by rw[Q8];exact M.pm),Qh.mpr ⟨Qh.mpr ⟨List.Pairwise.sublist (ZS _ _) hb,List.Pairwise.sublist (ZS _ _) ha,h⟩,M.as,fun x hx y hy=>M.hi x (QN.mpr (QN.mp hx).symm) y hy⟩⟩
end
section
variable{X:Keyed->Prop}
theorem mH{l:Array Keyed}{x:Keyed}(h:x∈l.toList.take i):∃t,t<i/\t<l.size/\x=kas_item l t:=by
 obtain⟨t,h1,h2,e⟩:=mE (i:=0) (k:=i) h;exact⟨t,h1,by omega,by rw[e,X6]⟩
theorem wm{l:Array Keyed}{x:Keyed}(h:x∈(l.toList.take i).drop p):∃t,p<=t/\t<i/\t<l.size/\x=kas_item l t:=by
 rw[List.drop_take]at h;obtain⟨t,h1,h2,e⟩:=mE h;exact⟨p+t,by omega,by omega,h2,e⟩
theorem Gy{l:Array Keyed}(h:i<l.size):(l.toList.take (i+1)).drop i=[kas_item l i]:=by
 rw[List.drop_take,ff h,show i+1-i=1 by omega];rfl
theorem jg{l:Array Keyed}:(l.extract p i).toList=(l.toList.take i).drop p:=by
 rw[List.drop_take];simp
theorem Two.af(T:Two LT X a b):∀y∈a.toList,LT (kas_item b 0) y=true:=fun y hy=>T.leA (T.xb _ (aG T.nb)) T.na T.fst y hy
theorem Two.cutA(T:Two LT X a b)(M:MgH LT a.toList b.toList out.toList.reverse i j)(hp:p<=i)(hj:0<j)(hz:j<=b.size)(h:∀t,p<=t->t<i->t<a.size->LT (kas_item b (j-1)) (kas_item a t)=true):MgH LT a.toList b.toList (out++(a.extract p i).reverse).toList.reverse p j:=by
 rw[ZY,List.reverse_append,Xx,List.reverse_reverse,jg];refine M.takeA T.aa hp fun x hx y hy=>?_;obtain⟨t,h1,h2,h3,rfl⟩:=wm hy;obtain⟨u,g1,g2,rfl⟩:=mH hx;have h0:=h t h1 h2 h3;by_cases e:u=j-1
 ·subst e;exact h0
 ·exact T.tr (T.xb _ (aG g2)) (T.xb _ (aG (by omega))) (T.xa _ (aG h3)) (jd T.ab (by omega) (by omega)) h0
theorem Two.cutB(T:Two LT X a b)(M:MgH LT a.toList b.toList out.toList.reverse i j)(hp:p<=j)(hi:0<i)(hz:i<=a.size)(h:∀t,p<=t->t<j->t<b.size->LT (kas_item b t) (kas_item a (i-1))=false):MgH LT a.toList b.toList (out++(b.extract p j).reverse).toList.reverse i p:=by
 rw[ZY,List.reverse_append,Xx,List.reverse_reverse,jg];refine M.takeB T.ab hp fun x hx y hy=>?_;obtain⟨t,h1,h2,h3,rfl⟩:=wm hy;obtain⟨u,g1,g2,rfl⟩:=mH hx;have h0:=T.tot _ (aG (show i-1<a.size by omega)) _ (aG h3) (h t h1 h2 h3);by_cases e:u=i-1
 ·subst e;exact h0
 ·exact T.tr (T.xa _ (aG g2)) (T.xa _ (aG (by omega))) (T.xb _ (aG h3)) (jd T.aa (by omega) (by omega)) h0
theorem wG{l:Array Keyed}(h:i<l.size):(out++(l.extract i (i+1)).reverse).toList.reverse=(out.push (kas_item l i)).toList.reverse:=by
 rw[ZY,Xx,jg,Gy h,Xq];rfl
theorem Two.hpA(T:Two LT X a b)(M:MgH LT a.toList b.toList out.toList.reverse (i+1) j)(hi:i<a.size)(hj:0<j)(hz:j<=b.size)(h:LT (kas_item b (j-1)) (kas_item a i)=true):MgH LT a.toList b.toList (out.push (kas_item a i)).toList.reverse i j:=by
 rw[<-wG hi];exact T.cutA M (by omega) hj hz fun t h1 h2 h3=>by rw[show t=i by omega];exact h
theorem Two.hpB(T:Two LT X a b)(M:MgH LT a.toList b.toList out.toList.reverse i (j+1))(hj:j<b.size)(hi:0<i)(hz:i<=a.size)(h:LT (kas_item b j) (kas_item a (i-1))=false):MgH LT a.toList b.toList (out.push (kas_item b j)).toList.reverse i j:=by
 rw[<-wG hj];exact T.cutB M (by omega) hi hz fun t h1 h2 h3=>by rw[show t=j by omega];exact h
theorem Two.hfin(T:Two LT X a b)(M:MgH LT a.toList b.toList out.toList.reverse i j)(hi:i=0):oY LT a b (a.extract 0 i++b.extract 0 j++out.reverse):=by
 have:=M.done T.aa T.ab (fun x hx=>by rw[hi]at hx;cases hx);unfold oY;rw[ZY,ZY,jg,jg,Xx,XZ,XZ];exact this
theorem Two.hfst(T:Two LT X a b)(M:MgH LT a.toList b.toList out.toList.reverse i j)(hj:j=1):oY LT a b (b.extract 0 j++a.extract 0 i++out.reverse):=by
 have:=M.last T.aa T.ab (fun x hx y hy=>by
  obtain⟨t,h1,h2,rfl⟩:=mH hx;rw[show t=0 by omega];exact T.af y (X3 hy))
 unfold oY;rw[ZY,ZY,jg,jg,Xx,XZ,XZ];exact this
theorem Two.hA(T:Two LT X a b)(M:MgH LT a.toList b.toList out.toList.reverse i j)(hi:0<i)(hz:i<=a.size)(hj:0<j)(hz':j<=b.size)(h:LT (kas_item b (j-1)) (kas_item a (i-1))=true):MgH LT a.toList b.toList (out.push (kas_item a (i-1))).toList.reverse (i-1) j:=by
 obtain⟨k,rfl⟩:∃k,i=k+1:=⟨i-1,by omega⟩;exact T.hpA M (by omega) hj hz' h
theorem Two.hB(T:Two LT X a b)(M:MgH LT a.toList b.toList out.toList.reverse i j)(hj:0<j)(hz':j<=b.size)(hi:0<i)(hz:i<=a.size)(h:LT (kas_item b (j-1)) (kas_item a (i-1))=false):MgH LT a.toList b.toList (out.push (kas_item b (j-1))).toList.reverse i (j-1):=by
 obtain⟨k,rfl⟩:∃k,j=k+1:=⟨j-1,by omega⟩;exact T.hpB M (by omega) hi hz h
theorem F4(hl:sk prog w A E s κ LT X)(T:Two LT X a b){st:SortSt}{Q:Array Keyed->SortSt->Shared->Prop}(hk:Rows.kindOf st=κ)(q:∀r st',Gl st st'->oY LT a b r->Q r st' s):kasC (model prog w) A E (ze a b) Q st s:=by
  have na:=T.na;have nb:=T.nb;refine kasC_bind (kasC_lift (XC ?_));refine kasC_bind (aW (aV (show a.size-1<a.size by omega)) ?_);dsimp only;have M0:MgH LT a.toList b.toList (#[kas_item a (a.size-1)]:Array Keyed).toList.reverse (a.size-1) b.size:=by
    have S:MgH LT a.toList b.toList (#[]:Array Keyed).toList.reverse a.size b.size:=by
      have:=MgH.start (LT:=LT) (a:=a.toList) (b:=b.toList);rw[QY,QY]at this;exact this
    exact T.hA S na (QJ _) nb (QJ _) T.lst
  by_cases e1:(a.size-1 == 0)=true
  · rw[if_pos e1]
    exact kasC_pure (q _ _ Gl.refl (T.hfin M0 (eq_of_beq e1)))
  rw[if_neg e1];by_cases e2:(b.size == 1)=true
  · rw[if_pos e2]
    exact kasC_pure (q _ _ Gl.refl (T.hfst M0 (eq_of_beq e2)))
  rw[if_neg e2];have a1:=dw e1;have b1:=dw e2;refine kasC_bind (kasC_get ?_);refine kasC_bind (kasC_range (a9 (Q':=fun c st' s'=>s'=s/\Gl st st'/\∃r rest,c=(some r,rest)/\oY LT a b r) ?_ ?_))
  · refine bT (fun k c st'=>Gl st st'/\∃i j out mg,c=(none,i,j,out,mg)/\MgH LT a.toList b.toList out.toList.reverse i j/\0<i/\i<=a.size/\1<j/\j<=b.size/\i+j+1<=k) (fun x k c st' h=>?_) (fun c st' h=>?_) _ _ _ ⟨Gl.refl,_,_,_,_,rfl,M0,by omega,by omega,by omega,by omega,by rw[Z0];omega⟩
    · obtain⟨gl,i,j,out,mg,rfl,M,hi,hia,hj,hjb,hr⟩:=h
      refine kasC_bind (kasC_range (a9 (Q':=fun c st2 s2=>s2=s/\st2=st'/\((∃r rest,c=(some r,rest)/\oY LT a b r)\/∃i' j' out' ac bc,c=(none,i',j',out',ac,bc)/\MgH LT a.toList b.toList out'.toList.reverse i' j'/\0<i'/\i'<=a.size/\1<j'/\j'<=b.size/\i'+j'+1<=i+j)) ?_ ?_))
      · refine bT (fun k c st2=>st2=st'/\∃i' j' out' ac bc,c=(none,i',j',out',ac,bc)/\MgH LT a.toList b.toList out'.toList.reverse i' j'/\0<i'/\i'<=a.size/\1<j'/\j'<=b.size/\i'+j'<=i+j/\i'+j'<=k) (fun x k c st2 h=>?_) (fun c st2 h=>?_) _ _ _ ⟨rfl,i,j,out,_,_,rfl,M,hi,hia,hj,hjb,QJ _,by rw[Z0];omega⟩
        · obtain⟨rfl,i',j',out',ac,bc,rfl,M',hi',hia',hj',hjb',r1,r2⟩:=h
          refine kasC_bind (aW (aV (show j'-1<b.size by omega)) (kasC_bind (aW (aV (show i'-1<a.size by omega)) (kasC_bind (hl _ _ _ _ (T.xb _ (aG (show j'-1<b.size by omega))) (T.xa _ (aG (show i'-1<a.size by omega))) (gl.kind.trans hk) ?_)))));cases hc:LT (kas_item b (j'-1)) (kas_item a (i'-1))with
          | true=>
            have M2:=T.hA M' hi' hia' (by omega) hjb' hc;refine kasC_bind (aW (aV (show i'-1<a.size by omega)) ?_);dsimp only;by_cases e3:(i'-1 == 0)=true
            · rw[if_pos e3]
              exact kasC_pure ⟨rfl,rfl,.inl ⟨_,_,rfl,T.hfin M2 (eq_of_beq e3)⟩⟩
            rw[if_neg e3];have i3:=dw e3;split
            · exact kasC_pure ⟨rfl,rfl,.inr ⟨i'-1,j',_,_,_,rfl,M2,by omega,by omega,hj',hjb',by omega⟩⟩
            · exact kasC_pure ⟨⟨rfl,i'-1,j',_,_,_,rfl,M2,by omega,by omega,hj',hjb',by omega,by omega⟩,rfl⟩
          | false=>
            have M2:=T.hB M' (by omega) hjb' hi' hia' hc;refine kasC_bind (aW (aV (show j'-1<b.size by omega)) ?_);dsimp only;by_cases e3:(j'-1 == 1)=true
            · rw[if_pos e3]
              exact kasC_pure ⟨rfl,rfl,.inl ⟨_,_,rfl,T.hfst M2 (eq_of_beq e3)⟩⟩
            rw[if_neg e3];have j3:=dw e3;split
            · exact kasC_pure ⟨rfl,rfl,.inr ⟨i',j'-1,_,_,_,rfl,M2,hi',hia',by omega,by omega,by omega⟩⟩
            · exact kasC_pure ⟨⟨rfl,i',j'-1,_,_,_,rfl,M2,hi',hia',by omega,by omega,by omega,by omega⟩,rfl⟩
        · obtain⟨rfl,i',j',out',ac,bc,rfl,M',hi',hia',hj',hjb',r1,r2⟩:=h
          omega
      · rintro c st2 s2 ⟨rfl,rfl,⟨r,rest,rfl,fr⟩|⟨i',j',out',ac,bc,rfl,M',hi',hia',hj',hjb',hr'⟩⟩
        · exact kasC_pure ⟨rfl,gl,_,_,rfl,fr⟩
        dsimp only;refine kasC_bind (kasC_lift (XC ?_));refine kasC_bind (kasC_range (a9 (Q':=fun c st3 s3=>s3=s2/\Gl st st3/\((∃r rest,c=(some r,rest)/\oY LT a b r)\/∃i' j' out' mg ac bc,c=(none,i',j',out',mg,ac,bc)/\MgH LT a.toList b.toList out'.toList.reverse i' j'/\0<i'/\i'<=a.size/\1<j'/\j'<=b.size/\i'+j'+1<=i+j)) ?_ ?_))
        · refine bT (fun k c st3=>Gl st st3/\∃i' j' out' mg ac bc,c=(none,i',j',out',mg,ac,bc)/\MgH LT a.toList b.toList out'.toList.reverse i' j'/\0<i'/\i'<=a.size/\1<j'/\j'<=b.size/\i'+j'+1<=i+j/\i'+j'<=k) (fun x k c st3 h=>?_) (fun c st3 h=>?_) _ _ _ ⟨gl,i',j',out',_,_,_,rfl,M',hi',hia',hj',hjb',hr',by rw[Z0];omega⟩
          · clear M' hi' hia' hj' hjb' hr' M hi hia hj hjb out' i' j' ac bc out
            obtain⟨gl3,i',j',out,mg',ac,bc,rfl,M,hi,hia,hj,hjb,r1,r2⟩:=h;dsimp only;have jb:j'-1<b.size:=by omega
            have j0:0<j':=by omega
            have jp:0<j'-1:=by omega
            have gx:∀t,t<i'->0+t<a.size:=fun t h=>by omega
            have gy:∀t,t<i'->t<a.size-0:=fun t h=>by omega
            have gz:∀t,t<j'-1->0+t<b.size:=fun t h=>by omega
            have gw:∀t,t<j'-1->t<b.size-0:=fun t h=>by omega
            generalize mg'-1=m1;revert mg' m1;refine rD ?_;intro mg' m2;refine kasC_bind (kasC_modify ?_);refine kasC_bind (aW (aV jb) ?_);refine kasC_bind (lq hl (g:=fun t=>kas_item a (0+t)) (gl3.kind.trans hk) (T.xb _ (aG jb)) (fun t ht=>⟨aV (gx t ht),T.xa _ (aG (gx t ht))⟩) (Nat.sub_lt hi Nat.one_pos) (fun x y h1 h2=>T.monoF (T.xb _ (aG jb)) x y h1 (gy y h2)) (fun kk k1 k2 k3=>?_));have M1:=T.cutA (p:=kk) M k1 j0 hjb (fun t h1 h2 h3=>by
              have z1:=k3 t h1 h2;unfold bey at z1;simpa using z1)
            have fb:0<kk->LT (kas_item b (j'-1)) (kas_item a (kk-1))=false:=fun z=>by
              have z1:=k2 (kk-1) (Nat.sub_lt z Nat.one_pos);unfold bey at z1;simpa using z1
            dsimp only;by_cases ek:i'-kk>0
            all_goals first
              | (rw [if_pos ek]
                 by_cases e3:(kk == 0)=true
                 · rw[if_pos e3]
                   exact kasC_pure ⟨rfl,gl3.trans ⟨_,rfl⟩,.inl ⟨_,_,rfl,T.hfin M1 (eq_of_beq e3)⟩⟩
                 rw[if_neg e3];have c1:0<kk:=Nat.pos_of_ne_zero (dw e3);have hb1:=fb c1;have le1:kk<=i':=k1;clear M fb k1 k2 k3 ek e3;generalize out++(a.extract kk i').reverse=o1 at M1 ⊢;generalize kk=i1 at hb1 M1 c1 le1 ⊢)
              | (rw [if_neg ek]
                 have ekk:kk=i':=JY k1 ek;have hb1:=fb (ekk▸hi);rw[ekk]at hb1;have c1:=hi
                 replace M1:=M
                 clear M fb k1 k2 k3;generalize out=o1 at M1 ⊢;generalize hi1:i'=i1 at hb1 M1 c1 ⊢;have le1:i1<=i':=Nat.le_of_eq hi1.symm)
            all_goals
              refine kasC_bind (aW (aV jb) ?_);have ia:=Qu le1 hia;have ib:=Qw (Nat.sub_lt c1 Nat.one_pos) ia;have M2:=T.hB M1 j0 hjb c1 ia hb1;by_cases e4:(j'-1 == 1)=true
              · rw[if_pos e4]
                exact kasC_pure ⟨rfl,gl3.trans ⟨_,rfl⟩,.inl ⟨_,_,rfl,T.hfst M2 (eq_of_beq e4)⟩⟩
              rw[if_neg e4];have j3:=dw e4;refine kasC_bind (aW (aV ib) ?_);refine kasC_bind (lq hl (g:=fun t=>kas_item b (0+t)) (gl3.kind.trans hk) (T.xa _ (aG ib)) (fun t ht=>⟨aV (gz t ht),T.xb _ (aG (gz t ht))⟩) (Nat.sub_lt jp Nat.one_pos) (fun x y h1 h2=>T.monoT (T.xa _ (aG ib)) x y h1 (gw y h2)) (fun kb k1 k2 k3=>?_));have M3:=T.cutB (p:=kb) M2 k1 c1 ia (fun t h1 h2 h3=>by
                have z1:=k3 t h1 h2;unfold bey at z1;simpa using z1)
              have kb0:0<kb:=by
                by_cases z:0<kb
                · exact z
                · have z1:=k3 0 (Nat.le_of_not_lt z) jp
                  unfold bey at z1;rw[if_pos rfl]at z1;have z2:=T.af _ (aG ib);simp only[X6]at z1;rw[z2]at z1;cases z1
              have hb3:LT (kas_item b (kb-1)) (kas_item a (i1-1))=true:=by
                have z1:=k2 (kb-1) (Nat.sub_lt kb0 Nat.one_pos);unfold bey at z1;simpa using z1
              dsimp only;by_cases ek:j'-1-kb>0
              all_goals first
                | (rw [if_pos ek]
                   by_cases e5:(kb == 1)=true
                   · rw[if_pos e5]
                     exact kasC_pure ⟨rfl,gl3.trans ⟨_,rfl⟩,.inl ⟨_,_,rfl,T.hfst M3 (eq_of_beq e5)⟩⟩
                   rw[if_neg e5,if_neg (show ¬(kb == 0)=true from fun z=>X0 kb0 (eq_of_beq z))];have c5:1<kb:=XN kb0 fun z=>dw e5 z.symm;have le2:kb<=j'-1:=k1;clear k1 k2 k3 ek e5 kb0;generalize o1.push (kas_item b (j'-1))++(b.extract kb (j'-1)).reverse=o3 at M3 ⊢;generalize kb=j1 at M3 c5 hb3 le2 ⊢)
                | (rw [if_neg ek]
                   have ekk:kb=j'-1:=JY k1 ek;rw[ekk]at hb3
                   replace M3:=M2
                   have c5:1<j'-1:=XN jp fun z=>j3 z.symm;clear k1 k2 k3 kb0;generalize o1.push (kas_item b (j'-1))=o3 at M3 ⊢;generalize hj1:j'-1=j1 at M3 c5 hb3 ⊢;have le2:j1<=j'-1:=Nat.le_of_eq hj1.symm)
              all_goals
                refine kasC_bind (aW (aV ib) ?_);have lb:=Qu le2 (Zf jb);have M4:=T.hA M3 c1 ia (Nat.lt_trans Nat.one_pos c5) lb hb3;by_cases e6:(i1-1 == 0)=true
                · rw[if_pos e6]
                  exact kasC_pure ⟨rfl,gl3.trans ⟨_,rfl⟩,.inl ⟨_,_,rfl,T.hfin M4 (eq_of_beq e6)⟩⟩
                rw[if_neg e6];have i3:=dw e6;split
                · exact kasC_pure ⟨rfl,gl3.trans ⟨_,rfl⟩,.inr ⟨i1-1,j1,_,_,_,_,rfl,M4,Nat.pos_of_ne_zero i3,Zf ib,c5,lb,Qu (Jn c1 le1 le2 hj) (Nat.le_of_succ_le r1)⟩⟩
                · exact kasC_pure ⟨⟨gl3.trans ⟨_,rfl⟩,i1-1,j1,_,_,_,_,rfl,M4,Nat.pos_of_ne_zero i3,Zf ib,c5,lb,Qu (Jn c1 le1 le2 hj) (Nat.le_of_succ_le r1),Nat.le_of_succ_le_succ (Qu (Jn c1 le1 le2 hj) r2)⟩,rfl⟩
          · obtain⟨gl3,i',j',out',mg',ac,bc,rfl,M',hi',hia',hj',hjb',r1,r2⟩:=h
            omega
        · rintro c st3 s3 ⟨rfl,gl3,⟨r,rest,rfl,fr⟩|⟨i',j',out',mg',ac,bc,rfl,M',hi',hia',hj',hjb',hr'⟩⟩
          · exact kasC_pure ⟨rfl,gl3,_,_,rfl,fr⟩
          · exact kasC_bind (kasC_modify (kasC_pure ⟨⟨gl3.trans ⟨_,rfl⟩,i',j',out',_,rfl,M',hi',hia',hj',hjb',by omega⟩,rfl⟩))
    · obtain⟨gl,i,j,out,mg,rfl,M,hi,hia,hj,hjb,hr⟩:=h
      omega
  · rintro c st' s' ⟨rfl,gl,r,rest,rfl,fr⟩
    exact kasC_pure (q _ _ gl fr)
end
theorem ue{sa:Nat}{S:List Keyed}:∀(m:List Keyed) (j:Nat) (P M0:List Keyed) (arr:Array Keyed),arr.toList=P++(M0++S)->P.length=sa+j->M0.length=m.length->((m.zipIdx j).foldl (fun a p=>a.setIfInBounds (sa+p.2) p.1) arr).toList=P++(m++S)
 |[],j,P,M0,arr,h,_,h2=>by
  have:M0=[]:=X4 h2;subst this;exact h
 |x::m,j,P,M0,arr,h,h1,h2=>by
  cases M0 with
  |nil=>cases h2
  |cons y M0=>
   rw[List.zipIdx_cons,List.foldl_cons];have e:(arr.setIfInBounds (sa+j) x).toList=(P++[x])++(M0++S):=by
    rw[Array.toList_setIfInBounds,h,<-h1,XO _ _ (QJ _),XM];simp
   rw[ue m (j+1) (P++[x]) M0 _ e (by rw[QZ,Qo];omega) (by simpa using h2)];simp
theorem jy{P R S:List Keyed}{arr:Array Keyed}(h:arr.toList=P++(R++S)){i:Nat}(hi:i<R.length):P.length+i<arr.size/\arr[P.length+i]?=some (kas_item R.toArray i):=by
 have hz:arr.size=P.length+(R.length+S.length):=by rw[<-QY,h,QZ,QZ]
 refine⟨by omega,?_⟩;rw[<-QC,h,QK (by omega),Zj,QD hi];have:=aV (l:=R.toArray) (i:=i) (by simpa using hi);simpa using this
variable{P:List Keyed}
section
variable{X:Keyed->Prop}
theorem zq{st st':SortSt}{Q:PUnit->SortSt->Shared->Prop}(h:Q ⟨⟩ st' s):kasC (model prog w) A E (set st':StateT SortSt Sem PUnit) Q st s:=by
 unfold kasC;rw[StateT.run_set];exact Q6 h
structure Nb(LT:Keyed->Keyed->Bool)(X:Keyed->Prop)(R1 R2:List Keyed):Prop where
 n1:0<R1.length
 n2:0<R2.length
 a1:cL LT R1
 a2:cL LT R2
 x1:∀x∈R1,X x
 x2:∀x∈R2,X x
 tr:∀{x y z},X x->X y->X z->LT x y=true->LT y z=true->LT x z=true
 asym:∀x∈R1,∀y∈R2,LT x y=true->LT y x=false
 tot:∀x∈R1,∀y∈R2,LT y x=false->LT x y=true
variable{R1 R2 S:List Keyed}{m:Nat}
theorem im{l:List Keyed}{i:Nat}(h:i<l.length):kas_item l.toArray i∈l:=by
 have:=aG (l:=l.toArray) (i:=i) (by simpa using h);simpa using this
theorem ia{l:List Keyed}{i j:Nat}(ha:cL LT l)(h:i<j)(hj:j<l.length):LT (kas_item l.toArray i) (kas_item l.toArray j)=true:=jd (l:=l.toArray) (by simpa using ha) h (by simpa using hj)
theorem io{l:List Keyed}{x:Keyed}(h:x∈l.drop k):∃t,k<=t/\t<l.length/\x=kas_item l.toArray t:=by
 obtain⟨t,h1,h2⟩:=zt (l:=l.toArray) (i:=k) (by simpa using h);exact⟨k+t,by omega,by simpa using h1,h2⟩
theorem ip{l:List Keyed}{x:Keyed}(h:x∈l.take k):∃t,t<k/\t<l.length/\x=kas_item l.toArray t:=by
 obtain⟨t,h1,h2,h3⟩:=mH (l:=l.toArray) (i:=k) (by simpa using h);exact⟨t,h1,by simpa using h2,h3⟩
theorem Nb.asc(N:Nb LT X R1 R2)(hk:k<=R1.length)(hm:m<=R2.length)(h1:∀t,t<k->LT (kas_item R1.toArray t) (kas_item R2.toArray 0)=true)(h2:∀t,m<=t->t<R2.length->LT (kas_item R1.toArray (R1.length-1)) (kas_item R2.toArray t)=true){r:List Keyed}(hp:r.Perm (R1.drop k++R2.take m))(hr:cL LT r):(R1.take k++(r++R2.drop m)).Perm (R1++R2)/\cL LT (R1.take k++(r++R2.drop m)):=by
 have n1:=N.n1;have n2:=N.n2;constructor
 ·refine(List.Perm.append_left _ (List.Perm.append_right _ hp)).trans (List.Perm.of_eq ?_);rw[Q8,ZK,<-Q8,ZK]
 ·have lo:∀t,t<k->∀u,u<R2.length->LT (kas_item R1.toArray t) (kas_item R2.toArray u)=true:=fun t ht u hu=>by
   by_cases e:u=0
   ·subst e;exact h1 t ht
   ·exact N.tr (N.x1 _ (im (by omega))) (N.x2 _ (im n2)) (N.x2 _ (im hu)) (h1 t ht) (ia N.a2 (by omega) hu)
  have hi:∀t,t<R1.length->∀u,m<=u->u<R2.length->LT (kas_item R1.toArray t) (kas_item R2.toArray u)=true:=fun t ht u hu hl=>by
   by_cases e:t=R1.length-1
   ·subst e;exact h2 u hu hl
   ·exact N.tr (N.x1 _ (im ht)) (N.x1 _ (im (by omega))) (N.x2 _ (im hl)) (ia N.a1 (by omega) (by omega)) (h2 u hu hl)
  refine Qh.mpr ⟨List.Pairwise.sublist (ZS _ _) N.a1,Qh.mpr ⟨hr,List.Pairwise.sublist (Zn _ _) N.a2,fun x hx y hy=>?_⟩,fun x hx y hy=>?_⟩
  ·obtain⟨u,u1,u2,rfl⟩:=io hy;rcases QN.mp (hp.mem_iff.mp hx)with hx|hx
   ·obtain⟨t,t1,t2,rfl⟩:=io hx;exact hi t t2 u u1 u2
   ·obtain⟨t,t1,t2,rfl⟩:=ip hx;exact ia N.a2 (by omega) u2
  ·obtain⟨t,t1,t2,rfl⟩:=ip hx;rcases QN.mp hy with hy|hy
   ·rcases QN.mp (hp.mem_iff.mp hy)with hy|hy
    ·obtain⟨u,u1,u2,rfl⟩:=io hy;exact ia N.a1 (by omega) u2
    ·obtain⟨u,u1,u2,rfl⟩:=ip hy;exact lo t t1 u u2
   ·obtain⟨u,u1,u2,rfl⟩:=io hy;exact lo t t1 u u2
theorem Nb.mF(N:Nb LT X R1 R2){key:Keyed}(xk:X key):∀i j,i<=j->j<R1.length->bey LT false key (kas_item R1.toArray j)=true->bey LT false key (kas_item R1.toArray i)=true:=fun i j hij hj h=>by
 by_cases e:i=j
 ·subst e;exact h
 ·unfold bey at h ⊢;simp only[Qr,if_false,Bool.not_eq_true']at h ⊢;cases hc:LT key (kas_item R1.toArray i)with
  |false=>rfl
  |true=>rw[N.tr xk (N.x1 _ (im (by omega))) (N.x1 _ (im hj)) hc (ia N.a1 (by omega) hj)]at h;cases h
theorem Nb.mT(N:Nb LT X R1 R2){key:Keyed}(xk:X key):∀i j,i<=j->j<R2.length->bey LT true key (kas_item R2.toArray j)=true->bey LT true key (kas_item R2.toArray i)=true:=fun i j hij hj h=>by
 by_cases e:i=j
 ·subst e;exact h
 ·exact N.tr (N.x2 _ (im (by omega))) (N.x2 _ (im hj)) xk (ia N.a2 (by omega) hj) h
theorem nZ{l:List Keyed}{t:Nat}:kas_item (l.drop k).toArray t=kas_item l.toArray (k+t):=by
 unfold kas_item;simp[ZC]
theorem bU{l:List Keyed}{t:Nat}(h:t<k):kas_item (l.take k).toArray t=kas_item l.toArray t:=by
 unfold kas_item;simp[ZC,List.getElem?_take,h]
theorem Nb.two(N:Nb LT X R1 R2)(hk:k<R1.length)(h0:0<m)(hm:m<=R2.length)(h1:LT (kas_item R2.toArray 0) (kas_item R1.toArray k)=true)(h2:LT (kas_item R2.toArray (m-1)) (kas_item R1.toArray (R1.length-1))=true):Two LT X (R1.drop k).toArray (R2.take m).toArray where
 aa:=List.Pairwise.sublist (Zn _ _) N.a1
 ab:=List.Pairwise.sublist (ZS _ _) N.a2
 xa:=fun x hx=>N.x1 x (ZF hx)
 xb:=fun x hx=>N.x2 x (X3 hx)
 tr:=N.tr
 tot:=fun x hx y hy=>N.tot x (ZF hx) y (X3 hy)
 asym:=fun x hx y hy=>N.asym x (ZF hx) y (X3 hy)
 na:=by simp;omega
 nb:=by have:=N.n2;simp;omega
 fst:=by rw[nZ,bU h0];exact h1
 lst:=by
  have e1:(R1.drop k).toArray.size-1=R1.length-1-k:=by simp;omega
  have e2:(R2.take m).toArray.size-1=m-1:=by simp;omega
  rw[e1,e2,nZ,bU (by omega),show k+(R1.length-1-k)=R1.length-1 by omega];exact h2
theorem Kb{arr:Array Keyed}(h:arr.toList=P++(R1++(R2++S))):arr.extract (P.length+k) (P.length+R1.length)=(R1.drop k).toArray:=by
 apply Array.toList_inj.mp;rw[jg,h,<-Q8,<-QZ,List.take_left,List.drop_append];simp
theorem Ka{arr:Array Keyed}(h:arr.toList=P++(R1++(R2++S)))(hm:m<=R2.length):arr.extract (P.length+R1.length) (P.length+R1.length+m)=(R2.take m).toArray:=by
 apply Array.toList_inj.mp;rw[mL,h,<-Q8,<-QZ,List.drop_left,List.take_append_of_le_length hm]
theorem F5(hl:sk prog w A E s κ LT X)(N:Nb LT X R1 R2){st:SortSt}{i pw pw2:Nat}{Q:Bool->SortSt->Shared->Prop}(hk:Rows.kindOf st=κ)(hf:failedOf st=none)(ha:(arrOf st).toList=P++(R1++(R2++S)))(h1:(pendingOf st)[i]?=some (P.length,R1.length,pw))(h2:(pendingOf st)[i+1]?=some (P.length+R1.length,R2.length,pw2))
  (q:∀R arr' g,arr'.toList=P++(R++S)->R.Perm (R1++R2)->cL LT R->Q true (SortSt.mk' κ arr' (((pendingOf st).setIfInBounds i (P.length,R1.length+R2.length,pw)).eraseIdxIfInBounds (i+1)) g none) s):kasC (model prog w) A E (mergeAt' i) Q st s:=by
 have n1:=N.n1;have n2:=N.n2;have ha2:(arrOf st).toList=(P++R1)++(R2++S):=by rw[ha,Q8]
 have g1:∀t,t<R1.length->(arrOf st)[P.length+t]?=some (kas_item R1.toArray t)/\X (kas_item R1.toArray t):=fun t ht=>⟨(jy ha ht).2,N.x1 _ (im ht)⟩;have g2:∀t,t<R2.length->(arrOf st)[P.length+R1.length+t]?=some (kas_item R2.toArray t)/\X (kas_item R2.toArray t):=fun t ht=>⟨by have:=(jy ha2 ht).2;rwa[QZ]at this,N.x2 _ (im ht)⟩;have stay:cL LT (R1++R2)->Q true (SortSt.mk' (Rows.kindOf st) (arrOf st) (((pendingOf st).setIfInBounds i (P.length,R1.length+R2.length,pw)).eraseIdxIfInBounds (i+1)) (gallopOf st) (failedOf st)) s:=fun h=>by
  rw[hk,hf];exact q (R1++R2) (arrOf st) (gallopOf st) (by rw[ha,Q8]) (.refl _) h
 refine kasC_bind (kasC_get ?_);dsimp only;rw[h1,h2];dsimp only;refine kasC_bind (zq ?_);refine kasC_bind (aW (g2 0 n2).1 ?_);refine kasC_bind (lq hl (g:=fun t=>kas_item R1.toArray t) hk (N.x2 _ (im n2)) g1 n1 (N.mF (N.x2 _ (im n2))) (fun kk k1 k2 k3=>?_));have lo:∀t,t<kk->LT (kas_item R1.toArray t) (kas_item R2.toArray 0)=true:=fun t ht=>by
  have z:=k2 t ht;unfold bey at z;exact N.tot _ (im (by omega)) _ (im n2) (by simpa using z)
 dsimp only;by_cases e1:(R1.length-kk == 0)=true
 ·rw[if_pos e1];have z:=eq_of_beq e1;have ek:kk=R1.length:=by omega
  subst ek;have h:=(N.asc (k:=R1.length) (m:=R2.length) (QJ _) (QJ _) lo (fun t a b=>by omega) (r:=R2) (by simp) N.a2).2;refine kasC_pure (stay ?_);simpa using h
 rw[if_neg e1];have ek:kk<R1.length:=by have:=dw e1;omega
 refine kasC_bind (aW (x:=kas_item R1.toArray (R1.length-1)) (by rw[show P.length+kk+(R1.length-kk)-1=P.length+(R1.length-1)by omega];exact(g1 _ (by omega)).1) ?_);have l1:R1.length-1<R1.length:=by omega
 refine kasC_bind (lq hl (g:=fun t=>kas_item R2.toArray t) hk (N.x1 _ (im l1)) g2 (by omega) (N.mT (N.x1 _ (im l1))) (fun kb c1 c2 c3=>?_));have hi:∀t,kb<=t->t<R2.length->LT (kas_item R1.toArray (R1.length-1)) (kas_item R2.toArray t)=true:=fun t a b=>N.tot _ (im l1) _ (im b) (c3 t a b);dsimp only;by_cases e2:(kb == 0)=true
 ·rw[if_pos e2];have z:=eq_of_beq e2;subst z;have h:=(N.asc (k:=0) (m:=0) (Qi _) (Qi _) (fun t a=>by omega) hi (r:=R1) (by simp) N.a1).2;refine kasC_pure (stay ?_);simpa using h
 rw[if_neg e2];have kb0:0<kb:=Nat.pos_of_ne_zero (dw e2);have T:=N.two (k:=kk) (m:=kb) ek kb0 c1 (by have z:=k3 kk (QJ _) ek;unfold bey at z;simpa using z) (c2 (kb-1) (by omega));have fin:∀r g,oY LT (R1.drop kk).toArray (R2.take kb).toArray r->Q (failedOf st).isNone (SortSt.mk' (Rows.kindOf st) ((r.toList.zipIdx).foldl (fun a p=>a.setIfInBounds (P.length+kk+p.2) p.1) (arrOf st)) (((pendingOf st).setIfInBounds i (P.length,R1.length+R2.length,pw)).eraseIdxIfInBounds (i+1)) g (failedOf st)) s:=fun r g fr=>by
  obtain⟨z1,z2⟩:=N.asc k1 c1 lo hi fr.1 fr.2;rw[hk,hf];refine q (R1.take kk++(r.toList++R2.drop kb)) _ g ?_ z1 z2;have:=ue (sa:=P.length+kk) (S:=R2.drop kb++S) r.toList 0 (P++R1.take kk) (R1.drop kk++R2.take kb) (arrOf st) (by
   rw[ha];simp only[Q8];rw[<-Q8 (R1.take kk),ZK,<-Q8 (R2.take kb),ZK]) (by rw[QZ,Qp];omega) (by rw[fr.1.length_eq])
  rw[this];simp
 have s1:=Kb (k:=kk) ha;have s2:=Ka (m:=kb) ha c1;rw[<-s1,<-s2]at T fin;by_cases e3:R1.length-kk<=kb
 ·rw[if_pos e3];refine kasC_bind (F3 hl T hk (fun r st' gl fr=>?_));obtain⟨g,rfl⟩:=gl;exact kasC_bind (kasC_modify (kasC_bind (kasC_get (kasC_pure (fin r g fr)))))
 ·rw[if_neg e3];refine kasC_bind (F4 hl T hk (fun r st' gl fr=>?_));obtain⟨g,rfl⟩:=gl;exact kasC_bind (kasC_modify (kasC_bind (kasC_get (kasC_pure (fin r g fr)))))
end
variable{W:List Keyed}
section
variable{X:Keyed->Prop}
structure Od(LT:Keyed->Keyed->Bool)(X:Keyed->Prop)(W:List Keyed):Prop where
 xx:∀x∈W,X x
 tr:∀{x y z},X x->X y->X z->LT x y=true->LT y z=true->LT x z=true
 asym:∀{x y},X x->X y->LT x y=true->LT y x=false
 pw:W.Pairwise fun x y=>LT x y=true\/LT y x=true
theorem Od.perm{W':List Keyed}(O:Od LT X W)(h:W'.Perm W):Od LT X W':=⟨fun x hx=>O.xx x (h.mem_iff.mp hx),O.tr,O.asym,(h.pairwise_iff fun{x y} h=>h.symm).mpr O.pw⟩
theorem Od.tot(O:Od LT X W){i j:Nat}(hi:i<W.length)(hj:j<W.length)(hn:i≠j)(h:LT (kas_item W.toArray i) (kas_item W.toArray j)=false):LT (kas_item W.toArray j) (kas_item W.toArray i)=true:=by
 have e:∀{t:Nat} (ht:t<W.length),W[t]=kas_item W.toArray t:=fun{t} ht=>by
  have:=aV (l:=W.toArray) (i:=t) (by simpa using ht);simpa [ht] using this
 have key:LT (kas_item W.toArray i) (kas_item W.toArray j)=true\/LT (kas_item W.toArray j) (kas_item W.toArray i)=true:=by
  rcases Nat.lt_or_gt_of_ne hn with z|z
  ·have:=Ql.mp O.pw i j hi hj z;rwa[e hi,e hj]at this
  ·have:=Ql.mp O.pw j i hj hi z;rw[e hi,e hj]at this;exact this.symm
 rcases key with k|k
 ·rw[h]at k;cases k
 ·exact k
def G0(LT:Keyed->Keyed->Bool)(l:List Keyed):Prop:=l.Pairwise fun x y=>LT y x=true
theorem rn(hl:sk prog w A E s κ LT X)(O:Od LT X W){st:SortSt}{i j:Nat}{Q:Option Bool->SortSt->Shared->Prop}(hk:Rows.kindOf st=κ)(ha:(arrOf st).toList=P++W)(hi:i<W.length)(hj:j<W.length)(q:Q (some (LT (kas_item W.toArray i) (kas_item W.toArray j))) st s):kasC (model prog w) A E (ltAt' (P.length+i) (P.length+j)) Q st s:=by
 have h':(arrOf st).toList=P++(W++[]):=by rw[ha,Qn]
 rw[ltAt'_eq];refine kasC_bind (kasC_get ?_);refine kasC_bind (aW (jy h' hi).2 ?_);refine kasC_bind (aW (jy h' hj).2 ?_);exact hl _ _ _ _ (O.xx _ (im hi)) (O.xx _ (im hj)) hk q
theorem gN{n:Nat}(h:n<W.length):W.take (n+1)=W.take n++[kas_item W.toArray n]:=by
 rw[List.take_add_one];have:=aV (l:=W.toArray) (i:=n) (by simpa using h);simp only[List.getElem?_toArray]at this;rw[this];rfl
theorem Od.asc(O:Od LT X W){n:Nat}(h1:1<=n)(hn:n<W.length)(ha:cL LT (W.take n))(h:LT (kas_item W.toArray (n-1)) (kas_item W.toArray n)=true):cL LT (W.take (n+1)):=by
 rw[gN hn];refine Qh.mpr ⟨ha,X5 _ _,fun x hx y hy=>?_⟩;rw[Qg.mp hy];obtain⟨t,t1,t2,rfl⟩:=ip hx;by_cases e:t=n-1
 ·subst e;exact h
 ·refine O.tr (O.xx _ (im t2)) (O.xx _ (im (show n-1<W.length by omega))) (O.xx _ (im hn)) ?_ h;have:=ia (l:=W.take n) ha (i:=t) (j:=n-1) (by omega) (by rw[Qp];omega);rwa[bU t1,bU (by omega)]at this
theorem Od.dsc(O:Od LT X W){n:Nat}(h1:1<=n)(hn:n<W.length)(ha:G0 LT (W.take n))(h:LT (kas_item W.toArray n) (kas_item W.toArray (n-1))=true):G0 LT (W.take (n+1)):=by
 rw[gN hn];refine Qh.mpr ⟨ha,X5 _ _,fun x hx y hy=>?_⟩;rw[Qg.mp hy];obtain⟨t,t1,t2,rfl⟩:=ip hx;by_cases e:t=n-1
 ·subst e;exact h
 ·refine O.tr (O.xx _ (im hn)) (O.xx _ (im (show n-1<W.length by omega))) (O.xx _ (im t2)) h ?_;have:=ia (LT:=fun x y=>LT y x) (l:=W.take n) ha (i:=t) (j:=n-1) (by omega) (by rw[Qp];omega);rwa[bU t1,bU (by omega)]at this
theorem lt1(hl:sk prog w A E s κ LT X)(O:Od LT X W){st:SortSt}{n:Nat}{Q:Option Bool->SortSt->Shared->Prop}(hk:Rows.kindOf st=κ)(ha:(arrOf st).toList=P++W)(h1:1<=n)(hn:n<W.length)(q:Q (some (LT (kas_item W.toArray n) (kas_item W.toArray (n-1)))) st s):kasC (model prog w) A E (ltAt' (P.length+n) (P.length+n-1)) Q st s:=by
 rw[show P.length+n-1=P.length+(n-1)by omega];exact rn hl O hk ha hn (by omega) q
theorem lt2(hl:sk prog w A E s κ LT X)(O:Od LT X W){st:SortSt}{n:Nat}{Q:Option Bool->SortSt->Shared->Prop}(hk:Rows.kindOf st=κ)(ha:(arrOf st).toList=P++W)(h1:1<=n)(hn:n<W.length)(q:Q (some (LT (kas_item W.toArray (n-1)) (kas_item W.toArray n))) st s):kasC (model prog w) A E (ltAt' (P.length+n-1) (P.length+n)) Q st s:=by
 rw[show P.length+n-1=P.length+(n-1)by omega];exact rn hl O hk ha (by omega) hn q
theorem se(O:Od LT X W){st:SortSt}{f:Nat->Option (Option Nat)×Nat->StateT SortSt Sem (ForInStep (Option (Option Nat)×Nat))}
  (hf:∀x n,1<=n->n<W.length->∀R:_->SortSt->Shared->Prop,R (if LT (kas_item W.toArray n) (kas_item W.toArray (n-1))=true then .done (none,n)else .yield (none,n+1)) st s->kasC (model prog w) A E (f x (none,n)) R st s)
  {l:List Nat} {n:Nat} (hl:l.length+n=W.length) (h1:1<=n) (ha:cL LT (W.take n)) {Q:_->SortSt->Shared->Prop}
  (q:∀m,n<=m->m<=W.length->cL LT (W.take m)->(m=W.length\/LT (kas_item W.toArray m) (kas_item W.toArray (m-1))=true)->Q (none,m) st s):kasC (model prog w) A E (forIn l (none,n) f) Q st s:=by
 refine bT (fun k b st'=>st'=st/\∃m,b=(none,m)/\n<=m/\k+m=W.length/\cL LT (W.take m)) (fun x k b st' h=>?_) (fun b st' h=>?_) l _ _ ⟨rfl,n,rfl,QJ _,hl,ha⟩
 ·obtain⟨rfl,m,rfl,a1,a2,a3⟩:=h;refine hf x m (by omega) (by omega) _ ?_;cases hc:LT (kas_item W.toArray m) (kas_item W.toArray (m-1))with
  |true=>rw[if_pos rfl];exact q m a1 (by omega) a3 (.inr hc)
  |false=>
   rw[if_neg (by decide)];exact⟨⟨rfl,m+1,rfl,by omega,by omega,O.asc (by omega) (by omega) a3 (O.tot (by omega) (by omega) (by omega) hc)⟩,rfl⟩
 ·obtain⟨rfl,m,rfl,a1,a2,a3⟩:=h;exact q m a1 (by omega) a3 (.inl (by omega))
theorem yu{arr:Array Keyed}{n:Nat}(ha:arr.toList=P++W)(hn:n<=W.length):(mirror arr P.length (P.length+n) ((P.length+n-P.length) / 2)).toList=P++((W.take n).reverse++W.drop n):=by
 have hz:arr.size=P.length+W.length:=by rw[<-QY,ha,QZ]
 refine Zw fun k=>?_;have h:=getElem?_mirror_all (xs:=arr) (i:=P.length) (j:=P.length+n) (by omega) k;rw[QC,h];by_cases c1:k<P.length
 ·rw[if_neg (by omega),<-QC,ha,QD c1,QD c1]
 ·by_cases c2:k<P.length+n
  ·have lt:((W.take n).reverse).length=n:=by simp;omega
   rw[if_pos (by omega),<-QC,ha,QK (by omega),QK (by omega),QD (by omega),List.getElem?_reverse (by rw[Qp];omega),List.getElem?_take,Qp,if_pos (by omega)];congr 1;omega
  ·have lt:((W.take n).reverse).length=n:=by simp;omega
   rw[if_neg (by omega),<-QC,ha,QK (by omega),QK (by omega),QK (by omega),XQ,lt];congr 1;omega
theorem GP(hl:sk prog w A E s κ LT X)(O:Od LT X W){st:SortSt}{Q:Option Nat->SortSt->Shared->Prop}(hk:Rows.kindOf st=κ)(ha:(arrOf st).toList=P++W)(h1:1<=W.length)
  (q:∀n W' arr,1<=n->n<=W.length->arr.toList=P++W'->W'.Perm W->cL LT (W'.take n)->Q (some n) (setArr st arr) s):kasC (model prog w) A E (countRun' P.length W.length) Q st s:=by
 have one:cL LT (W.take 1):=by rw[gN (by omega)];exact X5 _ _
 refine kasC_bind (kasC_range (se O (fun x n a1 a2 R hR=>?_) (by rw[Z0];omega) (QJ 1) one fun m m1 m2 m3 m4=>?_))
 ·refine kasC_bind (lt1 hl O hk ha a1 a2 ?_);dsimp only;cases hc:LT (kas_item W.toArray n) (kas_item W.toArray (n-1))with
  |true=>rw[hc]at hR;exact kasC_pure hR
  |false=>rw[hc]at hR;exact kasC_pure hR
 dsimp only;by_cases e1:(m == W.length)=true
 ·rw[if_pos e1];exact kasC_pure (q m W (arrOf st) m1 m2 ha (.refl _) m3)
 rw[if_neg e1];have e1':=dw e1;have d1:LT (kas_item W.toArray m) (kas_item W.toArray (m-1))=true:=by
  rcases m4 with z|z
  ·omega
  ·exact z
 by_cases e2:m>1
 ·rw[if_pos e2];refine kasC_bind ?_;have r0:LT (kas_item W.toArray 0) (kas_item W.toArray (m-1))=true:=by
   have:=ia (l:=W.take m) m3 (i:=0) (j:=m-1) (by omega) (by rw[Qp];omega);rwa[bU (by omega),bU (by omega)]at this
  have:=rn (A:=A) (E:=E) (P:=P) (i:=0) (j:=m-1) (Q:=fun a st' s'=>a=some true/\st'=st/\s'=s) hl O hk ha (by omega) (by omega) ⟨by rw[r0],rfl,rfl⟩;rw[Nat.add_zero,show P.length+(m-1)=P.length+m-1 by omega]at this;refine a9 this ?_;rintro a st' s' ⟨rfl,rfl,rfl⟩;dsimp only;rw[if_pos rfl];exact kasC_pure (q m W (arrOf st') m1 m2 ha (.refl _) m3)
 rw[if_neg e2];have em:m=1:=by omega
 subst em;have d2:G0 LT (W.take (1+1)):=O.dsc (QJ 1) (by omega) (by rw[gN (by omega)];exact X5 _ _) d1;refine kasC_bind (kasC_lift (XC ?_));refine kasC_bind (kasC_range (a9 (Q':=fun b st' s'=>st'=st/\s'=s/\∃n,b=(none,n,0)/\2<=n/\n<=W.length/\G0 LT (W.take n)) (bT (fun k b st'=>st'=st/\∃n,b=(none,n,0)/\2<=n/\k+n=W.length/\G0 LT (W.take n)) (fun x k b st' h=>?_) (fun b st' h=>?_) _ _ _ ⟨rfl,2,rfl,QJ _,by rw[Z0];omega,d2⟩) ?_))
 ·obtain⟨rfl,n,rfl,a1,a2,a3⟩:=h;dsimp only;refine kasC_bind (lt1 hl O hk ha (show 1<=n by omega) (show n<W.length by omega) ?_);dsimp only;cases hc:LT (kas_item W.toArray n) (kas_item W.toArray (n-1))with
  |true=>
   rw[if_pos rfl,if_neg (by omega)];exact kasC_pure ⟨⟨rfl,n+1,rfl,by omega,by omega,O.dsc (by omega) (by omega) a3 hc⟩,rfl⟩
  |false=>
   rw[if_neg (by decide)];refine kasC_bind (lt2 hl O hk ha (show 1<=n by omega) (show n<W.length by omega) ?_);rw[O.tot (by omega) (by omega) (by omega) hc];exact kasC_pure ⟨rfl,rfl,n,rfl,a1,by omega,a3⟩
 ·obtain⟨rfl,n,rfl,a1,a2,a3⟩:=h;exact⟨rfl,rfl,n,rfl,a1,by omega,a3⟩
 ·rintro b st' s' ⟨rfl,rfl,n,rfl,a1,a2,a3⟩;dsimp only;rw[if_neg (by omega)];refine kasC_bind (kasC_modify ?_);have hp:((W.take n).reverse++W.drop n).Perm W:=by
   refine(List.Perm.append_right _ (List.reverse_perm _)).trans ?_;rw[ZK]
  have ln:((W.take n).reverse++W.drop n).length=W.length:=hp.length_eq;have tk:((W.take n).reverse++W.drop n).take n=(W.take n).reverse:=by
   rw[List.take_append_of_le_length (by simp;omega),ZI (by simp;omega)]
  have a0:cL LT (((W.take n).reverse++W.drop n).take n):=by rw[tk];exact List.pairwise_reverse.mpr a3
  have hr:=yu (n:=n) ha a2;refine kasC_bind (kasC_range (se (O.perm hp) (fun x n a1 a2 R hR=>?_) (n:=n) (by rw[Z0,ln];omega) (by omega) a0 fun m m1 m2 m3 m4=>?_))
  ·refine kasC_bind (lt1 hl (O.perm hp) hk hr a1 a2 ?_);dsimp only;cases hc:LT (kas_item ((W.take _).reverse++W.drop _).toArray n) (kas_item ((W.take _).reverse++W.drop _).toArray (n-1))with
   |true=>rw[hc]at hR;exact kasC_pure hR
   |false=>rw[hc]at hR;exact kasC_pure hR
  ·exact kasC_pure (q m _ _ (by omega) (by rw[<-ln];exact m2) hr hp m3)
end
theorem rN{β:Type}{f:Nat->β->StateT σ Sem (ForInStep β)}{Q:β->σ->Shared->Prop}{s:Shared}{e:Nat}(I:Nat->β->σ->Prop)
  (step:∀x b st,x<e->I x b st->kasC M A E (f x b) (fun r st' s'=>match r with|.done b'=>Q b' st' s'|.yield b'=>I (x+1) b' st'/\s'=s) st s)
  (fin:∀b st,I e b st->Q b st s):∀(n a:Nat) (b:β) (st:σ),a+n=e->I a b st->kasC M A E (forIn (List.range' a n) b f) Q st s
 |0,a,b,st,ha,h=>by
  have:a=e:=by omega
  subst this;exact kasC_nil (fin b st h)
 |n+1,a,b,st,ha,h=>by
  rw[List.range'_succ];refine kasC_cons ?_;have:=step a b st (by omega) h;unfold kasC at this ⊢;refine ZE this (fun r s' h'=>?_) fun _ _ e=>e;obtain⟨r,st'⟩:=r;cases r with
  |done b'=>exact h'
  |yield b'=>
   obtain⟨h1,rfl⟩:=h';exact rN I step fin n (a+1) b' st' (by omega) h1
section
variable{X:Keyed->Prop}
def AX(W:List Keyed)(k l:Nat):List Keyed:=W.take l++(kas_item W.toArray k::((W.take k).drop l++W.drop (k+1)))
theorem zw{k l:Nat}(hk:k<W.length)(hl:l<=k):(AX W k l).Perm W:=by
 have e:W=W.take l++((W.take k).drop l++(kas_item W.toArray k::W.drop (k+1))):=by
  have h1:=js (l:=W) hl;have h2:=ff (l:=W.toArray) (i:=k) (by simpa using hk);rw[<-Q8,h1];simp only at h2;rw[<-h2,ZK]
 refine List.Perm.trans ?_ (List.Perm.of_eq e.symm);exact List.Perm.append_left _ List.perm_middle.symm
theorem Dk(O:Od LT X W){k l:Nat}(hk:k<W.length)(hl:l<=k)(ha:cL LT (W.take k))(h1:∀t,t<l->LT (kas_item W.toArray t) (kas_item W.toArray k)=true)(h2:∀t,l<=t->t<k->LT (kas_item W.toArray k) (kas_item W.toArray t)=true):cL LT ((AX W k l).take (k+1)):=by
 have e:(AX W k l).take (k+1)=W.take l++(kas_item W.toArray k::(W.take k).drop l):=by
  have z:AX W k l=(W.take l++(kas_item W.toArray k::(W.take k).drop l))++W.drop (k+1):=by unfold AX;simp
  rw[z];exact List.take_left' (by simp;omega)
 rw[e];obtain⟨c1,c2⟩:=qe ha (i:=k) hl;rw[List.take_take,Nat.min_self]at c1;simp only[List.take_take,Nat.min_self,Nat.min_eq_left hl]at c2;refine Qh.mpr ⟨?_,Zg.mpr ⟨fun y hy=>?_,c1⟩,fun x hx y hy=>?_⟩
 ·have:=List.Pairwise.sublist (ZS l _) ha;rwa[List.take_take,Nat.min_eq_left hl]at this
 ·obtain⟨t,t1,t2,t3,rfl⟩:=wm (l:=W.toArray) hy;exact h2 t t1 t2
 ·rcases Qk.mp hy with rfl|hy
  ·obtain⟨t,t1,t2,rfl⟩:=ip hx;exact h1 t t1
  ·exact c2 x hx y hy
theorem zV{arr:Array Keyed}{k l:Nat}(ha:arr.toList=P++W)(hk:k<W.length)(hl:l<=k):(bubble arr (P.length+k) (P.length+k-(P.length+l))).toList=P++AX W k l:=by
 have hz:arr.size=P.length+W.length:=by rw[<-QY,ha,QZ]
 have gW:∀t,arr[P.length+t]?=W[t]?:=fun t=>by rw[<-QC,ha,QK (by omega),Zj]
 have ik:W[k]?=some (kas_item W.toArray k):=by
  have:=aV (l:=W.toArray) (i:=k) (by simpa using hk);simpa using this
 refine Zw fun t=>?_;have h:=getElem?_bubble (xs:=arr) (src:=P.length+k) (by omega) (P.length+k-(P.length+l)) (by omega) t;rw[QC,h,show P.length+k-(P.length+k-(P.length+l))=P.length+l by omega];by_cases c1:t<P.length
 ·rw[if_neg (by omega),if_neg (by omega),<-QC,ha,QD c1,QD c1]
 obtain⟨u,rfl⟩:∃u,t=P.length+u:=⟨t-P.length,by omega⟩;rw[QK (by omega),Zj];unfold AX;have lt:(W.take l).length=l:=by rw[Qp];omega
 by_cases c2:u=l
 ·subst c2;rw[if_pos rfl,gW,ik,QK (by omega),lt,XM];rfl
 rw[if_neg (by omega)];by_cases c3:u<l
 ·rw[if_neg (by omega),gW,QD (by omega),List.getElem?_take,if_pos c3]
 obtain⟨v,rfl⟩:∃v,u=l+(v+1):=⟨u-l-1,by omega⟩;rw[QK (by omega),lt,Zj,Qd];have ld:((W.take k).drop l).length=k-l:=by rw[Zs,Qp];omega
 by_cases c4:l+(v+1)<=k
 ·rw[if_pos (by omega),show P.length+(l+(v+1))-1=P.length+(l+v)by omega,gW,QD (by omega),XQ,List.getElem?_take,if_pos (by omega)]
 ·rw[if_neg (by omega),gW,QK (by omega),ld,XQ];congr 1;omega
theorem zW(hl:sk prog w A E s κ LT X)(O:Od LT X W){st:SortSt}{n ok:Nat}{Q:Bool->SortSt->Shared->Prop}(hk:Rows.kindOf st=κ)(ha:(arrOf st).toList=P++W)(h1:1<=ok)(hn:ok<=n)(hw:n<=W.length)(h2:cL LT (W.take ok))
  (q:∀W' arr,arr.toList=P++W'->W'.Perm W->cL LT (W'.take n)->Q true (setArr st arr) s):kasC (model prog w) A E (binarySort' P.length n ok) Q st s:=by
 refine kasC_bind (kasC_range (rN (e:=n) (fun x b st'=>b=(none,())/\∃W' arr,st'=setArr st arr/\arr.toList=P++W'/\W'.Perm W/\cL LT (W'.take x)) (fun x b st' hx h=>?_) (fun b st' h=>?_) _ _ _ _ (by omega) ⟨rfl,W,arrOf st,rfl,ha,.refl _,by rw[show max ok 1=ok by omega];exact h2⟩))
 ·obtain⟨rfl,W',arr,rfl,b1,b2,b3⟩:=h;dsimp only;have O':=O.perm b2;have xl:x<W'.length:=by rw[b2.length_eq];omega
  have as:∀i j,i<j->j<x->LT (kas_item W'.toArray i) (kas_item W'.toArray j)=true:=fun i j hij hj=>by
   have:=ia (l:=W'.take x) b3 (i:=i) (j:=j) hij (by rw[Qp];omega);rwa[bU (by omega),bU hj]at this
  refine kasC_bind (kasC_range (a9 (Q':=fun c st' s'=>st'=setArr st arr/\s'=s/\∃l r,c=(none,l,r)/\l<=x/\(∀t,t<l->LT (kas_item W'.toArray t) (kas_item W'.toArray x)=true)/\∀t,l<=t->t<x->LT (kas_item W'.toArray x) (kas_item W'.toArray t)=true)
   (bT (fun k c st'=>st'=setArr st arr/\∃l r,c=(none,l,r)/\l<=r/\r<=x/\r-l<=k/\(∀t,t<l->LT (kas_item W'.toArray t) (kas_item W'.toArray x)=true)/\∀t,r<=t->t<x->LT (kas_item W'.toArray x) (kas_item W'.toArray t)=true) (fun y k c st' h=>?_) (fun c st' h=>?_) _ _ _ ⟨rfl,0,x,rfl,Qi _,QJ _,by rw[Z0];omega,fun t ht=>by omega,fun t a b=>by omega⟩) ?_))
  ·obtain⟨rfl,l,r,rfl,c1,c2,c3,c4,c5⟩:=h;dsimp only;by_cases e:l≥r
   ·rw[if_pos e];exact kasC_pure ⟨rfl,rfl,l,r,rfl,by omega,c4,fun t a b=>c5 t (by omega) b⟩
   rw[if_neg e];have ml:(l+r) / 2<x:=by omega
   refine kasC_bind (rn hl O' hk b1 xl (show(l+r) / 2<W'.length by omega) ?_);dsimp only;cases hc:LT (kas_item W'.toArray x) (kas_item W'.toArray ((l+r) / 2))with
   |true=>
    refine kasC_pure ⟨⟨rfl,l,(l+r) / 2,rfl,by omega,by omega,by omega,c4,fun t a b=>?_⟩,rfl⟩;by_cases e2:t=(l+r) / 2
    ·subst e2;exact hc
    ·exact O'.tr (O'.xx _ (im xl)) (O'.xx _ (im (by omega))) (O'.xx _ (im (by omega))) hc (as _ t (by omega) b)
   |false=>
    have hc':=O'.tot xl (show(l+r) / 2<W'.length by omega) (by omega) hc;refine kasC_pure ⟨⟨rfl,(l+r) / 2+1,r,rfl,by omega,by omega,by omega,fun t a=>?_,c5⟩,rfl⟩;by_cases e2:t=(l+r) / 2
    ·subst e2;exact hc'
    ·exact O'.tr (O'.xx _ (im (by omega))) (O'.xx _ (im (by omega))) (O'.xx _ (im xl)) (as t _ (by omega) ml) hc'
  ·obtain⟨rfl,l,r,rfl,c1,c2,c3,c4,c5⟩:=h;exact⟨rfl,rfl,l,r,rfl,by omega,c4,fun t a b=>c5 t (by omega) b⟩
  ·rintro c st' s' ⟨rfl,rfl,l,r,rfl,c1,c2,c3⟩;refine kasC_bind (kasC_modify (kasC_pure ⟨⟨rfl,AX W' x l,_,rfl,zV b1 xl c1,(zw xl c1).trans b2,Dk O' xl c1 b3 c2 c3⟩,rfl⟩))
 ·obtain⟨rfl,W',arr,rfl,b1,b2,b3⟩:=h;exact kasC_pure (q W' arr b1 b2 b3)
abbrev Rn:=List (List Keyed×Nat)
def dB:Nat->Rn->List (Nat×Nat×Nat)
 |_,[]=>[]
 |o,r::Rs=>(o,r.1.length,r.2)::dB (o+r.1.length) Rs
def flR(Rs:Rn):List Keyed:=Rs.flatMap (·.1)
theorem jx:∀(Rs:Rn) (o:Nat),(dB o Rs).length=Rs.length
 |[],_=>rfl
 |r::Rs,o=>by rw[dB,QH,QH,jx Rs]
theorem eB:∀(Rs Ss:Rn) (o:Nat),dB o (Rs++Ss)=dB o Rs++dB (o+(flR Rs).length) Ss
 |[],Ss,o=>rfl
 |r::Rs,Ss,o=>by
  rw[Qv,dB,dB,Qv,eB Rs Ss];unfold flR;rw[XB,QZ,Nat.add_assoc]
theorem iY(Rs Ss:Rn):flR (Rs++Ss)=flR Rs++flR Ss:=Zk
structure RI(LT:Keyed->Keyed->Bool)(l0:List Keyed)(κ:SortKind)(Rs:Rn)(W:List Keyed)(st:SortSt):Prop where
 kd:Rows.kindOf st=κ
 fl:failedOf st=none
 ar:(arrOf st).toList=flR Rs++W
 pe:(pendingOf st).toList=dB 0 Rs
 pm:(flR Rs++W).Perm l0
 as:∀r∈Rs,cL LT r.1/\0<r.1.length
theorem Od.nb{l0 R1 R2 B C:List Keyed}(O:Od LT X l0)(h:(B++(R1++(R2++C))).Perm l0)(n1:0<R1.length)(n2:0<R2.length)(a1:cL LT R1)(a2:cL LT R2):Nb LT X R1 R2:=by
 have O':=O.perm h;have m1:∀x∈R1,x∈B++(R1++(R2++C)):=fun x hx=>QL _ (Qm _ hx);have m2:∀x∈R2,x∈B++(R1++(R2++C)):=fun x hx=>QL _ (QL _ (Qm _ hx));have pw:=(Qh.mp (Qh.mp O'.pw).2.1).2.2;refine⟨n1,n2,a1,a2,fun x hx=>O'.xx x (m1 x hx),fun x hx=>O'.xx x (m2 x hx),O.tr,fun x hx y hy h=>O.asym (O'.xx x (m1 x hx)) (O'.xx y (m2 y hy)) h,fun x hx y hy h=>?_⟩;rcases pw x hx y (Qm _ hy)with z|z
 ·exact z
 ·rw[h]at z;cases z
theorem Cm(hl:sk prog w A E s κ LT X){l0:List Keyed}(O:Od LT X l0){Rs Ss:Rn}{r1 r2:List Keyed×Nat}{st:SortSt}{Q:Bool->SortSt->Shared->Prop}(I:RI LT l0 κ (Rs++r1::r2::Ss) W st)
  (q:∀R st',RI LT l0 κ (Rs++(R,r1.2)::Ss) W st'->Q true st' s):kasC (model prog w) A E (mergeAt' Rs.length) Q st s:=by
 have e0:flR (Rs++r1::r2::Ss)++W=flR Rs++(r1.1++(r2.1++(flR Ss++W))):=by
  rw[iY];unfold flR;rw[XB,XB];simp only[Q8]
 have pe:=I.pe;rw[eB,dB,dB,X6]at pe;have lp:(dB 0 Rs).length=Rs.length:=jx _ _;obtain⟨a1,n1⟩:=I.as r1 (by simp);obtain⟨a2,n2⟩:=I.as r2 (by simp);refine F5 hl (O.nb (B:=flR Rs) (C:=flR Ss++W) (by rw[<-e0];exact I.pm) n1 n2 a1 a2) (P:=flR Rs) (S:=flR Ss++W) I.kd I.fl (by rw[I.ar,e0]) (pw:=r1.2) (pw2:=r2.2) (by rw[<-QC,pe,<-lp,QK (QJ _),XM];rfl) (by rw[<-QC,pe,<-lp,QK (by omega),Zj];rfl) fun R arr g h1 h2 h3=>?_;have e1:flR (Rs++(R,r1.2)::Ss)++W=flR Rs++(R++(flR Ss++W)):=by
  rw[iY];unfold flR;rw[XB];simp only[Q8]
 refine q R _ ⟨rfl,rfl,by rw[e1];exact h1,?_,?_,fun r hr=>?_⟩
 ·show(((pendingOf st).setIfInBounds Rs.length _).eraseIdxIfInBounds (Rs.length+1)).toList=_;rw[Array.toList_eraseIdxIfInBounds,Array.toList_setIfInBounds,pe,eB,dB,X6];have lR:=h2.length_eq;rw[QZ]at lR;conv=>lhs;rw[<-lp]
  rw[XO _ _ (QJ _),XM,List.eraseIdx_append_of_length_le (by omega),Zj];simp only[XT,List.eraseIdx_cons_succ,List.eraseIdx_cons_zero,lR,Nat.add_assoc]
 ·rw[e1];refine List.Perm.trans ?_ I.pm;rw[e0];refine List.Perm.append_left _ ?_;rw[<-Q8 r1.1];exact List.Perm.append_right _ h2
 ·rcases QN.mp hr with hr|hr
  ·exact I.as r (Qm _ hr)
  ·rcases Qk.mp hr with rfl|hr
   ·exact⟨h3,by rw[h2.length_eq,QZ];omega⟩
   ·exact I.as r (QL _ (QF _ (QF _ hr)))
theorem RI.size{l0 W:List Keyed}{Rs:Rn}{st:SortSt}(I:RI LT l0 κ Rs W st):(pendingOf st).size=Rs.length:=by
 rw[<-QY,I.pe,jx]
theorem RI.few{l0 W:List Keyed}{Rs:Rn}{st:SortSt}(I:RI LT l0 κ Rs W st):Rs.length<=(flR Rs).length:=by
 have as:=I.as;clear I;induction Rs with
 |nil=>exact Qi _
 |cons r Rs ih=>
  have h1:=(as r QB).2;have h2:=ih fun x hx=>as x (QF _ hx);unfold flR at h2 ⊢;rw[XB,QZ,QH];omega
theorem Az(hl:sk prog w A E s κ LT X){l0 W:List Keyed}(O:Od LT X l0){Rs:Rn}{st:SortSt}{i:Nat}{Q:Bool->SortSt->Shared->Prop}(I:RI LT l0 κ Rs W st)(hi:i+1<Rs.length)
  (q:∀Rs' st',RI LT l0 κ Rs' W st'->Rs'.length+1=Rs.length->Q true st' s):kasC (model prog w) A E (mergeAt' i) Q st s:=by
 obtain⟨As,r1,r2,Bs,e,hA⟩:∃As r1 r2 Bs,Rs=As++r1::r2::Bs/\As.length=i:=by
  refine⟨Rs.take i,Rs[i],Rs[i+1],Rs.drop (i+2),?_,by rw[Qp];omega⟩;conv=>lhs;rw[<-ZK i Rs]
  rw[List.drop_eq_getElem_cons (by omega),List.drop_eq_getElem_cons hi]
 subst e;rw[<-hA];refine Cm hl O I fun R st' I'=>q _ st' I' ?_;simp only[QZ,QH];omega
theorem rj{α:Type}(f:α->α)(x:α):∀l:List α,(l++[x]).modify l.length f=l++[f x]
 |[]=>rfl
 |a::l=>by
  have:=rj f x l;rw[Qv,QH,List.modify_succ_cons,this];rfl
theorem RI.arr{l0 W W':List Keyed}{Rs:Rn}{st:SortSt}{arr:Array Keyed}(I:RI LT l0 κ Rs W st)(h1:arr.toList=flR Rs++W')(h2:W'.Perm W):RI LT l0 κ Rs W' (setArr st arr):=⟨I.kd,I.fl,h1,I.pe,(List.Perm.append_left _ h2).trans I.pm,I.as⟩
theorem RI.push{l0 W:List Keyed}{Rs:Rn}{st:SortSt}{n lo:Nat}(I:RI LT l0 κ Rs W st)(hlo:lo=(flR Rs).length)(h1:1<=n)(hn:n<=W.length)(ha:cL LT (W.take n)):RI LT l0 κ (Rs++[(W.take n,0)]) (W.drop n) (setPending st ((pendingOf st).push (lo,n,0))):=by
 have e:flR (Rs++[(W.take n,0)])++W.drop n=flR Rs++W:=by
  rw[iY,Q8];simp[flR]
 refine⟨I.kd,I.fl,by rw[e];exact I.ar,?_,by rw[e];exact I.pm,fun r hr=>?_⟩
 ·show((pendingOf st).push (lo,n,0)).toList=_;rw[Xq,I.pe,eB,dB,dB,hlo,X6,Qp,Nat.min_eq_left hn]
 ·rcases QN.mp hr with hr|hr
  ·exact I.as r hr
  ·rw[Qg.mp hr];exact⟨ha,by rw[Qp];omega⟩
theorem RI.pow{l0 W:List Keyed}{Rs:Rn}{r:List Keyed×Nat}{st:SortSt}{pw:Nat}(I:RI LT l0 κ (Rs++[r]) W st):RI LT l0 κ (Rs++[(r.1,pw)]) W (setPending st ((pendingOf st).modify ((pendingOf st).size-1) fun x=>(x.1,x.2.1,pw))):=by
 have e:flR (Rs++[(r.1,pw)])=flR (Rs++[r]):=by rw[iY,iY];simp[flR]
 refine⟨I.kd,I.fl,by rw[e];exact I.ar,?_,by rw[e];exact I.pm,fun x hx=>?_⟩
 ·show((pendingOf st).modify ((pendingOf st).size-1) fun x=>(x.1,x.2.1,pw)).toList=_;have sz:=I.size;rw[QZ,Qo]at sz;have lp:(dB 0 Rs).length=Rs.length:=jx _ _;rw[Array.toList_modify,I.pe,sz,Nat.add_sub_cancel,eB,eB,dB,dB,dB,dB,<-lp];rw[rj]
 ·rcases QN.mp hx with hx|hx
  ·exact I.as x (Qm _ hx)
  ·rw[Qg.mp hx];exact I.as r (QL _ QB)
theorem AO{α:Type}(l:List α):l=[]\/∃a b,l=a++[b]:=by
 rcases List.eq_nil_or_concat l with h|⟨a,b,h⟩
 ·exact .inl h
 ·rw[List.concat_eq_append]at h;exact .inr ⟨a,b,h⟩
theorem RI.back0{l0 W:List Keyed}{st:SortSt}(I:RI LT l0 κ [] W st):(pendingOf st).back?=none:=by
 have:=I.pe;rw[<-Array.getLast?_toList,this];rfl
theorem RI.back{l0 W:List Keyed}{Rs:Rn}{r:List Keyed×Nat}{st:SortSt}(I:RI LT l0 κ (Rs++[r]) W st):∃s1 n1 p1,(pendingOf st).back?=some (s1,n1,p1):=by
 have:=I.pe;rw[eB,dB,dB]at this;exact⟨_,_,_,by rw[<-Array.getLast?_toList,this,List.getLast?_concat]⟩
theorem RI.len{l0 W:List Keyed}{Rs:Rn}{st:SortSt}(I:RI LT l0 κ Rs W st):(flR Rs).length+W.length=l0.length:=by
 rw[<-QZ];exact I.pm.length_eq
theorem AI{Rs:Rn}{W:List Keyed}{m:Nat}(h:m<=W.length):(flR (Rs++[(W.take m,0)])).length=(flR Rs).length+m:=by
 rw[iY,QZ];congr 1;simp[flR];omega
theorem Cg (hl : sk prog w A E s κ LT X) {l0 : List Keyed} (O : Od LT X l0) {st : SortSt} {Q : Unit -> SortSt -> Shared -> Prop} (hk : Rows.kindOf st = κ) (hf : failedOf st = none) (ha : (arrOf st).toList = l0) (hp : pendingOf st = #[]) (n0 : 0 < l0.length)
    (q:∀st' R,failedOf st'=none->(arrOf st').toList=R->R.Perm l0->cL LT R->Q () st' s):kasC (model prog w) A E sortRuns' Q st s:=by
  have hz:(arrOf st).size=l0.length:=by rw[<-QY,ha]
  rw[sortRuns'_eq];refine kasC_bind (kasC_get ?_);dsimp only;rw[hz];refine kasC_bind (kasC_range (a9 (Q':=fun c st' s'=>s'=s/\∃Rs,RI LT l0 κ Rs [] st'/\∃lo,c=(none,lo)) (bT (fun k c st'=>∃Rs W,RI LT l0 κ Rs W st'/\W.length<=k/\c=(none,(flR Rs).length)) (fun x k c st' h=>?_) (fun c st' h=>?_) _ _ _ ⟨[],l0,⟨hk,hf,by rw[ha];rfl,by rw[hp];rfl,.refl _,fun r hr=>by cases hr⟩,by rw[Z0];omega,rfl⟩) ?_))
  · obtain⟨Rs,W,I,hw,rfl⟩:=h
    have hs:(flR Rs).length+W.length=l0.length:=by rw[<-QZ];exact I.pm.length_eq
    dsimp only;by_cases e:(flR Rs).length≥l0.length
    · rw[if_pos e]
      have:W=[]:=X4 (by omega);subst this;exact kasC_pure ⟨rfl,Rs,I,_,rfl⟩
    rw[if_neg e];have OW:Od LT X W:=by
      have:=O.perm I.pm;exact⟨fun x hx=>this.xx x (QL _ hx),this.tr,this.asym,(Qh.mp this.pw).2.1⟩
    rw[show l0.length-(flR Rs).length=W.length by omega];refine kasC_bind (GP hl OW I.kd I.ar (by omega) (fun n W1 arr1 b1 b2 b3 b4 b5=>?_));dsimp only;by_cases em:n<minRun' l0.length l0.length 0
    all_goals first|rw[if_pos em]|rw[if_neg em]
    all_goals first
      | (refine kasC_bind (kasC_lift (XC ?_))
         refine kasC_bind (zW (st:=setArr st' arr1) hl (OW.perm b4) I.kd b3 b1 (show n<=min W.length (minRun' l0.length l0.length 0)by omega) (by rw[b4.length_eq];omega) b5 (fun W2 arr2 c1 c2 c3=>?_));rw[if_neg (by decide)];have I1:RI LT l0 κ Rs W2 (setArr st' arr2):=I.arr c1 (c2.trans b4);have l2:W2.length=W.length:=(c2.trans b4).length_eq;have n1:1<=min W.length (minRun' l0.length l0.length 0):=by omega
         have n2:min W.length (minRun' l0.length l0.length 0)<=W2.length:=by omega
         change kasC _ _ _ _ _ (setArr st' arr2) _;generalize min W.length (minRun' l0.length l0.length 0)=m at c3 n1 n2 ⊢)
      | (have I1 : RI LT l0 κ Rs W1 (setArr st' arr1) := I.arr b3 b4
         have l2:W1.length=W.length:=b4.length_eq;have c3:=b5;have n1:=b1;have n2:n<=W1.length:=by omega
         generalize W1=W2 at I1 l2 c3 n2;generalize n=m at c3 n1 n2 ⊢;generalize arr1=arr2 at I1 ⊢)
    all_goals
      generalize setArr st' arr2=st1 at I1 ⊢;refine kasC_bind (kasC_get ?_);rcases AO Rs with rfl|⟨Rs0,r,rfl⟩
      · rw[I1.back0]
        exact kasC_bind (kasC_modify (kasC_pure ⟨⟨_,_,I1.push rfl n1 n2 c3,by rw[Zs];omega,by rw[AI n2]⟩,rfl⟩))
      obtain⟨s1,p1,p2,hb⟩:=I1.back;rw[hb];dsimp only;refine kasC_bind (kasC_range (a9 (Q':=fun c st2 s2=>s2=s/\c=(none,())/\∃Rs',RI LT l0 κ Rs' W2 st2/\0<Rs'.length) (bT (fun k c st2=>c=(none,())/\∃Rs',RI LT l0 κ Rs' W2 st2/\0<Rs'.length) (fun x k c st2 h=>?_) (fun c st2 h=>?_) _ _ _ ⟨rfl,_,I1,by simp⟩) ?_))
      · obtain⟨rfl,Rs',I2,hr⟩:=h
        refine kasC_bind (kasC_get ?_);rw[I2.size];by_cases e9:Rs'.length>1
        · rw[if_pos e9]
          cases hq:(pendingOf st2)[Rs'.length-2]? with
          |none=>exact kasC_pure ⟨rfl,rfl,Rs',I2,hr⟩
          | some o=>
            obtain⟨o1,o2,o3⟩:=o;dsimp only;split
            · exact kasC_pure ⟨rfl,rfl,Rs',I2,hr⟩
            · refine kasC_bind (Az hl O I2 (by omega) fun Rs2 st3 I3 h3=>?_)
              exact kasC_pure ⟨⟨rfl,Rs2,I3,by omega⟩,rfl⟩
        · rw[if_neg e9]
          exact kasC_pure ⟨rfl,rfl,Rs',I2,hr⟩
      · obtain⟨rfl,Rs',I2,hr⟩:=h
        exact⟨rfl,rfl,Rs',I2,hr⟩
      · rintro c st2 s2 ⟨rfl,rfl,Rs',I2,hr⟩
        rcases AO Rs' with rfl|⟨Rs1,r',rfl⟩
        · cases hr
        dsimp only;refine kasC_bind (kasC_modify ?_);have I3:=I2.pow (pw:=power' l0.length (2*s1+p1) (2*s1+p1+p1+m) l0.length);have z1:=I1.len;have z3:=I3.len;have I4:=I3.push (lo:=(flR (Rs0++[r])).length) (by omega) n1 n2 c3;exact kasC_bind (kasC_modify (kasC_pure ⟨⟨_,_,I4,by rw[Zs];omega,by rw[AI n2];congr 1;omega⟩,rfl⟩))
  · obtain⟨Rs,W,I,hw,rfl⟩:=h
    have:W=[]:=X4 (by omega);subst this;exact⟨rfl,Rs,I,_,rfl⟩
  · rintro c st' s' ⟨rfl,Rs,I,lo,rfl⟩
    dsimp only;have fw:=I.few;have fz:(flR Rs).length=l0.length:=by have:=I.pm.length_eq;rwa[Qn]at this
    refine kasC_bind (kasC_range (a9 (Q':=fun c st' s2=>s2=s'/\c=(none,())/\∃Rs,RI LT l0 κ Rs [] st'/\Rs.length<=1) (bT (fun k c st'=>c=(none,())/\∃Rs,RI LT l0 κ Rs [] st'/\Rs.length<=k+1) (fun x k c st' h=>?_) (fun c st' h=>?_) _ _ _ ⟨rfl,Rs,I,by rw[Z0];omega⟩) ?_))
    · obtain⟨rfl,Rs,I,hr⟩:=h
      refine kasC_bind (kasC_get ?_);rw[I.size];by_cases e:Rs.length<=1
      · rw[if_pos e]
        exact kasC_pure ⟨rfl,rfl,Rs,I,e⟩
      rw[if_neg e];have hi:∀(c:Prop) [Decidable c],(if c then Rs.length-2-1 else Rs.length-2)+1<Rs.length:=fun c _=>by split<;>omega
      refine kasC_bind (Az hl O I (hi _) fun Rs' st2 I' h'=>?_);exact kasC_pure ⟨⟨rfl,Rs',I',by omega⟩,rfl⟩
    · obtain⟨rfl,Rs,I,hr⟩:=h
      exact⟨rfl,rfl,Rs,I,by omega⟩
    · rintro c st' s2 ⟨rfl,rfl,Rs,I,hr⟩
      refine kasC_pure ?_;cases Rs with
      |nil=>have:=I.pm.length_eq;simp[flR]at this;omega
      | cons r Rs=>
        have:Rs=[]:=X4 (by rw[QH]at hr;omega);subst this;have e:flR [r]++[]=r.1:=by simp[flR]
        have pm:=I.pm;have ar:=I.ar;rw[e]at pm ar;exact q _ r.1 I.fl ar pm (I.as r QB).1
end
theorem yN{α β:Type}(g:α->β){l:List α}:∀{R M:List β},R.Perm M->M=l.map g->∃q:List α,q.Perm l/\R=q.map g:=fun{R M} h=>by
 induction h generalizing l with
 |nil=>
  intro e;cases l with
  |nil=>exact⟨[],.refl _,rfl⟩
  |cons a l=>cases e
 |cons x _ ih=>
  intro e;cases l with
  |nil=>cases e
  |cons a l=>
   injection e with e1 e2;obtain⟨q,h1,h2⟩:=ih e2;exact⟨a::q,h1.cons a,by rw[Qx,<-h2,e1]⟩
 |swap x y t=>
  intro e;cases l with
  |nil=>cases e
  |cons a l=>cases l with
   |nil=>cases e
   |cons b l=>
    injection e with e1 e2;injection e2 with e2 e3;exact⟨b::a::l,.swap _ _ _,by rw[Qx,Qx,e1,e2,e3]⟩
 |trans _ _ ih1 ih2=>
  intro e;obtain⟨q,h1,h2⟩:=ih2 e;obtain⟨q',h3,h4⟩:=ih1 h2;exact⟨q',h3.trans h1,h4⟩
theorem Iu{n:Nat}{q:List Nat}(h:q.Perm (Qz n)):Pm n q.toArray:=by
 have hl:q.length=n:=by rw[h.length_eq,Zm]
 have gd:∀i (hi:i<n),q.toArray.getD i 0=q[i]'(by omega):=fun i hi=>by simp[XX,hl,hi]
 refine⟨by simpa using hl,fun i hi=>?_,fun i j hij hj=>?_⟩
 ·rw[gd i hi];exact Qy.mp (h.mem_iff.mp (ZR _))
 ·rw[gd i (by omega),gd j hj];exact fun e=>by have:=(List.getElem_inj (h.nodup_iff.mpr Zh)).mp e;omega
theorem kA{prog:Program}{w:World}{A:Around}{E:Value->Shared->Prop}{s:Shared}{a:Addr}{vs:List Value}{n:Nat}{P:PySem.Fin->Shared->Prop}
  (g:s.heap.get? a=some (seqObj "list" vs.toArray n)) (h2:2<=vs.length) (hz:vs.length<=sizeLine)
  (ask:∀h':Heap,(∀b o,b≠a->s.heap.get? b=some o->h'.get? b=some o)->wpAny (model prog w) A (keyKind' vs.toArray) (fun κ s'=>s'={ s with heap:=h' }/\kasC (model prog w) A E sortRuns'
   (fun _ st s''=>s''={ s with heap:=h' }/\failedOf st=none/\(arrOf st).size=vs.length/\P (Fin.done (Flow.ret Value.none)) { s with heap:=sortedHeap s.heap a vs (Array.map (fun x=>x.snd) (arrOf st)) }) (SortSt.mk' κ (vs.toArray.zip vs.toArray) #[] 7 none) { s with heap:=h' }) E { s with heap:=h' }) :
  wpAny (model prog w) A (Builtin.«list.sort» { pos:=[Value.ref a] }) P E s:=by
 rw[list_sort_plain];have hS:vs.toArray.size=vs.length:=by simp
 refine Q0 (listItems_at g rfl (Q0 (listUpdate_at g rfl ?_ (by rw[hS];exact hz) (by simp))));obtain⟨e1,g1⟩:∃e1,(s.heap.update a (Obj.mapSeq fun _=>#[])).get? a=some (seqObj "list" #[] e1):=⟨_,get?_update_seq g fun _=>#[]⟩;refine Q0 (seqEpoch_at g1 rfl (Q0 (wpAny_newTuple (Q0 (wpAny_newList (wpAny_holding ?_) (by simp))) (by simpa using hz))));have g2:(((s.heap.update a (Obj.mapSeq fun _=>#[])).push (seqObj "tuple" vs.toArray 0)).push (seqObj "list" #[] 0)).get? a=some (seqObj "list" #[] e1):=
  Q3 _ (Q3 _ g1)
 have n2:¬vs.toArray.size<2:=by rw[hS];omega
 dsimp only;rw[if_neg n2];have hk:∀b o,b≠a->s.heap.get? b=some o->(((s.heap.update a (Obj.mapSeq fun _=>#[])).push (seqObj "tuple" vs.toArray 0)).push (seqObj "list" #[] 0)).get? b=some o:=fun b o hb ho=>by
  refine Q3 _ (Q3 _ ?_);rw[Heap.get?_update_ne _ _ _ _ hb];exact ho
 refine Q0 (ZE (ask _ hk) (fun κ s' hs'=>?_) fun _ _ h'=>h');obtain⟨rfl,hrun⟩:=hs';rw[if_neg n2];refine Q0 (ZE hrun (fun r s' hr=>?_) fun _ _ h'=>h');obtain⟨u,st'⟩:=r;obtain⟨rfl,hfail,hsz,hP⟩:=hr;refine Q0 (seqEpoch_at g2 rfl (Q0 (listUpdate_at g2 rfl ?_ (by simp) ?_)))
 ·dsimp only at hfail ⊢;rw[hfail];simp only[bne_self_eq_false,Qr,if_false];exact Q6 hP
 ·dsimp only;rw[Array.size_map];dsimp only at hsz;omega
theorem eL{prog:Program}{w:World}{A:Around}{E:Value->Shared->Prop}{s:Shared}{a:Addr}{vs:List Value}{ps:List (Int×Int)}{n:Nat}{P:PySem.Fin->Shared->Prop}
  (g:s.heap.get? a=some (seqObj "list" vs.toArray n)) (hp:cI s.heap vs ps) (hv:∀v∈vs,v≠.ref a) (nd:ps.Nodup) (hz:ps.length<=sizeLine)
  (k:∀q:Array Nat,D8 ps q->P (Fin.done (Flow.ret Value.none)) { s with heap:=sortedHeap s.heap a vs (q.toList.map fun i=>vs.getD i Value.none).toArray }) :
  wpAny (model prog w) A (Builtin.«list.sort» { pos:=[Value.ref a] }) P E s:=by
 have hl:=dj hp;by_cases h2:vs.length<2
 ·have hr:((Qz ps.length).toArray.toList.map fun i=>vs.getD i Value.none)=vs:=by
   rw[<-hl];refine Zw fun i=>?_;by_cases hi:i<vs.length
   ·simp[XD hi,Q4 hi]
   ·simp[ZU (Nat.le_of_not_lt hi),hi]
  have:=k (Qz ps.length).toArray ⟨mn,fun i j hij hj=>by omega⟩;rw[hr]at this;exact fe g h2 this
 ·refine kA g (by omega) (by omega) fun h' m=>?_;have hp':cI ({ s with heap:=h' }:Shared).heap vs ps:=fG m hp hv;refine sU hp' (by omega) ⟨rfl,?_⟩;obtain⟨f,hf⟩:∃f:Keyed->Int×Int,∀x p,aZ h' x.1 p->f x=p:=by
   classical
   refine⟨fun x=>if h:∃p,aZ h' x.1 p then h.choose else(0,0),fun x p hp=>?_⟩;have h:∃p,aZ h' x.1 p:=⟨p,hp⟩;dsimp only;rw[dif_pos h];obtain⟨b,o,t1,t2,e,hx,g1,_,d1⟩:=h.choose_spec;obtain⟨b',o',t1',t2',e',hx',g1',_,d1'⟩:=hp;rw[hx]at hx';cases hx';rw[g1]at g1';cases g1';rw[d1]at d1';injection d1' with d2 _;have d3:=congrArg Array.toList d2;simp only[List.cons.injEq,Value.int.injEq]at d3;exact Prod.ext d3.1.1 d3.2.1.1
  obtain⟨it,hit⟩:∃it:Nat->Keyed,it=kas_item (vs.toArray.zip vs.toArray):=⟨_,rfl⟩;have it1:∀i,i<ps.length->it i=(vs.getD i Value.none,vs.getD i Value.none):=fun i hi=>by
   rw[hit];exact kat_item rfl i
  have fi:∀i,i<ps.length->aZ h' (it i).1 (f (it i))/\f (it i)=ps.getD i (0,0):=fun i hi=>by
   have h1:=hE hp' hi;have h2:f (it i)=ps.getD i (0,0):=hf _ _ (by rw[it1 i hi];exact h1);exact⟨by rw[h2,it1 i hi];exact h1,h2⟩
  have l0:(vs.toArray.zip vs.toArray).toList=(Qz ps.length).map it:=by
   have e:=kas_range (vs.toArray.zip vs.toArray);rw[show(vs.toArray.zip vs.toArray).size=ps.length by simp[hl]]at e;rw[<-hit]at e;rw[<-e];simp
  have LO:=F7 nd;have lev:sk prog w A E { s with heap:=h' } (tuples' true) (fun x y=>ltP (f x) (f y)) (fun x=>aZ h' x.1 (f x)):=fun x y st Q hx hy hk hq=>by
   rw[lt'_eq];refine kasC_bind (kasC_get ?_);rw[hk];exact kasC_bind (kasC_lift (wpAny_attempt (CP (s:={ s with heap:=h' }) hx hy (kasC_pure hq))))
  have od:Od (fun x y=>ltP (f x) (f y)) (fun x=>aZ h' x.1 (f x)) ((Qz ps.length).map it):=by
   refine⟨fun x hx=>?_,fun{x y z} _ _ _ h1 h2=>?_,fun{x y} _ _ h=>?_,?_⟩
   ·obtain⟨i,hi,rfl⟩:=Qc.mp hx;exact(fi i (Qy.mp hi)).1
   ·simp only[ltP,decide_eq_true_eq]at *;omega
   ·simp only[ltP,decide_eq_true_eq,decide_eq_false_iff_not]at *;omega
   ·refine Zy.mpr (List.Pairwise.imp_of_mem (fun{i j} hi hj hn=>?_) Zh);have hi:=Qy.mp hi;have hj:=Qy.mp hj;rw[(fi i hi).2,(fi j hj).2];cases hc:ltP (ps.getD i (0,0)) (ps.getD j (0,0))with
    |true=>exact .inl rfl
    |false=>exact .inr (LO.tot hi hj hn hc)
  refine Cg lev od rfl rfl l0 rfl (by rw[QX,Zm];omega) fun st R h3 h4 h5 h6=>?_;obtain⟨q,q1,q2⟩:=yN it h5 rfl;have ql:q.length=ps.length:=by rw[q1.length_eq,Zm]
  have qb:∀i∈q,i<ps.length:=fun i hi=>Qy.mp (q1.mem_iff.mp hi);have ha:Array.map (fun x=>x.snd) (arrOf st)=(q.toArray.toList.map fun i=>vs.getD i Value.none).toArray:=by
   apply Array.toList_inj.mp;rw[Array.toList_map,h4,q2,Qe];exact XE fun i hi=>by show(it i).2=_;rw[it1 i (qb i hi)]
  refine⟨rfl,h3,by rw[<-QY,h4,q2,QX,ql,hl],?_⟩;rw[ha];refine k q.toArray ⟨Iu q1,fun i j hij hj=>?_⟩;have gd:∀i (hi:i<ps.length),q.toArray.getD i 0=q[i]'(by omega):=fun i hi=>by simp[XX,ql,hi]
  unfold cL at h6;rw[q2,Zy,Ql]at h6;have:=h6 i j (by omega) (by omega) hij;dsimp only at this;rw[(fi _ (qb _ (ZR _))).2,(fi _ (qb _ (ZR _))).2]at this;dsimp only;rw[gd i (by omega),gd j hj];exact this
def Rs(xs:List Nat):Prop:=xs.Pairwise (· < ·)
theorem Rs.lt{xs:Array Nat}(h:Rs xs.toList){i k d:Nat}(hik:i<k)(hk:k<xs.size):xs.getD i d<xs.getD k d:=by
 have:=Ql.mp h i k (by simp;omega) (by simpa using hk) hik;simpa [XX,hk,show i<xs.size by omega] using this
theorem mW{xs:Array Nat}{j:Nat}(h:Rs xs.toList):∀(f lo hi:Nat),hi-lo<=f->lo<=hi->hi<=xs.size->(∀i,i<lo->xs.getD i j<j)->(∀i,hi<=i->i<xs.size->j<=xs.getD i j)->
  ∃p,SetTable.below.go xs j f lo hi=p/\p<=xs.size/\(∀i,i<p->xs.getD i j<j)/\∀i,p<=i->i<xs.size->j<=xs.getD i j
 |0,lo,hi,h1,h2,h3,h4,h5=>⟨lo,rfl,by omega,h4,fun i hi'=>h5 i (by omega)⟩
 |f+1,lo,hi,h1,h2,h3,h4,h5=>by
  unfold SetTable.below.go;by_cases c:lo<hi
  ·rw[if_pos c];dsimp only;by_cases d:xs.getD ((lo+hi) / 2) j<j
   ·rw[if_pos d];refine mW h f _ hi (by omega) (by omega) h3 (fun i hi'=>?_) h5;by_cases e:i=(lo+hi) / 2
    ·rw[e];exact d
    ·exact Nat.lt_trans (h.lt (by omega) (by omega)) d
   ·rw[if_neg d];refine mW h f lo _ (by omega) (by omega) (by omega) h4 fun i hi' hs=>?_;by_cases e:i=(lo+hi) / 2
    ·rw[e];omega
    ·have:=h.lt (xs:=xs) (d:=j) (show(lo+hi) / 2<i by omega) hs;omega
  ·rw[if_neg c];exact⟨lo,rfl,by omega,h4,fun i hi'=>h5 i (by omega)⟩
theorem jD{xs:Array Nat}(h:Rs xs.toList)(j:Nat):∃p,SetTable.below xs j=p/\p<=xs.size/\(∀i,i<p->xs.getD i j<j)/\∀i,p<=i->i<xs.size->j<=xs.getD i j:=by
 unfold SetTable.below;exact mW h _ 0 _ (by omega) (by omega) (by omega) (fun i hi=>by omega) fun i hi hs=>by omega
theorem xj{xs:Array Nat}(h:Rs xs.toList){j:Nat}:(xs[SetTable.below xs j]?=some j)↔j∈xs.toList:=by
 obtain⟨p,e,h1,h2,h3⟩:=jD h j;rw[e];constructor
 ·intro g;exact ZT (by rw[QC];exact g)
 ·intro hm;obtain⟨i,hi⟩:=Ze hm;have hs:i<xs.size:=by have:=(Q7.mp hi).1;simpa using this
  have gi:xs.getD i j=j:=by
   rw[QC]at hi;simp[XX,hs];rw[QR hs]at hi;injection hi
  have ip:p<=i:=Nat.le_of_not_lt fun z=>by have:=h2 i z;omega
  have:p=i:=by
   rcases X1 p i with c|c
   ·have:=h.lt (d:=j) c hs;have:=h3 p (QJ _) (by omega);omega
   ·omega
  rw[this,<-QC];exact hi
theorem uH{t:SetTable}(h:Rs t.place.toList)(hd:t.dummies=#[])(j:Nat):(j∉t.place.toList/\t.slot j=.empty)\/∃p,t.place[p]?=some j/\t.slot j=.live p:=by
 unfold SetTable.slot;dsimp only;by_cases c:t.place[SetTable.below t.place j]?=some j
 ·rw[if_pos (by rw[c];exact beq_self_eq_true _)];exact .inr ⟨_,c,rfl⟩
 ·refine .inl ⟨fun z=>c ((xj h).mpr z),?_⟩;rw[if_neg (by simpa using c)];have:SetTable.has t.dummies j=false:=by rw[hd];rfl
  rw[this];rfl
theorem Fp{t:SetTable}(h:Rs t.place.toList)(hd:t.dummies=#[]){j:Nat}(hj:j∉t.place.toList):∃p,t.put j=({ t with place:=SetTable.insertAt t.place p j },p)/\p<=t.place.size/\Rs (SetTable.insertAt t.place p j).toList:=by
 obtain⟨p,e,h1,h2,h3⟩:=jD h j;refine⟨p,?_,h1,?_⟩
 ·unfold SetTable.put;have:SetTable.has t.dummies j=false:=by rw[hd];rfl
  dsimp only;rw[e,this];rfl
 ·rw[SetTable.toList_insertAt];have lt:∀a∈t.place.toList.take p,a<j:=fun a ha=>by
   obtain⟨i,hi⟩:=Ze ha;obtain⟨hl,hg⟩:=Q7.mp hi;rw[Qp]at hl;have:=h2 i (by omega);rw[List.getElem_take]at hg;have hs:i<t.place.size:=by omega
   simp[XX,hs]at this;rw[<-hg];simpa using this
  have gt:∀a∈t.place.toList.drop p,j<a:=fun a ha=>by
   have hm:=ZF ha;obtain⟨i,hi⟩:=Ze ha;obtain⟨hl,hg⟩:=Q7.mp hi;rw[Zs]at hl;have hs:p+i<t.place.size:=by simp at hl;omega
   have:=h3 (p+i) (by omega) hs;rw[List.getElem_drop]at hg;simp[XX,hs]at this;have e2:t.place[p+i]=a:=by rw[<-hg];simp
   rw[e2]at this;rcases X1 j a with c|c
   ·exact c
   ·exact absurd hm (by rw[show a=j by omega];exact hj)
  refine Qh.mpr ⟨List.Pairwise.sublist (ZS _ _) h,Zg.mpr ⟨gt,List.Pairwise.sublist (Zn _ _) h⟩,fun a ha b hb=>?_⟩;rcases Qk.mp hb with rfl|hb
  ·exact lt a ha
  ·exact Nat.lt_trans (lt a ha) (gt b hb)
abbrev tb(m:Nat):SetTable:={ SetTable.fresh 0 0 true with mask:=m }
noncomputable def adv(m:Nat):SetTable.Probe->SetTable.Probe:=SetTable.advance (tb m)
def pth(m:Nat)(h:Int):Nat->SetTable.Probe
 |0=>SetTable.probeStart (tb m) h
 |k+1=>adv m (pth m h k)
theorem nL(m:Nat)(h:Int):∀k,(pth m h k).dummy=none
 |0=>rfl
 |k+1=>by
  have:=nL m h k;show(adv m (pth m h k)).dummy=none;unfold adv SetTable.advance;split
  ·exact this
  ·exact this
def Run(m:Nat)(p:SetTable.Probe)(i u:Nat):Prop:=p.j=i/\p.more=SetTable.runEnd m i-i/\p.i=i/\p.perturb=u
theorem ve(m:Nat)(h:Int):Run m (pth m h 0) (SetTable.bits h % (m+1)) (SetTable.bits h):=⟨rfl,rfl,rfl,rfl⟩
theorem qI{m:Nat}{h:Int}{k i u:Nat}(r:Run m (pth m h k) i u):∀d,d<=SetTable.runEnd m i-i->(pth m h (k+d)).j=i+d/\(pth m h (k+d)).more=SetTable.runEnd m i-i-d/\(pth m h (k+d)).i=i/\(pth m h (k+d)).perturb=u
 |0,_=>⟨r.1,r.2.1,r.2.2.1,r.2.2.2⟩
 |d+1,hd=>by
  obtain⟨h1,h2,h3,h4⟩:=qI r d (by omega);show(adv m (pth m h (k+d))).j=_/\(adv m (pth m h (k+d))).more=_/\(adv m (pth m h (k+d))).i=_/\(adv m (pth m h (k+d))).perturb=_;unfold adv SetTable.advance;rw[if_pos (by omega)];dsimp only;exact⟨by omega,by omega,h3,h4⟩
theorem qH{m:Nat}{h:Int}{k i u:Nat}(r:Run m (pth m h k) i u):Run m (pth m h (k+(SetTable.runEnd m i-i)+1)) (SetTable.leap m i u).1 (SetTable.leap m i u).2:=by
 obtain⟨h1,h2,h3,h4⟩:=qI r _ (QJ _);show Run m (adv m (pth m h (k+(SetTable.runEnd m i-i)))) _ _;unfold adv SetTable.advance;rw[if_neg (by omega),h3,h4];exact⟨rfl,rfl,rfl,rfl⟩
def lps(m:Nat):Nat->Nat×Nat->Nat×Nat
 |0,x=>x
 |k+1,x=>lps m k (SetTable.leap m x.1 x.2)
theorem uR(m i:Nat):SetTable.runEnd m i-i<=9:=by unfold SetTable.runEnd;split<;>omega
theorem uQ{m:Nat}{h:Int}:∀(t k:Nat) (x:Nat×Nat),Run m (pth m h k) x.1 x.2->∃k',k<=k'/\k'<=k+10*t/\Run m (pth m h k') (lps m t x).1 (lps m t x).2
 |0,k,x,r=>⟨k,by omega,by omega,r⟩
 |t+1,k,x,r=>by
  have:=uR m x.1;obtain⟨k',h1,h2,h3⟩:=uQ t _ (SetTable.leap m x.1 x.2) (qH r);exact⟨k',by omega,by omega,h3⟩
theorem vQ(m:Nat):∀(a b:Nat) (x:Nat×Nat),lps m (a+b) x=lps m b (lps m a x)
 |0,b,x=>by rw[X6];rfl
 |a+1,b,x=>by rw[Nat.succ_add];exact vQ m a b _
theorem xh(h:Int):SetTable.bits h<2^64:=by unfold SetTable.bits;omega
theorem vV{m i u:Nat}:(SetTable.leap m i u).1<m+1:=Nat.mod_lt _ (by omega)
theorem AQ{m:Nat}:∀(t:Nat) (x:Nat×Nat),x.1<m+1->(lps m t x).1<m+1
 |0,x,h=>h
 |t+1,x,h=>AQ t _ vV
theorem F8{m:Nat}:∀(t:Nat) (x:Nat×Nat) (b:Nat),x.2<2^(5*t+b)->(lps m t x).2<2^b
 |0,x,b,h=>by rw[Nat.mul_zero,X6]at h;exact h
 |t+1,x,b,h=>F8 t _ b (by
  show x.2 / 32<_;rw[show 5*(t+1)+b=5*t+b+5 by omega,Nat.pow_add]at h;exact Nat.div_lt_of_lt_mul (by rw[Nat.mul_comm];exact h))
def orb(m:Nat):Nat->Nat->Nat
 |0,i=>i
 |k+1,i=>orb m k ((5*i+1) % (m+1))
def HZ(m:Nat):Nat->Nat->Nat->Nat
 |0,_,a=>a
 |k+1,i,a=>HZ m k ((5*i+1) % (m+1)) (a ||| (1 <<< i))
theorem uL{m:Nat}:∀(k i a e:Nat),(HZ m k i a).testBit e=true->a.testBit e=true\/∃t,t<k/\orb m t i=e
 |0,i,a,e,h=>.inl h
 |k+1,i,a,e,h=>by
  rcases uL k _ _ e h with h1|⟨t,h1,h2⟩
  ·rw[Nat.testBit_or,Bool.or_eq_true]at h1;rcases h1 with h1|h1
   ·exact .inl h1
   ·refine .inr ⟨0,by omega,?_⟩;rw[Nat.one_shiftLeft,Nat.testBit_two_pow]at h1;exact of_decide_eq_true h1
  ·exact .inr ⟨t+1,by omega,h2⟩
structure oX(m:Nat):Prop where
 all:HZ m (m+1) 0 0=2^(m+1)-1
 back:orb m (m+1) 0=0
theorem mw{m:Nat}:∀(a b i:Nat),orb m (a+b) i=orb m b (orb m a i)
 |0,b,i=>by rw[X6];rfl
 |a+1,b,i=>by rw[Nat.succ_add];exact mw a b _
theorem oX.at_{m:Nat}(F:oX m){e:Nat}(h:e<m+1):∃t,t<m+1/\orb m t 0=e:=by
 rcases uL (m:=m) (m+1) 0 0 e (by rw[F.all,Nat.testBit_two_pow_sub_one];exact decide_eq_true h)with h1|h1
 ·simp at h1
 ·exact h1
theorem oX.go{m:Nat}(F:oX m){i e:Nat}(hi:i<m+1)(he:e<m+1):∃t,t<m+1/\orb m t i=e:=by
 obtain⟨a,ha,ea⟩:=F.at_ hi;obtain⟨b,hb,eb⟩:=F.at_ he;rcases X1 b a with c|c
 ·refine⟨m+1-a+b,by omega,?_⟩;rw[<-ea,<-mw,show a+(m+1-a+b)=m+1+b by omega,mw,F.back];exact eb
 ·refine⟨b-a,by omega,?_⟩;rw[<-ea,<-mw,show a+(b-a)=b by omega];exact eb
theorem vP{m:Nat}:∀(t:Nat) (i:Nat),lps m t (i,0)=(orb m t i,0)
 |0,i=>rfl
 |t+1,i=>by
  show lps m t (SetTable.leap m i 0)=_;have:SetTable.leap m i 0=((5*i+1) % (m+1),0):=by unfold SetTable.leap;simp[Nat.mul_comm]
  rw[this];exact vP t _
theorem GO{m:Nat}(F:oX m){i u e:Nat}(hi:i<m+1)(hu:u<2^64)(he:e<m+1):∃t,t<m+14/\(lps m t (i,u)).1=e:=by
 have h0:(lps m 13 (i,u)).2=0:=by
  have:=F8 (m:=m) 13 (i,u) 0 (Qw hu (by decide));omega
 obtain⟨t,ht,e2⟩:=F.go (AQ 13 (i,u) hi) he;refine⟨13+t,by omega,?_⟩;rw[vQ,show lps m 13 (i,u)=((lps m 13 (i,u)).1,0)from Prod.ext rfl h0,vP];exact e2
theorem GF:oX 7:=⟨by decide +kernel,by decide +kernel⟩
theorem GG:oX 31:=⟨by decide +kernel,by decide +kernel⟩
theorem Dr:oX 127:=⟨by decide +kernel,by decide +kernel⟩
theorem Dq:oX 511:=⟨by decide +kernel,by decide +kernel⟩
theorem zH:oX 2047:=⟨by decide +kernel,by decide +kernel⟩
def Rch(m:Nat)(P:Nat->Prop)(h:Int)(j:Nat):Prop:=∃k,(pth m h k).j=j/\∀k',k'<k->P (pth m h k').j
theorem Rch.mono{m:Nat}{P P':Nat->Prop}{h:Int}{j:Nat}(r:Rch m P h j)(s:∀x,P x->P' x):Rch m P' h j:=let ⟨k,a,b⟩:=r;⟨k,a,fun k' h=>s _ (b k' h)⟩
theorem IS{P:Nat->Prop}:∀{k:Nat},P k->∃N,N<=k/\P N/\∀i,i<N->¬P i:=fun{k}=>by
 induction k using Nat.strongRecOn with
 |ind k ih=>
  intro h;by_cases c:∃i,i<k/\P i
  ·obtain⟨i,hi,pi⟩:=c;obtain⟨N,h1,h2,h3⟩:=ih i hi pi;exact⟨N,by omega,h2,h3⟩
  ·exact⟨k,QJ _,h,fun i hi pi=>c ⟨i,hi,pi⟩⟩
theorem tH{m:Nat}(F:oX m)(h:Int){P:Nat->Prop}{e:Nat}(he:e<m+1)(hp:¬P e):∃N,N<10*(m+15)/\¬P (pth m h N).j/\∀k,k<N->P (pth m h k).j:=by
 obtain⟨t,ht,e1⟩:=GO F (i:=SetTable.bits h % (m+1)) (u:=SetTable.bits h) (Nat.mod_lt _ (by omega)) (xh h) he;obtain⟨k,_,hk,r⟩:=uQ t 0 (SetTable.bits h % (m+1),SetTable.bits h) (ve m h);rw[e1]at r;obtain⟨N,h1,h2,h3⟩:=IS (P:=fun k=>¬P (pth m h k).j) (k:=k) (by rw[r.1];exact hp);exact⟨N,by omega,h2,fun k hk=>Classical.not_not.mp (h3 k hk)⟩
theorem gap{m:Nat}{pl:List Nat}(nd:pl.Nodup)(hl:pl.length<=m):∃e,e<m+1/\e∉pl:=by
 by_cases c:∃e,e<m+1/\e∉pl
 ·exact c
 ·have:=List.Nodup.length_le_of_subset (Zh (n:=m+1)) (l₂:=pl) fun b hb=>Classical.not_not.mp fun z=>c ⟨b,Qy.mp hb,z⟩;rw[Zm]at this;omega
theorem Rs.nd{xs:List Nat}(h:Rs xs):xs.Nodup:=h.imp fun h=>Qj h
theorem Rs.at1{xs:Array Nat}(h:Rs xs.toList){i i' j:Nat}(h1:xs[i]?=some j)(h2:xs[i']?=some j):i=i':=by
 rw[<-QC]at h1 h2;obtain⟨l1,e1⟩:=Q7.mp h1;obtain⟨l2,e2⟩:=Q7.mp h2;exact(List.getElem_inj h.nd).mp (e1.trans e2.symm)
theorem qP{t:SetTable}{h:Int}(hs:Rs t.place.toList)(hd:t.dummies=#[]){ha:Nat->Int}{N:Nat}(hN:(pth t.mask h N).j∉t.place.toList):∀(f k:Nat),k<=N->N-k<f->(∀k',k<=k'->k'<N->(pth t.mask h k').j∈t.place.toList)->
  (∃k1 i,k<=k1/\k1<N/\(∀k',k<=k'->k'<k1->∀i,t.place[i]?=some (pth t.mask h k').j->ha i≠h)/\t.place[i]?=some (pth t.mask h k1).j/\ha i=h/\SetTable.probe.go t ha h f (pth t.mask h k)=some (.candidate (pth t.mask h k1).j i (pth t.mask h (k1+1))))\/
  ((∀k',k<=k'->k'<N->∀i,t.place[i]?=some (pth t.mask h k').j->ha i≠h)/\SetTable.probe.go t ha h f (pth t.mask h k)=some (.empty (pth t.mask h N).j none))
 |0,k,_,hf,_=>by omega
 |f+1,k,hk,hf,hl=>by
  unfold SetTable.probe.go;rcases uH hs hd (pth t.mask h k).j with⟨h1,h2⟩|⟨p,h1,h2⟩
  ·have:k=N:=by
    rcases X1 k N with c|c
    ·exact absurd (hl k (QJ _) c) h1
    ·omega
   subst this;rw[h2];refine .inr ⟨fun k' a b=>by omega,?_⟩;dsimp only;rw[nL]
  ·have ne:k≠N:=fun e=>hN (by rw[<-e];exact ZT (by rw[QC];exact h1));rw[h2];dsimp only;by_cases c:ha p=h
   ·rw[if_pos (by rw[c];exact beq_self_eq_true _)];exact .inl ⟨k,p,QJ _,by omega,fun k' a b=>by omega,h1,c,rfl⟩
   ·rw[if_neg (by simpa using c)];have no:∀i,t.place[i]?=some (pth t.mask h k).j->ha i≠h:=fun i hi=>by rw[hs.at1 hi h1];exact c
    have nx:t.advance (pth t.mask h k)=pth t.mask h (k+1):=rfl;rw[nx];rcases qP hs hd hN (ha:=ha) f (k+1) (by omega) (by omega) fun k' a b=>hl k' (by omega) b with⟨k1,i,a1,a2,a3,a4⟩|⟨a1,a2⟩
    ·refine .inl ⟨k1,i,by omega,a2,fun k' b1 b2=>?_,a4⟩;rcases X1 k k' with c1|c1
     ·exact a3 k' (by omega) b2
     ·rw[show k'=k by omega];exact no
    ·refine .inr ⟨fun k' b1 b2=>?_,a2⟩;rcases X1 k k' with c1|c1
     ·exact a1 k' (by omega) b2
     ·rw[show k'=k by omega];exact no
structure Tab(t:SetTable)(es:List (Int×Value)):Prop where
 dm:t.dummies=#[]
 rs:Rs t.place.toList
 fl:oX t.mask
 sz:t.place.size=es.length
 rc:∀(i j:Nat) (e:Int×Value),t.place[i]?=some j->es[i]?=some e->Rch t.mask (·∈t.place.toList) e.1 j
theorem Tab.put{t:SetTable}{es:Array (Int×Value)}(T:Tab t es.toList){h:Int}{x:Value}{N:Nat}(h1:(pth t.mask h N).j∉t.place.toList)(h2:∀k,k<N->(pth t.mask h k).j∈t.place.toList) :
  ∃p,t.put (pth t.mask h N).j=({ t with place:=SetTable.insertAt t.place p (pth t.mask h N).j },p)/\(SetTable.insertAt es p (h,x)).toList.Perm (es.toList++[(h,x)])/\Tab { t with place:=SetTable.insertAt t.place p (pth t.mask h N).j } (SetTable.insertAt es p (h,x)).toList:=by
 obtain⟨p,e,hp,rs⟩:=Fp T.rs T.dm h1;have sz:=T.sz;have hl:(SetTable.insertAt t.place p (pth t.mask h N).j).toList=t.place.toList.take p++(pth t.mask h N).j::t.place.toList.drop p:=SetTable.toList_insertAt ..;have hl2:(SetTable.insertAt es p (h,x)).toList=es.toList.take p++(h,x)::es.toList.drop p:=SetTable.toList_insertAt ..;have sub:∀y,y∈t.place.toList->y∈(SetTable.insertAt t.place p (pth t.mask h N).j).toList:=fun y hy=>by
  rw[hl,<-ZK p t.place.toList]at *;rcases QN.mp hy with z|z
  ·exact Qm _ (by simpa using z)
  ·exact QL _ (QF _ (by simpa using z))
 refine⟨p,e,(SetTable.insertAt_perm es p (h,x)).trans (by rw[Xq]),T.dm,rs,T.fl,?_,fun i j e' gi ge=>?_⟩
 ·rw[hl2];show(SetTable.insertAt t.place p (pth t.mask h N).j).size=_;have sz':t.place.size=es.size:=by simpa using sz
  rw[<-QY,hl];simp only[QZ,QH,Qp,Zs,QY,sz']
 ·change (SetTable.insertAt t.place p (pth t.mask h N).j)[i]?=some j at gi;show Rch t.mask (·∈(SetTable.insertAt t.place p (pth t.mask h N).j).toList) e'.1 j;rw[<-QC,hl]at gi;rw[hl2]at ge;have lt1:(t.place.toList.take p).length=p:=by rw[Qp,QY];omega
  have lt2:(es.toList.take p).length=p:=by rw[Qp,<-sz];omega
  rcases Nat.lt_trichotomy i p with c|c|c
  ·rw[QD (by omega),List.getElem?_take_of_lt c]at gi ge;exact(T.rc i j e' (by rw[<-QC];exact gi) ge).mono sub
  ·subst c;rw[QK (by omega),lt1,XM,ZH]at gi;rw[QK (by omega),lt2,XM,ZH]at ge;cases gi;cases ge;exact⟨N,rfl,fun k hk=>sub _ (h2 k hk)⟩
  ·obtain⟨d,rfl⟩:∃d,i=p+(d+1):=⟨i-p-1,by omega⟩;rw[QK (by omega),lt1,show p+(d+1)-p=d+1 by omega,Qd,XQ]at gi;rw[QK (by omega),lt2,show p+(d+1)-p=d+1 by omega,Qd,XQ]at ge;exact(T.rc (p+d) j e' (by rw[<-QC];exact gi) ge).mono sub
abbrev Own(ow:Array (Option Nat))(j:Nat):Prop:=∃i,ow[j]?=some (some i)
structure tW(m:Nat)(hs:List Int)(ow:Array (Option Nat)):Prop where
 sz:ow.size=m+1
 ix:∀j i:Nat,ow[j]?=some (some i)->i<hs.length/\Rch m (Own ow) (hs.getD i 0) j
 al:∀i:Nat,i<hs.length->∃j:Nat,ow[j]?=some (some i)
 inj:∀j j' i:Nat,ow[j]?=some (some i)->ow[j']?=some (some i)->j=j'
theorem wA{m:Nat}{h:Int}{ow:Array (Option Nat)}(hz:ow.size=m+1):∀(f t k i u:Nat),Run m (pth m h k) i u->i<m+1->t<f->¬Own ow (lps m t (i,u)).1->(lps m t (i,u)).1<m+1->
  ∃N,k<=N/\SetTable.layClean.free m ow f i u=some (pth m h N).j/\ow[(pth m h N).j]?=some none/\∀k',k<=k'->k'<N->Own ow (pth m h k').j
 |0,t,k,i,u,_,_,ht,_,_=>by omega
 |f+1,t,k,i,u,r,hi,ht,hf,hl=>by
  unfold SetTable.layClean.free;have re:SetTable.runEnd m i<=m/\i<=SetTable.runEnd m i:=by unfold SetTable.runEnd;split<;>omega
  have val:∀d,d<SetTable.runEnd m i+1-i->((ow.getD (i+d) (some 0)).isNone=true↔ow[i+d]?=some none)/\((ow.getD (i+d) (some 0)).isNone=false↔Own ow (i+d)):=fun d hd=>by
   have hlt:i+d<ow.size:=by omega
   have e:ow.getD (i+d) (some 0)=ow[i+d]:=by simp[XX,hlt]
   rw[e,QR hlt];unfold Own;rw[QR hlt];cases ow[i+d]<;>simp
  cases hq:(Qz (SetTable.runEnd m i+1-i)).find? fun k=>(ow.getD (i+k) (some 0)).isNone with
  |some d=>
   rw[List.find?_range_eq_some]at hq;obtain⟨q1,q2,q3⟩:=hq;have q2:=Qy.mp q2;have rin:=fun d' (h':d'<=d)=>(qI r d' (by omega)).1;refine⟨k+d,by omega,by dsimp only;rw[rin d (QJ _)],by rw[rin d (QJ _)];exact(val d q2).1.mp q1,fun k' a b=>?_⟩;obtain⟨d',rfl⟩:∃d',k'=k+d':=⟨k'-k,by omega⟩;rw[rin d' (by omega)];exact(val d' (by omega)).2.mp (by simpa using q3 d' (by omega))
  |none=>
   have all:∀d,d<SetTable.runEnd m i+1-i->Own ow (i+d):=fun d hd=>(val d hd).2.mp (Bool.eq_false_iff.mpr (List.find?_eq_none.mp hq d (Qy.mpr hd)));cases t with
   |zero=>exact absurd (all 0 (by omega)) hf
   |succ t=>
    obtain⟨N,n1,n2,n3,n4⟩:=wA hz f t _ _ _ (qH r) vV (by omega) hf hl;refine⟨N,by omega,n2,n3,fun k' a b=>?_⟩;rcases X1 k' (k+(SetTable.runEnd m i-i)+1)with c|c
    ·obtain⟨d',rfl⟩:∃d',k'=k+d':=⟨k'-k,by omega⟩;rw[(qI r d' (by omega)).1];exact all d' (by omega)
    ·exact n4 k' c b
theorem tW.gap{m:Nat}{hs:List Int}{ow:Array (Option Nat)}(L:tW m hs ow)(hl:hs.length<=m):∃e,e<m+1/\¬Own ow e:=by
 by_cases c:∃e,e<m+1/\¬Own ow e
 ·exact c
 ·have own:∀e,e<m+1->Own ow e:=fun e he=>Classical.not_not.mp fun z=>c ⟨e,he,z⟩;have hf:∀e,∃i,e<m+1->ow[e]?=some (some i):=fun e=>by
   by_cases he:e<m+1
   ·obtain⟨i,hi⟩:=own e he;exact⟨i,fun _=>hi⟩
   ·exact⟨0,fun z=>absurd z he⟩
  have hg:=fun e=>(hf e).choose_spec;have nd:((Qz (m+1)).map fun e=>(hf e).choose).Nodup:=by
   refine Zy.mpr (List.Pairwise.imp_of_mem (fun{a b} ha hb hne e=>hne ?_) Zh);have ga:=hg a (Qy.mp ha);have gb:=hg b (Qy.mp hb);rw[e]at ga;exact L.inj _ _ _ ga gb
  have:=List.Nodup.length_le_of_subset nd (l₂:=Qz hs.length) fun i hi=>by
   obtain⟨e,he,rfl⟩:=Qc.mp hi;exact Qy.mpr (L.ix e _ (hg e (Qy.mp he))).1
  rw[QX,Zm,Zm]at this;omega
theorem iR{ow:Array (Option Nat)}{j k x:Nat}(h:ow[j]?=some none)(i:Nat):(ow.setIfInBounds j (some k))[x]?=some (some i)↔(x=j/\i=k)\/ow[x]?=some (some i):=by
 have hj:j<ow.size:=(Zt.mp h).1;rw[Array.getElem?_setIfInBounds];by_cases c:j=x
 ·subst c;rw[if_pos rfl,if_pos hj,h];constructor
  ·intro e;injection e with e;injection e with e;exact .inl ⟨rfl,e.symm⟩
  ·rintro(⟨_,rfl⟩|e)
   ·rfl
   ·injection e with e;cases e
 ·rw[if_neg c];constructor
  ·exact .inr
  ·rintro(⟨e,_⟩|e)
   ·exact absurd e.symm c
   ·exact e
theorem tW.add{m:Nat}{hs:List Int}{ow:Array (Option Nat)}(F:oX m)(L:tW m hs ow)(hl:hs.length<=m)(h:Int) :
  ∃j,SetTable.layClean.free m ow (SetTable.turns m) (SetTable.bits h % (m+1)) (SetTable.bits h)=some j/\tW m (hs++[h]) (ow.setIfInBounds j (some hs.length)):=by
 obtain⟨e,he,ho⟩:=L.gap hl;obtain⟨t,ht,e1⟩:=GO F (i:=SetTable.bits h % (m+1)) (u:=SetTable.bits h) (Nat.mod_lt _ (by omega)) (xh h) he;obtain⟨N,_,n1,n2,n3⟩:=wA (h:=h) L.sz (SetTable.turns m) t 0 _ _ (ve m h) (Nat.mod_lt _ (by omega)) (by unfold SetTable.turns;omega) (by rw[e1];exact ho) (by rw[e1];exact he);refine⟨_,n1,?_⟩;have up:∀x,Own ow x->Own (ow.setIfInBounds (pth m h N).j (some hs.length)) x:=fun x ⟨i,hi⟩=>⟨i,(iR n2 i).mpr (.inr hi)⟩;refine⟨by rw[Array.size_setIfInBounds];exact L.sz,fun j i g=>?_,fun i hi=>?_,fun j j' i g g'=>?_⟩
 ·rw[QZ,Qo];rcases(iR n2 i).mp g with⟨rfl,rfl⟩|g
  ·refine⟨by omega,N,?_,?_⟩
   ·rw[Q9,QK (QJ _),XM];rfl
   ·rw[Q9,QK (QJ _),XM];exact fun k hk=>up _ (n3 k (Qi _) hk)
  ·obtain⟨a,b⟩:=L.ix j i g;refine⟨by omega,?_⟩;rw[Q9,QD a,<-Q9];exact b.mono up
 ·rw[QZ,Qo]at hi;by_cases c:i=hs.length
  ·exact⟨_,(iR n2 i).mpr (.inl ⟨rfl,c⟩)⟩
  ·obtain⟨j,hj⟩:=L.al i (by omega);exact⟨j,(iR n2 i).mpr (.inr hj)⟩
 ·rcases(iR n2 i).mp g with⟨e1,e2⟩|g<;>rcases(iR n2 i).mp g' with⟨e3,e4⟩|g'
  ·rw[e1,e3]
  ·exact absurd (L.ix _ _ g').1 (by omega)
  ·exact absurd (L.ix _ _ g).1 (by omega)
  ·exact L.inj _ _ _ g g'
theorem tW.nil(m:Nat):tW m [] (Array.replicate (m+1) none):=by
 have no:∀j i:Nat,(Array.replicate (m+1) (none:Option Nat))[j]?≠some (some i):=fun j i=>by
  rw[Array.getElem?_replicate];split
  ·exact fun e=>by injection e with e;cases e
  ·exact fun e=>by cases e
 exact⟨by simp,fun j i g=>absurd g (no j i),fun i hi=>by simp at hi,fun j j' i g=>absurd g (no j i)⟩
theorem rA{m:Nat}(F:oX m):∀(hs done:List Int) (ow:Array (Option Nat)),tW m done ow->done.length+hs.length<=m->
  ∃ow',hs.foldl (fun acc h=>do
   let (owner,k) <-acc
   let j <-SetTable.layClean.free m owner (SetTable.turns m) (SetTable.bits h % (m+1)) (SetTable.bits h)
   pure (owner.setIfInBounds j (some k),k+1)) (some (ow,done.length))=some (ow',done.length+hs.length)/\tW m (done++hs) ow'
 |[],done,ow,L,_=>⟨ow,rfl,by rw[Qn];exact L⟩
 |h::hs,done,ow,L,hl=>by
  rw[QH]at hl;obtain⟨j,e,L'⟩:=L.add F (by omega) h;obtain⟨ow',e',L''⟩:=rA F hs (done++[h]) _ L' (by rw[QZ,Qo];omega);refine⟨ow',?_,by rw[Q8]at L'';exact L''⟩;rw[List.foldl_cons];have:(do
   let (owner,k) <-some (ow,done.length)
   let j <-SetTable.layClean.free m owner (SetTable.turns m) (SetTable.bits h % (m+1)) (SetTable.bits h)
   pure (owner.setIfInBounds j (some k),k+1):Option (Array (Option Nat)×Nat))=some (ow.setIfInBounds j (some done.length),(done++[h]).length):=by
   rw[QZ,Qo];show(SetTable.layClean.free m ow (SetTable.turns m) (SetTable.bits h % (m+1)) (SetTable.bits h)).bind _=_;rw[e];rfl
  rw[this,e',QZ,Qo,QH];congr 2;omega
theorem zQ{m:Nat}(F:oX m){hs:Array Int}(hl:hs.size<=m):∃ow,SetTable.layClean m hs=some ow/\tW m hs.toList ow:=by
 obtain⟨ow,e,L⟩:=rA F hs.toList [] _ (tW.nil m) (by simpa using hl);refine⟨ow,?_,L⟩;unfold SetTable.layClean;rw[<-Array.foldl_toList];rw[List.length_nil]at e;rw[e];rfl
def gC(m:Nat)(ow:Array (Option Nat)):List (Nat×Nat):=(Qz (m+1)).filterMap fun j=>(ow.getD j none).map (j,·)
theorem fM{m:Nat}{ow:Array (Option Nat)}{j:Nat}{q:Nat×Nat}:(ow.getD j none).map (j,·)=some q↔q.1=j/\ow[j]?=some (some q.2):=by
 have e:ow.getD j none=(ow[j]?).getD none:=by rw[ZC]
 rw[e];obtain⟨a,b⟩:=q;cases h:ow[j]? with
 |none=>simp
 |some x=>
  cases x with
  |none=>simp
  |some y=>
   simp only[ZX,Option.map_some,Option.some.injEq,Prod.mk.injEq];exact⟨fun⟨h1,h2⟩=>⟨h1.symm,h2⟩,fun⟨h1,h2⟩=>⟨h1.symm,h2⟩⟩
theorem iC{m:Nat}{ow:Array (Option Nat)}{q:Nat×Nat}(hz:ow.size=m+1):q∈gC m ow↔ow[q.1]?=some (some q.2):=by
 unfold gC;rw[List.mem_filterMap];constructor
 ·rintro⟨j,hj,e⟩;obtain⟨rfl,e2⟩:=(fM (m:=m)).mp e;exact e2
 ·intro h;refine⟨q.1,Qy.mpr ?_,(fM (m:=m)).mpr ⟨rfl,h⟩⟩;have:=(Zt.mp h).1;omega
theorem zi{m:Nat}{ow:Array (Option Nat)}:Rs ((gC m ow).map (·.1)):=by
 unfold gC Rs;refine Zy.mpr (List.pairwise_filterMap.mpr (List.Pairwise.imp (fun{a b} hab q hq q' hq'=>?_) List.pairwise_lt_range));rw[((fM (m:=m)).mp hq).1,((fM (m:=m)).mp hq').1];exact hab
theorem tw{m:Nat}{hs:List Int}{ow:Array (Option Nat)}(L:tW m hs ow):((gC m ow).map (·.2)).Perm (Qz hs.length):=by
 have nd:((gC m ow).map (·.2)).Nodup:=by
  unfold gC;refine Zy.mpr (List.pairwise_filterMap.mpr (List.Pairwise.imp (fun{a b} hab q hq q' hq' e=>?_) List.pairwise_lt_range));obtain⟨e1,g1⟩:=(fM (m:=m)).mp hq;obtain⟨e2,g2⟩:=(fM (m:=m)).mp hq';rw[e]at g1;have:=L.inj _ _ _ g1 g2;omega
 refine(Xz nd Zh).mpr fun i=>?_;rw[Qc,Qy];constructor
 ·rintro⟨q,hq,rfl⟩;exact(L.ix _ _ ((iC L.sz).mp hq)).1
 ·intro h;obtain⟨j,hj⟩:=L.al i h;exact⟨(j,i),(iC L.sz).mpr hj,rfl⟩
theorem zJ{α:Type}(es:List α):(Qz es.length).filterMap (fun i=>es[i]?)=es:=by
 refine Zw fun i=>?_;have:∀(n:Nat),n<=es.length->(Qz n).filterMap (fun i=>es[i]?)=es.take n:=fun n=>by
  induction n with
  |zero=>intro _;simp
  |succ n ih=>
   intro h;rw[List.range_succ,List.filterMap_append,ih (by omega),List.take_succ,List.filterMap_cons,Q4 (by omega)];simp
 rw[this _ (QJ _),List.take_length]
theorem A0{α:Type}{es:List α}:∀{is:List Nat},(∀i∈is,i<es.length)->∀k:Nat,(is.filterMap fun i=>es[i]?)[k]?=(is[k]?).bind fun i=>es[i]?
 |[],_,k=>by simp
 |i::is,h,k=>by
  rw[List.filterMap_cons,Q4 (h i QB)];dsimp only;cases k with
  |zero=>simp[Q4 (h i QB)]
  |succ k=>
   rw[Qd,Qd];exact A0 (fun j hj=>h j (QF _ hj)) k
theorem Tab.relay{t:SetTable}{es:Array (Int×Value)}{m wanted:Nat}(hm:SetTable.sizeAbove wanted-1=m)(F:oX m)(hl:es.size<=m) :
  ∃t' order,t.relaid (es.map (·.1)) wanted=some (t',order)/\t'.mask=m/\t'.led=t.led/\t'.plain=t.plain/\(order.filterMap (es[·]?)).toList.Perm es.toList/\Tab t' (order.filterMap (es[·]?)).toList:=by
 obtain⟨ow,e,L⟩:=zQ F (hs:=es.map (·.1)) (by rw[Array.size_map];exact hl);have lh:((es.map (·.1)).toList).length=es.toList.length:=by simp
 have P:=tw L;rw[lh]at P;have ol:((((gC m ow).map (·.2)).toArray).filterMap (es[·]?)).toList=((gC m ow).map (·.2)).filterMap fun i=>es.toList[i]?:=by
  rw[Array.toList_filterMap];congr 1;funext i;rw[QC]
 have hP:((((gC m ow).map (·.2)).toArray).filterMap (es[·]?)).toList.Perm es.toList:=by
  rw[ol];have:=P.filterMap fun i=>es.toList[i]?;rw[zJ]at this;exact this
 refine⟨{ mask:=m,place:=((gC m ow).map (·.1)).toArray,dummies:=#[],finger:=t.finger,led:=t.led,moves:=t.movedTo m,plain:=t.plain },((gC m ow).map (·.2)).toArray,?_,rfl,rfl,rfl,hP,rfl,zi,F,?_,fun i j e' gi ge=>?_⟩
 ·unfold SetTable.relaid SetTable.laid;rw[hm,e];rfl
 ·rw[hP.length_eq];show(((gC m ow).map (·.1)).toArray).size=_;rw[QM,QX];have:=P.length_eq;rw[QX,Zm]at this;exact this
 ·change (((gC m ow).map (·.1)).toArray)[i]?=some j at gi;show Rch m (·∈((gC m ow).map (·.1))) e'.1 j;rw[List.getElem?_toArray,Qb]at gi;obtain⟨q,hq,rfl⟩:=Qs.mp gi;rw[ol,A0 (fun k hk=>Qy.mp (P.mem_iff.mp hk)),Qb,hq]at ge;have ge:es.toList[q.2]?=some e':=ge;have own:=(iC L.sz).mp (ZT hq);obtain⟨_,r⟩:=L.ix _ _ own;have eh:((es.map (·.1)).toList).getD q.2 0=e'.1:=by
   rw[Q9,Array.toList_map,Qb,ge];rfl
  rw[eh]at r;exact r.mono fun x ⟨y,hy⟩=>Qc.mpr ⟨(x,y),(iC L.sz).mpr hy,rfl⟩
def Lv(m n:Nat):Prop:=(m=7/\n<5)\/(m=31/\n<19)\/(m=127/\n<77)\/(m=511/\n<307)\/(m=2047/\n<1229)
theorem Lv.full{m n:Nat}(h:Lv m n):oX m:=by
 rcases h with⟨rfl,_⟩|⟨rfl,_⟩|⟨rfl,_⟩|⟨rfl,_⟩|⟨rfl,_⟩
 ·exact GF
 ·exact GG
 ·exact Dr
 ·exact Dq
 ·exact zH
theorem Lv.odd{m n:Nat}(h:Lv m n):(m % 2 == 0)=false:=by
 rcases h with⟨rfl,_⟩|⟨rfl,_⟩|⟨rfl,_⟩|⟨rfl,_⟩|⟨rfl,_⟩<;>rfl
theorem Lv.le{m n:Nat}(h:Lv m n):n+1<=m/\m<=2047:=by unfold Lv at h;omega
theorem Lv.next{m n:Nat}(h:Lv m n)(hn:n<1228):(¬(n+1)*5≥m*3/\Lv m (n+1))\/((n+1)*5≥m*3/\∃m',SetTable.sizeAbove (SetTable.grown (n+1))-1=m'/\Lv m' (n+1)/\SetTable.sizeAbove (SetTable.grown (n+1))<=2048):=by
 have s20:SetTable.sizeAbove (SetTable.grown 5)=32:=by decide +kernel
 have s76:SetTable.sizeAbove (SetTable.grown 19)=128:=by decide +kernel
 have s308:SetTable.sizeAbove (SetTable.grown 77)=512:=by decide +kernel
 have s1228:SetTable.sizeAbove (SetTable.grown 307)=2048:=by decide +kernel
 unfold Lv at h ⊢;by_cases c:(n+1)*5≥m*3
 ·refine .inr ⟨c,?_⟩;rcases h with⟨rfl,h⟩|⟨rfl,h⟩|⟨rfl,h⟩|⟨rfl,h⟩|⟨rfl,h⟩
  ·obtain rfl:n=4:=by omega
   exact⟨31,by rw[s20],by omega,by rw[s20];omega⟩
  ·obtain rfl:n=18:=by omega
   exact⟨127,by rw[s76],by omega,by rw[s76];omega⟩
  ·obtain rfl:n=76:=by omega
   exact⟨511,by rw[s308],by omega,by rw[s308];omega⟩
  ·obtain rfl:n=306:=by omega
   exact⟨2047,by rw[s1228],by omega,by rw[s1228];omega⟩
  ·omega
 ·refine .inl ⟨c,?_⟩;rcases h with⟨rfl,h⟩|⟨rfl,h⟩|⟨rfl,h⟩|⟨rfl,h⟩|⟨rfl,h⟩
  ·exact .inl ⟨rfl,by omega⟩
  ·exact .inr (.inl ⟨rfl,by omega⟩)
  ·exact .inr (.inr (.inl ⟨rfl,by omega⟩))
  ·exact .inr (.inr (.inr (.inl ⟨rfl,by omega⟩)))
  ·exact .inr (.inr (.inr (.inr ⟨rfl,by omega⟩)))
def kP(p:Int×Int):List Key:=[.inl p.1,.inl p.2]
theorem Gm{p q:Int×Int}(h:kP p=kP q):p=q:=by
 injection h with h1 h2;injection h2 with h3 _;injection h1 with h1;injection h3 with h3;exact Prod.ext h1 h3
def hP(prog:Program)(w:World)(p:Int×Int):Int:=tupleKeyHash (bB prog w) (kP p)
theorem hU{prog:Program}{w:World}{h:Heap}{v:Value}{p:Int×Int}(k:aZ h v p):∃b,v=.ref b/\IsTupleKey (bB prog w) h (kP p) b:=by
 obtain⟨b,o,t1,t2,e,rfl,g,c,d⟩:=k;exact⟨b,rfl,o,_,e,g,c,d,.cons (by simp[bB,mD,Value.isInt]) (.cons (by simp[bB,mD,Value.isInt]) .nil)⟩
def Els(prog:Program)(w:World)(h:Heap):List (Int×Value)->List (Int×Int)->Prop
 |[],[]=>True
 |e::es,p::ps=>(e.1=hP prog w p/\aZ h e.2 p)/\Els prog w h es ps
 |_,_=>False
section
variable{h h':Heap}
theorem Els.len:∀{es:List (Int×Value)} {ps:List (Int×Int)},Els prog w h es ps->es.length=ps.length
 |[],[],_=>rfl
 |_::_,_::_,k=>by rw[QH,QH,k.2.len]
 |[],_::_,k=>k.elim
 |_::_,[],k=>k.elim
theorem Els.at_:∀{es:List (Int×Value)} {ps:List (Int×Int)} {i:Nat} {e:Int×Value},Els prog w h es ps->es[i]?=some e->∃p,ps[i]?=some p/\e.1=hP prog w p/\aZ h e.2 p
 |_::_,p::_,0,_,k,g=>by simp at g;subst g;exact⟨p,rfl,k.1⟩
 |_::_,_::_,i+1,e,k,g=>by simpa using k.2.at_ (i:=i) (by simpa using g)
 |[],[],_,_,_,g=>by simp at g
 |[],_::_,_,_,k,_=>k.elim
 |_::_,[],_,_,k,_=>k.elim
theorem Els.app:∀{es fs:List (Int×Value)} {ps qs:List (Int×Int)},Els prog w h es ps->Els prog w h fs qs->Els prog w h (es++fs) (ps++qs)
 |[],_,[],_,_,k2=>k2
 |_::_,_,_::_,_,k,k2=>⟨k.1,k.2.app k2⟩
 |[],_,_::_,_,k,_=>k.elim
 |_::_,_,[],_,k,_=>k.elim
theorem Els.perm{es es':List (Int×Value)}(P:es'.Perm es):∀{ps:List (Int×Int)},Els prog w h es ps->∃ps',ps'.Perm ps/\Els prog w h es' ps':=by
 induction P with
 |nil=>exact fun{ps} k=>⟨ps,.refl _,k⟩
 |cons x _ ih=>
  intro ps k;cases ps with
  |nil=>exact k.elim
  |cons p ps=>
   obtain⟨qs,h1,h2⟩:=ih k.2;exact⟨p::qs,h1.cons p,k.1,h2⟩
 |swap x y l=>
  intro ps k;match ps,k with
  |[],k=>exact k.elim
  |[p],k=>exact k.2.elim
  |p::q::ps,k=>exact⟨q::p::ps,.swap _ _ _,k.2.1,k.1,k.2.2⟩
 |trans _ _ ih1 ih2=>
  intro ps k;obtain⟨qs,h1,h2⟩:=ih2 k;obtain⟨rs,h3,h4⟩:=ih1 h2;exact⟨rs,h3.trans h1,h4⟩
theorem Els.mono{a:Addr}(m:∀b o,b≠a->h.get? b=some o->h'.get? b=some o):∀{es:List (Int×Value)} {ps:List (Int×Int)},Els prog w h es ps->(∀e∈es,e.2≠.ref a)->Els prog w h' es ps
 |[],[],_,_=>trivial
 |e::es,p::ps,k,na=>by
  obtain⟨k1,b,o,t1,t2,n,e1,g,c,d⟩:=k.1;refine⟨⟨k1,b,o,t1,t2,n,e1,m b o (fun z=>na e QB (by rw[e1,z])) g,c,d⟩,k.2.mono m fun x hx=>na x (QF _ hx)⟩
 |[],_::_,k,_=>k.elim
 |_::_,[],k,_=>k.elim
theorem Els.keep:∀{es:List (Int×Value)} {ps:List (Int×Int)},Els prog w h es ps->(∀b o,(∃e∈es,e.2=.ref b)->h.get? b=some o->h'.get? b=some o)->Els prog w h' es ps
 |[],[],_,_=>trivial
 |e::es,p::ps,k,m=>by
  obtain⟨k1,b,o,t1,t2,n,e1,g,c,d⟩:=k.1;exact⟨⟨k1,b,o,t1,t2,n,e1,m b o ⟨e,QB,e1⟩ g,c,d⟩,k.2.keep fun b o ⟨x,hx,ex⟩=>m b o ⟨x,QF _ hx,ex⟩⟩
 |[],_::_,k,_=>k.elim
 |_::_,[],k,_=>k.elim
end
structure gF(prog:Program)(w:World)(h:Heap)(a:Addr)(es:Array (Int×Value))(ep:Nat)(t:SetTable)(ps:List (Int×Int)):Prop where
 ob:∃o,h.get? a=some o/\o.ExactSet/\o.data=.set es ep t
 tab:Tab t es.toList
 el:Els prog w h es.toList ps
 nd:ps.Nodup
 pl:t.plain=true
 ld:t.led=!w.params.followText "set-order"
 lv:Lv t.mask es.size
theorem qQ{t:SetTable}{h:Int}(hs:Rs t.place.toList)(hd:t.dummies=#[]){ha:Nat->Int}{N k:Nat}(hN:(pth t.mask h N).j∉t.place.toList)(hl:∀k,k<N->(pth t.mask h k).j∈t.place.toList)(hk:k<=N)(hn:N<10*(t.mask+15)){p:SetTable.Probe}(hp:p=pth t.mask h k){r:Option SetTable.Met}(e:t.probe ha h p=r) :
  (∃k1 i,k<=k1/\k1<N/\(∀k',k<=k'->k'<k1->∀i,t.place[i]?=some (pth t.mask h k').j->ha i≠h)/\t.place[i]?=some (pth t.mask h k1).j/\ha i=h/\r=some (.candidate (pth t.mask h k1).j i (pth t.mask h (k1+1))))\/
  ((∀k',k<=k'->k'<N->∀i,t.place[i]?=some (pth t.mask h k').j->ha i≠h)/\r=some (.empty (pth t.mask h N).j none)):=by
 subst hp;rw[<-e];exact qP hs hd hN _ k hk (by unfold SetTable.turns;omega) fun k' _ b=>hl k' b
theorem gF.fits{a:Addr}{es:Array (Int×Value)}{ep:Nat}{t:SetTable}{ps:List (Int×Int)}(S:gF prog w s.heap a es ep t ps):t.fits es.size=true:=by
 have h1:=S.lv.le;have h2:=S.tab.sz;have h3:=S.tab.dm;unfold SetTable.fits SetTable.fill;rw[h3];simp only[QY]at h2;simp[h2];omega
theorem wW{x:Addr}{p:Int×Int}(hx:aZ s.heap (.ref x) p){Q:Bool->Shared->Prop}(q:Q false s):wpAny (model prog w) A (ofAClassStatement 8 (.ref x)) Q E s:=by
 obtain⟨b,o,t1,t2,e,e0,g,c,d⟩:=hx;cases e0;unfold ofAClassStatement;refine Q0 (wpAny_typeOf (T:="tuple") ⟨o,g,c⟩ ?_);dsimp only;rw[if_pos (beq_self_eq_true _)];refine Q0 (Q6 ?_);simp only[Bool.not_true,Qr,if_false];refine Q0 (wpAny_seqItems g d ?_);dsimp only;refine Q0 ?_;rw[<-Array.forIn_toList];refine wpAny_forIn_list _ (fun rest r s'=>r.1=none/\s'=s/\∀v∈rest,∃i t,v=Value.int i t) _ (fun v rest r s' hz=>?_) (fun r s' hz=>?_) _ _ ⟨rfl,rfl,fun v hv=>?_⟩
 ·obtain⟨_,rfl,hv⟩:=hz;obtain⟨i,t,rfl⟩:=hv v QB;have e:ofAClassStatement 7 (Value.int i t)=pure false:=by unfold ofAClassStatement;rfl
  rw[e];exact Q0 (Q6 (Q6 ⟨rfl,rfl,fun y hy=>hv y (QF _ hy)⟩))
 ·obtain⟨e,rfl,_⟩:=hz;try dsimp only
  rw[e];exact Q6 q
 ·simp at hv;rcases hv with rfl|rfl
  ·exact⟨_,_,rfl⟩
  ·exact⟨_,_,rfl⟩
theorem wV{x:Addr}{p:Int×Int}(hx:aZ s.heap (.ref x) p){ys:List Value}(hy:∀y∈ys,∃q,aZ s.heap y q){Q:Bool->Shared->Prop}(q:Q false s):wpAny (model prog w) A (searchCouldBeSeen (.ref x) ys) Q E s:=by
 unfold searchCouldBeSeen;refine Q0 ?_;refine wpAny_forIn_list _ (fun rest r s'=>r.1=none/\s'=s/\∀v∈rest,∃q,aZ s.heap v q) _ (fun v rest r s' hz=>?_) (fun r s' hz=>?_) _ _ ⟨rfl,rfl,hy⟩
 ·obtain⟨_,rfl,hv⟩:=hz;obtain⟨p',k⟩:=hv v QB;obtain⟨b,rfl,kk⟩:=hU (prog:=prog) (w:=w) k;obtain⟨x',ex,kx⟩:=hU (prog:=prog) (w:=w) hx;cases ex;have nx:∀y∈rest,∃q,aZ s'.heap y q:=fun y hy=>hv y (QF _ hy);dsimp only;refine wpAny_ite_split (fun _=>Q6 ⟨rfl,rfl,nx⟩) fun _=>?_;refine Q0 (wpAny_eqIsQuiet_tuple kx ?_);simp only[Bool.not_true,Qr,if_false];refine Q0 (wpAny_eqIsQuiet_tuple kk ?_);simp only[Bool.not_true,Qr,if_false];refine Q0 (wW hx ?_);simp only[Qr,if_false];refine Q0 (wW k ?_);simp only[Qr,if_false];exact Q6 ⟨rfl,rfl,nx⟩
 ·obtain⟨e,rfl,_⟩:=hz;dsimp only;rw[e];exact Q6 q
theorem jF{a x:Addr}{es:Array (Int×Value)}{ep:Nat}{t:SetTable}{ps:List (Int×Int)}{p:Int×Int}(S:gF prog w s.heap a es ep t ps)(hu:A.units<cLine)(hx:aZ s.heap (.ref x) p){N:Nat}(h1:(pth t.mask (hP prog w p) N).j∉t.place.toList)(h2:∀k,k<N->(pth t.mask (hP prog w p) k).j∈t.place.toList)(hN:N<10*(t.mask+15)){Q:SetFound->Shared->Prop}
  (q1:p∈ps->Q (.there none) s) (q2:p∉ps->Q (.free (pth t.mask (hP prog w p) N).j false) s) :
  ∀(f k:Nat) (stand:Option SetTable.Probe),k<=N->N-k<f->stand.getD (t.probeStart (hP prog w p))=pth t.mask (hP prog w p) k->(∀k',k'<k->∀i:Nat,t.place[i]?=some (pth t.mask (hP prog w p) k').j->ps[i]?≠some p)->wpAny (model prog w) A (setSearchFrom a (.ref x) (hP prog w p) true f stand) Q E s
 |0,k,stand,hk,hf,_,_=>by omega
 |f+1,k,stand,hk,hf,hst,no=>by
  obtain⟨o,ho,hex,hd⟩:=S.ob;unfold setSearchFrom;refine Q0 (wpAny_setState_of ho hd S.fits ?_);dsimp only;have hg:t.gaveWay=false:=S.lv.odd;rw[hg];simp only[Qr,if_false];have ls:=S.el.len;have sz:=S.tab.sz;split
  ·rename_i met heq;rcases qQ S.tab.rs S.tab.dm h1 h2 hk hN hst heq with⟨k1,i,b1,b2,b3,b4,b5,er⟩|⟨b3,er⟩
   ·injection er with er;subst er;have hi:i<es.size:=by
     have:=(Zt.mp b4).1;simp only[QY]at sz;omega
    obtain⟨⟨hy,y⟩,ei⟩:∃z,es[i]?=some z:=⟨es[i],QR hi⟩;have eh:hy=hP prog w p:=by
     have b5:(es[i]?.map (·.1)).getD 0=hP prog w p:=b5;rw[ei]at b5;exact b5
    obtain⟨p',g1,g2,g3⟩:=S.el.at_ (by rw[QC];exact ei);obtain⟨b,rfl,ky⟩:=hU (prog:=prog) (w:=w) g3;obtain⟨x',ex,kx⟩:=hU (prog:=prog) (w:=w) hx;cases ex;dsimp only;have no2:p'≠p->∀k',k'<k1+1->∀i:Nat,t.place[i]?=some (pth t.mask (hP prog w p) k').j->ps[i]?≠some p:=fun ne k' hk' i' hi' hp'=>by
     rcases X1 k' k with c|c
     ·exact no k' c i' hi' hp'
     ·rcases X1 k' k1 with c1|c1
      ·refine b3 k' c c1 i' hi' ?_;have hi2:i'<es.size:=by
        have:=(Q7.mp hp').1;simp only[QY]at ls;omega
       obtain⟨q,hq1,hq2,_⟩:=S.el.at_ (i:=i') (by rw[QC];exact QR hi2);rw[hp']at hq1;cases hq1;show(es[i']?.map (·.1)).getD 0=_;rw[QR hi2];exact hq2
      ·rw[show k'=k1 by omega]at hi';rw[S.tab.rs.at1 hi' b4,g1]at hp';injection hp' with hp';exact ne hp'
    have hsm:t.sameMemory t.moves t.mask=some true:=by unfold SetTable.sameMemory;rw[if_pos (beq_self_eq_true _)]
    have hsl:t.slot (pth t.mask (hP prog w p) k1).j=.live i:=by
     rcases uH S.tab.rs S.tab.dm (pth t.mask (hP prog w p) k1).j with⟨c1,_⟩|⟨i',c1,c2⟩
     ·exact absurd (ZT (by rw[QC];exact b4)) c1
     ·rw[c2,S.tab.rs.at1 c1 b4]
    refine wpAny_ite_split (fun _=>Q0 (wV hx (fun y hy=>?_) ?_)) fun _=>?_
    ·obtain⟨e,he,rfl⟩:=Qc.mp hy;have he':e∈es.toList:=by simp at he;simpa using he.1
     obtain⟨i',hi'⟩:=Ze he';obtain⟨q,_,_,hq⟩:=S.el.at_ hi';exact⟨q,hq⟩
    all_goals
     (try simp only[Qr,if_false])
     rw[ei];dsimp only;refine Q0 (wpAny_holding (wpAny_eqBool_tuple hu ky kx ?_));refine Q0 (wpAny_setState_of ho hd S.fits ?_);dsimp only;by_cases c:p'=p
     ·subst c;rw[if_pos (by simp)];exact Q6 (q1 (ZT g1))
     ·have dc:decide (kP p'=kP p)=false:=decide_eq_false fun z=>c (Gm z);rw[dc,hsm];simp only[Bool.and_false,Qr,if_false,if_true];rw[hsl];dsimp only;rw[ei];dsimp only;refine Q0 (wpAny_isSame_ref_self ?_);refine Q0 (Q6 ?_);simp only[if_true];exact jF S hu hx h1 h2 hN q1 q2 f (k1+1) _ (by omega) (by omega) rfl (no2 c)
   ·injection er with er;subst er;dsimp only;refine Q6 (q2 fun hm=>?_);obtain⟨i0,hi0⟩:=Ze hm;have li:=(Q7.mp hi0).1;simp only[QY]at ls sz;have hie:i0<es.size:=by omega
    have hip:i0<t.place.size:=by omega
    obtain⟨q,hq1,hq2,_⟩:=S.el.at_ (i:=i0) (by rw[QC];exact QR hie);rw[hi0]at hq1;cases hq1;obtain⟨k0,r1,r2⟩:=S.tab.rc i0 _ _ (QR hip) (by rw[QC];exact QR hie);rw[hq2]at r1 r2;have k0N:k0<N:=by
     rcases Nat.lt_trichotomy k0 N with c|c|c
     ·exact c
     ·exact absurd (by rw[<-c,r1];simp) h1
     ·exact absurd (r2 N c) h1
    have gp:t.place[i0]?=some (pth t.mask (hP prog w p) k0).j:=by rw[r1];exact QR hip
    rcases X1 k0 k with c|c
    ·exact no k0 c i0 gp hi0
    ·refine b3 k0 c k0N i0 gp ?_;show(es[i0]?.map (·.1)).getD 0=_;rw[QR hie];exact hq2
  ·rename_i heq;rcases qQ S.tab.rs S.tab.dm h1 h2 hk hN hst rfl with⟨k1,i,b1,b2,b3,b4,b5,er⟩|⟨b3,er⟩
   ·exact absurd er (heq _)
   ·exact absurd er (heq _)
theorem zF{x:Addr}{p:Int×Int}(hx:aZ s.heap (.ref x) p){Q:Bool->Shared->Prop}(q:Q true s):wpAny (model prog w) A (hashByValue 8 (.ref x)) Q E s:=by
 obtain⟨b,o,t1,t2,e,e0,g,c,d⟩:=hx;cases e0;unfold hashByValue;refine Q0 (wpAny_specialOf (T:="tuple") ⟨o,g,c⟩ PySem.F.slot_tuple_hash.lookup ?_);dsimp only;refine Q0 (wpAny_seqItems g d ?_);simp only[ZX];refine Q0 ?_;rw[<-Array.forIn_toList];refine wpAny_forIn_list _ (fun rest r s'=>r.1=none/\s'=s/\∀v∈rest,∃i t,v=Value.int i t) _ (fun v rest r s' hz=>?_) (fun r s' hz=>?_) _ _ ⟨rfl,rfl,fun v hv=>?_⟩
 ·obtain⟨_,rfl,hv⟩:=hz;obtain⟨i,t,rfl⟩:=hv v QB;have e:hashByValue 7 (Value.int i t)=pure true:=by unfold hashByValue;rfl
  rw[e];exact Q0 (Q6 (Q6 ⟨rfl,rfl,fun y hy=>hv y (QF _ hy)⟩))
 ·obtain⟨e,rfl,_⟩:=hz;try dsimp only
  rw[e];exact Q6 q
 ·simp at hv;rcases hv with rfl|rfl
  ·exact⟨_,_,rfl⟩
  ·exact⟨_,_,rfl⟩
theorem wJ{h:Heap}{a:Addr}{o:Obj}(g:h.get? a=some o)(c:o.cls=.type "set"):∀{es:List (Int×Value)} {ps:List (Int×Int)},Els prog w h es ps->∀e∈es,e.2≠.ref a
 |[],[],_,e,he=>by cases he
 |e0::es,p::ps,k,e,he=>by
  rcases Qk.mp he with rfl|he
  ·obtain⟨_,b,o',t1,t2,n,e1,g',c',d'⟩:=k.1;rw[e1];intro z;injection z with z;subst z;rw[g]at g';cases g';rw[c]at c';exact absurd c' (by decide)
  ·exact wJ g c k.2 e he
 |[],_::_,k,_,_=>k.elim
 |_::_,[],k,_,_=>k.elim
theorem qB{h:Heap}{a:Addr}{o:Obj}{es es':Array (Int×Value)}{ep:Nat}{t t':SetTable}{ps:List (Int×Int)}(ho:h.get? a=some o)(hex:o.ExactSet)(hd:o.data=.set es ep t)(T:Tab t' es'.toList)(el:Els prog w h es'.toList ps)(nd:ps.Nodup)(pl:t'.plain=true)(ld:t'.led=!w.params.followText "set-order")(lv:Lv t'.mask es'.size) :
  gF prog w (h.update a (Obj.putSet es' t')) a es' (ep+1) t' ps/\∀b o,b≠a->h.get? b=some o->(h.update a (Obj.putSet es' t')).get? b=some o:=by
 have keep:∀b o,b≠a->h.get? b=some o->(h.update a (Obj.putSet es' t')).get? b=some o:=fun b o hb g=>by
  rw[(Heap.SameBut.update h a (Obj.putSet es' t')).2 b hb];exact g
 have g:=Zr (Obj.putSet es' t') ho (by rw[putSet_of es' t' hd];rfl);rw[putSet_of es' t' hd]at g;exact⟨⟨⟨_,g,⟨hex.1,hex.2.1,hex.2.2⟩,rfl⟩,T,el.mono keep (wJ ho hex.1 el),nd,pl,ld,lv⟩,keep⟩
theorem yw{a:Addr}{es:Array (Int×Value)}{ep:Nat}{t:SetTable}{ps:List (Int×Int)}{m wanted:Nat}{o:Obj}(ho:s.heap.get? a=some o)(hex:o.ExactSet)(hd:o.data=.set es ep t)(hf:t.fits es.size=true)(el:Els prog w s.heap es.toList ps)(nd:ps.Nodup)(pl:t.plain=true)(ld:t.led=!w.params.followText "set-order")
  (hm:SetTable.sizeAbove wanted-1=m) (lv:Lv m es.size) (hs:SetTable.sizeAbove wanted<=2048) {Q:Unit->Shared->Prop}
  (q:∀h' es' ep' t' ps',(∀b o,b≠a->s.heap.get? b=some o->h'.get? b=some o)->gF prog w h' a es' ep' t' ps'->ps'.Perm ps->es'.toList.Perm es.toList->Q () { s with heap:=h' }):wpAny (model prog w) A (setRelay a wanted) Q E s:=by
 have hl:=lv.le;obtain⟨t',order,e,m1,m2,m3,P,T⟩:=Tab.relay (t:=t) (es:=es) hm lv.full (by omega);have sz:(order.filterMap (es[·]?)).size=es.size:=by rw[<-QY,P.length_eq,QY]
 obtain⟨ps',pp,el'⟩:=el.perm P;unfold setRelay;refine Q0 (wpAny_setState_of ho hd hf ?_);dsimp only;rw[if_neg (by unfold sizeLine;omega),e];refine Q0 ?_;refine wpAny_ite_split (fun c=>absurd sz (by simpa using c)) fun _=>Q6 ?_;dsimp only;obtain⟨S,keep⟩:=qB (prog:=prog) (w:=w) (t':=t') ho hex hd T el' (pp.nodup_iff.mpr nd) (by rw[m3];exact pl) (by rw[m2];exact ld) (by rw[m1,sz];exact lv);exact wpAny_storeSet_of ho hd (q _ _ _ _ _ keep S pp P) (by rw[sz];unfold sizeLine;omega)
theorem Cd{a x:Addr}{es:Array (Int×Value)}{ep:Nat}{t:SetTable}{ps:List (Int×Int)}{p:Int×Int}(S:gF prog w s.heap a es ep t ps)(hu:A.units<cLine)(hx:aZ s.heap (.ref x) p)(hn:es.size<1228){Q:Bool->Shared->Prop}
  (q:∀h' tk es' ep' t' ps' b,(∀b o,b≠a->s.heap.get? b=some o->h'.get? b=some o)->gF prog w h' a es' ep' t' ps'->(∀y,y∈ps'↔y∈ps\/y=p)->es'.size<=es.size+1->(∀e∈es'.toList,e∈es.toList\/e.2=.ref x)->s.toks<=tk->Q b { s with heap:=h',toks:=tk }) :
  wpAny (model prog w) A (setAdd a (.ref x)) Q E s:=by
 obtain⟨x',ex,kx⟩:=hU (prog:=prog) (w:=w) hx;cases ex;obtain⟨o,ho,hex,hd⟩:=S.ob;have hl:=S.lv.le;have sz:=S.tab.sz;have ls:=S.el.len;simp only[QY]at sz ls;unfold setAdd;refine wpAny_holding (Q0 (wpAny_pyHash_tuple hu kx ?_));obtain⟨e0,he0,hne⟩:=gap (m:=t.mask) S.tab.rs.nd (by rw[QY,sz];omega);obtain⟨N,n1,n2,n3⟩:=tH S.tab.fl (hP prog w p) (P:=(·∈t.place.toList)) he0 hne;show wpAny _ _ (setAddHashed a (.ref x) (hP prog w p)) _ _ _;unfold setAddHashed setAddHashedIn;refine wpAny_holding (Q0 (wpAny_setState_of ho hd S.fits ?_));dsimp only;have bs:byScan (.ref x) es=false:=rfl;rw[bs];simp only[Qr,if_false];unfold setSearch;refine Q0 (jF (s:={ s with toks:=s.toks+((kP p).length+1) }) S hu hx n2 n3 n1 (fun hm=>?_) (fun hm=>?_) 100000 0 none (Qi _) (by omega) rfl fun k' hk'=>by omega)
 ·dsimp only;refine Q6 (q s.heap _ es ep t ps _ (fun _ _ _ g=>g) S (fun y=>⟨.inl,fun h=>h.elim id fun e=>e▸hm⟩) (XR _) (fun e he=>.inl he) (X8 _ _))
 ·dsimp only;refine Q0 (wpAny_setState_of ho hd S.fits ?_);obtain⟨pp,e1,P,T⟩:=S.tab.put (h:=hP prog w p) (x:=.ref x) n2 n3;have e1':t.put (pth t.mask (hP prog w p) N).j=_:=e1;dsimp only;rw[e1'];dsimp only;rw[if_pos S.pl];refine Q0 (zF (s:={ s with toks:=s.toks+((kP p).length+1) }) hx ?_);simp only[if_true];have sz1:(SetTable.insertAt es pp (hP prog w p,Value.ref x)).size=es.size+1:=by have:=P.length_eq;simpa using this
  obtain⟨ps1,pp1,el1⟩:=(S.el.app (fs:=[(hP prog w p,.ref x)]) (qs:=[p]) ⟨⟨rfl,hx⟩,trivial⟩).perm P;have nd1:ps1.Nodup:=pp1.nodup_iff.mpr (by
   rw[XS];exact⟨S.nd,by simp,fun y hy z hz e=>hm (by rw[Qg.mp hz]at e;rw[<-e];exact hy)⟩)
  have mem1:∀y,y∈ps1↔y∈ps\/y=p:=fun y=>by rw[pp1.mem_iff,QN,Qg]
  have from1:∀e∈(SetTable.insertAt es pp (hP prog w p,Value.ref x)).toList,e∈es.toList\/e.2=.ref x:=fun e he=>by
   rcases QN.mp (P.mem_iff.mp he)with h|h
   ·exact .inl h
   ·rw[Qg.mp h];exact .inr rfl
  have keep1:∀b o,b≠a->s.heap.get? b=some o->(s.heap.update a (Obj.putSet (SetTable.insertAt es pp (hP prog w p,Value.ref x)) { t with place:=SetTable.insertAt t.place pp (pth t.mask (hP prog w p) N).j })).get? b=some o:=fun b o hb g=>by
   rw[(Heap.SameBut.update s.heap a _).2 b hb];exact g
  refine Q0 (wpAny_storeSet_of (s:={ s with toks:=s.toks+((kP p).length+1) }) ho hd ?_ (by rw[sz1];unfold sizeLine;omega));have tsz:(SetTable.insertAt t.place pp (pth t.mask (hP prog w p) N).j).size=es.size+1:=by
   have:=T.sz;change (SetTable.insertAt t.place pp (pth t.mask (hP prog w p) N).j).size=_ at this;rw[this,QY,sz1]
  have tf:({ t with place:=SetTable.insertAt t.place pp (pth t.mask (hP prog w p) N).j }:SetTable).tooFull=decide ((es.size+1)*5≥t.mask*3):=by
   unfold SetTable.tooFull SetTable.fill;dsimp only;rw[tsz,S.tab.dm];rfl
  rw[tf];rcases S.lv.next hn with⟨c1,lv⟩|⟨c1,m',hm',lv,hs⟩
  ·rw[decide_eq_false c1];simp only[Bool.not_false,Bool.and_false,Qr,if_false];obtain⟨S',keep⟩:=qB (prog:=prog) (w:=w) ho hex hd T el1 nd1 S.pl S.ld (by rw[sz1];exact lv);exact Q6 (q _ _ _ _ _ _ _ keep S' mem1 (by rw[sz1];exact QJ _) from1 (X8 _ _))
  ·rw[decide_eq_true c1];simp only[Bool.not_false,Bool.and_true,if_true];have g:=Zr (Obj.putSet (SetTable.insertAt es pp (hP prog w p,Value.ref x)) { t with place:=SetTable.insertAt t.place pp (pth t.mask (hP prog w p) N).j }) ho (by rw[putSet_of _ _ hd];rfl);rw[putSet_of _ _ hd]at g;have el2:=el1.mono keep1 (wJ ho hex.1 el1);refine Q0 (yw (prog:=prog) (w:=w) (s:={ s with heap:=s.heap.update a (Obj.putSet (SetTable.insertAt es pp (hP prog w p,Value.ref x)) { t with place:=SetTable.insertAt t.place pp (pth t.mask (hP prog w p) N).j }),toks:=s.toks+((kP p).length+1) }) g ⟨hex.1,hex.2.1,hex.2.2⟩ rfl ?_ el2 nd1 S.pl S.ld hm' (by rw[sz1];exact lv) hs fun h' es' ep' t' ps' keep2 S' pe es''=>?_)
   ·unfold SetTable.fits SetTable.fill;dsimp only;rw[tsz,S.tab.dm,sz1];simp;omega
   ·exact Q6 (q _ _ _ _ _ _ _ (fun b o hb g'=>keep2 b o hb (keep1 b o hb g')) S' (fun y=>by rw[pe.mem_iff];exact mem1 y) (by rw[<-QY,es''.length_eq,QY,sz1];exact QJ _) (fun e he=>from1 e (es''.mem_iff.mp he)) (X8 _ _))
abbrev fg(w:World):Obj:={ cls:=.type "set",dict:=none,data:=.set #[] 0 (.fresh 0 0 (!w.params.followText "set-order")) }
theorem Cc(a:Value){Q1:Value->Shared->Prop}(q:Q1 (.ref s.heap.objs.size) { s with heap:=s.heap.push (fg w) }) :
  codeAny (model prog w) A (.call (.builtin "set.__new__") ⟨[.type "set",a],[]⟩) (wants Q1 E) s:=by
 refine codeAny_of_tree ?_;change wpAny _ A.in1 ((checkBuiltinCall "set.__new__" ⟨[.type "set",a],[]⟩) >>= fun _=>again (.builtin "set.__new__" ⟨[.type "set",a],[]⟩)) _ _ s;rw[PySem.F.newCall_set_1 a];refine Q0 (Q6 (Q6 ⟨plainId_quiet PySem.F.plain_set_new _,codeAny_builtin PySem.F.entry_set_new ?_⟩));rw[Around.under_plainId PySem.F.plain_set_new _];unfold Builtin.«set.__new__» Builtin.Frozenset.newClass;have hs:=sub_set_self;obtain⟨hp,g,d,tk,os⟩:=s;dsimp only
 wp_walk
 refine wpAny_askSetting (Q6 ?_);dsimp only;unfold newObj;exact Q0 (wpAny_alloc (Q6 (Q6 q)))
theorem pZ{l:Value}{Q:Value->Shared->Prop}
  (hi:wpAny (model prog w) A.in1.in1 (Builtin.«set.__init__» ⟨[.ref s.heap.objs.size,l],[]⟩)
   (fun fin s'=>match fin with
    |.done f=>wants (fun r s2=>r=.none/\Q (.ref s.heap.objs.size) s2) E (.ok f) s'
    |.again c'=>c'.quiet=true/\codeAny (model prog w) A.in1 c' (wants (fun r s2=>r=.none/\Q (.ref s.heap.objs.size) s2) E) s')
   (fun e s'=>wants (fun r s2=>r=.none/\Q (.ref s.heap.objs.size) s2) E (.error e) s') { s with heap:=s.heap.push (fg w) }) :
  wpAny (model prog w) A (call (.type "set") [l]) Q E s:=by
 have f:=PySem.F.called_set;obtain⟨c,tl,m0⟩:=f.mro;have m1:=f.made;have m2:=f.sub;have m3:=f.notType;have m4:=f.canCreate;have m5:=PySem.F.typeCall_set_1 l;refine wpAny_call (codeAny_of_tree (Q6 ⟨Code.quiet_builtin _ (by decide +kernel),codeAny_builtin PySem.F.entry_type_call ?_⟩));rw[Around.under_plain (weight_type_call_type "set" [l] []) rfl];repeat (any_goals (first|assumption|wp_step))
 refine codeAny_mono (Cc l (E:=E) (Q1:=fun v s1=>v=.ref s.heap.objs.size/\s1={ s with heap:=s.heap.push (fg w) }) ⟨rfl,rfl⟩) fun r s1 hr=>?_;rcases r with e|fl
 ·exact hr
 ·cases fl with
  |ret v=>
   obtain⟨rfl,rfl⟩:=hr;have hT:Shared.TypeIs { s with heap:=s.heap.push (fg w) } (.ref s.heap.objs.size) "set":=⟨_,QU _ rfl,rfl⟩;have m6:=f.init.lookup;have m7:=f.init.bind (.ref s.heap.objs.size);repeat (any_goals (first|assumption|wp_step))
   refine codeAny_mono (codeAny_call_builtin f.init.plain PySem.F.entry_set_init (check_set_init_1 hT hi)) fun r2 s2 hr2=>?_;rcases r2 with e|fl2
   ·exact hr2
   ·cases fl2 with
    |ret r=>
     obtain⟨rfl,hq⟩:=hr2;repeat (any_goals (first|assumption|wp_step))
    |_=>exact hr2.elim
  |_=>exact hr.elim
theorem yd{R:Result->Shared->Prop}{I Sa:Addr}{fp wr:List Addr}{G:Array GenState->Array GenState->Prop}{n:Nat}{P:Nat->Value->Prop}{St:Nat->Shared->Prop}(W:WalksS prog w A.in1 I fp wr G n P St)(hSf:Sa∉fp)(hu:A.in1.units<cLine){h0:Heap}(hwr:∀b∈wr,h0.objs.size<=b)(hSa:h0.objs.size<=Sa)
  (val:Nat->Int×Int) (hval:∀i v,P i v->aZ h0 v (val i)) (hb:n<=1200) :
  ∀(k i:Nat) (s:Shared),n-i=k->i<=n->St i s->(∀b o,h0.get? b=some o->s.heap.get? b=some o)->
   (∃es ep t ps,gF prog w s.heap Sa es ep t ps/\(∀e∈es.toList,∃j,P j e.2)/\es.size<=i/\∀y,y∈ps↔∃j,j<i/\val j=y)->
   (∀s',Moved (Sa::wr) G s s'->(∃es ep t ps,gF prog w s'.heap Sa es ep t ps/\(∀e∈es.toList,∃j,P j e.2)/\es.size<=n/\∀y,y∈ps↔∃j,j<n/\val j=y)->R (.ok (.ret .none)) s')->
   codeAny (model prog w) A (.builtin "set.update.loop" ⟨[.ref Sa,.ref I],[]⟩) R s:=by
 have sub:∀b∈wr,b∈Sa::wr:=fun b hb=>QF _ hb;have hSw:Sa∉wr:=fun h=>hSf (W.sub _ h);have moveS:∀{s s':Shared} {es ep t ps},Moved wr G s s'->(∀e∈es.toList,∃j,P j e.2)->gF prog w s.heap Sa es ep t ps->gF prog w s'.heap Sa es ep t ps:=fun{s s' es ep t ps} hm old S=>by
  obtain⟨⟨o,g,ex,d⟩,r1,r2,r3,r4,r5,r6⟩:=S;refine⟨⟨o,hm.heap _ _ hSw g,ex,d⟩,r1,r2.keep fun b o hb=>hm.heap b o fun z=>?_,r3,r4,r5,r6⟩;obtain⟨e,he,e2⟩:=hb;obtain⟨j,pj⟩:=old e he;obtain⟨b',o',_,_,_,e3,g',_⟩:=hval j _ pj;rw[e2]at e3;injection e3 with e3;exact absurd (QV g') (by rw[<-e3];exact XG.mpr (hwr b z))
 intro k;induction k with
 |zero=>
  intro i s hk hi hst old hS hR;obtain rfl:i=n:=by omega
  refine codeAny_builtin PyProof.Rows.F.entry_set_update_loop ?_;rw[Around.under_plainId PyProof.Rows.F.plain_set_update_loop _];change wpAny _ A.in1 (pyNext (.ref I) >>= _) _ _ s;refine Q0 (W.done s _ _ hst fun s' hm=>Q6 (hR s' (hm.mono sub) ?_));obtain⟨es,ep,t,ps,S,oe,r⟩:=hS;exact⟨es,ep,t,ps,moveS hm oe S,oe,r⟩
 |succ k ih=>
  intro i s hk hi hst old hS hR;refine codeAny_builtin PyProof.Rows.F.entry_set_update_loop ?_;rw[Around.under_plainId PyProof.Rows.F.plain_set_update_loop _];change wpAny _ A.in1 (pyNext (.ref I) >>= _) _ _ s;refine Q0 (W.item i s _ _ (by omega) hst fun v s' hP hst' hm=>?_);obtain⟨es,ep,t,ps,S,oe,sz,mem⟩:=hS;have S1:=moveS hm oe S;have old1:∀b o,h0.get? b=some o->s'.heap.get? b=some o:=fun b o g=>hm.heap b o (fun z=>absurd (QV g) (XG.mpr (hwr b z))) (old b o g);obtain⟨b,o,t1,t2,e,rfl,g,c,d⟩:=hval i v hP;have hx:aZ s'.heap (.ref b) (val i):=⟨b,o,t1,t2,e,rfl,old1 b o g,c,d⟩;change wpAny _ A.in1 (holding [Value.ref b] (setAdd Sa (.ref b)) >>= _) _ _ s';refine Q0 (wpAny_holding (Cd S1 hu hx (by omega) fun h' tk es' ep' t' ps' bb keep S2 mem2 sz2 oe2 htk=>?_));refine Q6 ⟨plainId_quiet PyProof.Rows.F.plain_set_update_loop _,ih (i+1) _ (by omega) (by omega) (W.frame _ s' _ _ hst' htk fun b hb o g=>keep b o (fun z=>hSf (z▸hb)) g) (fun b o g=>keep b o (fun z=>absurd (QV g) (by rw[z];exact XG.mpr hSa)) (old1 b o g)) ⟨es',ep',t',ps',S2,fun e he=>(oe2 e he).elim (oe e) fun z=>⟨i,by rw[z];exact hP⟩,by omega,fun y=>?_⟩ fun s'' hm'' hS''=>?_⟩
  ·rw[mem2,mem];constructor
   ·rintro(⟨j,hj,e⟩|e)
    ·exact⟨j,by omega,e⟩
    ·exact⟨i,by omega,e.symm⟩
   ·rintro⟨j,hj,e⟩;rcases X1 j i with c|c
    ·exact .inl ⟨j,c,e⟩
    ·exact .inr (by rw[<-e,show j=i by omega])
  ·exact hR s'' (Moved.trans W.gtrans ((hm.mono sub).then_heap htk fun b o hb g=>keep b o (fun z=>hb (by rw[z];exact QB)) g) hm'') hS''
theorem zI{h:Heap}{a:Addr}(g:h.get? a=some (fg w)):gF prog w h a #[] 0 (.fresh 0 0 (!w.params.followText "set-order")) []:=
 ⟨⟨_,g,⟨rfl,rfl,rfl⟩,rfl⟩,⟨rfl,List.Pairwise.nil,GF,rfl,fun i j e g=>by simp[SetTable.fresh]at g⟩,trivial,List.nodup_nil,rfl,rfl,.inl ⟨rfl,by decide⟩⟩
theorem lX{l:Addr}{vs:List Value}{ps0:List (Int×Int)}{Q:Value->Shared->Prop}(hh:A.handled=none)(hu:A.units+64<cLine)(hl:s.heap.IsList l vs.toArray)(hp:cI s.heap vs ps0)(hn:vs.length<=1200)
  (q:∀h' tk es ep t ps,gF prog w h' s.heap.objs.size es ep t ps->(∀e∈es.toList,∃j:Nat,vs[j]?=some e.2)->es.size<=1200->(∀y,y∈ps↔y∈ps0)->(∀b o,s.heap.get? b=some o->h'.get? b=some o)->Q (.ref s.heap.objs.size) { s with heap:=h',toks:=tk }) :
  wpAny (model prog w) A (call (.type "set") [.ref l]) Q E s:=by
 refine pZ ?_;have gS:(s.heap.push (fg w)).get? s.heap.objs.size=some (fg w):=QU _ rfl;have hl1:(s.heap.push (fg w)).IsList l vs.toArray:=hl.push _;obtain⟨ol,gl,cl,nl,dl⟩:=hl;obtain⟨ocl,odi,oda,osl⟩:=ol;dsimp only at cl dl;subst cl;subst dl;have gl':(s.heap.push (fg w)).get? l=some { cls:=.type "list",dict:=odi,data:=.seq vs.toArray nl,slots:=osl }:=Q3 _ gl;have x1:=PySem.F.sub_list_set;have x2:=PySem.F.sub_list_frozenset;have x3:(Value.type "list" == Value.type "dict")=false:=by decide
 have lS:l<s.heap.objs.size:=QV gl;unfold Builtin.«set.__init__» noKeywords Builtin.Frozenset.updateFrom;generalize hq:pyIter=PI
 wp_walk
 subst hq;refine wpAny_pyIter_list hl1 (Q0 (wpAny_runValue ?_));have sz1:(s.heap.push (fg w)).objs.size=s.heap.objs.size+1:=Zu ..;have W:=(Walks.list (prog:=prog) (w:=w) (A:=A.in1.in1.in1) hh (s.heap.push (fg w)).objs.size l (by rw[sz1];exact Qj (XW lS)) vs.toArray).toS;have hv:∀(i:Nat) (v:Value),vs.toArray[i]?=some v->aZ s.heap v (ps0.getD i (0,0)):=fun i v g=>by
  rw[List.getElem?_toArray]at g;have:=(Q7.mp g).1;have hpg:=hE hp (i:=i) (by rw[<-dj hp];exact this);rw[Q9,g]at hpg;exact hpg
 refine yd W (Sa:=s.heap.objs.size) (by rw[sz1];simp;exact X0 lS) (by show A.units+1+1+1<cLine;omega) (h0:=s.heap) (fun b hb=>by rw[sz1]at hb;simp at hb;rw[hb];exact XR _) (QJ _) (fun i=>ps0.getD i (0,0)) hv (by simpa using hn) (vs.toArray.size-0) 0 _ (by omega) (Qi _) ⟨⟨_,QU _ rfl,rfl,rfl⟩,hl1.push _⟩ (fun b o g=>Q3 _ (Q3 _ g)) ⟨#[],0,_,[],zI (Q3 _ gS),fun e he=>by simp at he,QJ _,fun y=>Iff.intro (fun z=>by simp at z) (fun z=>by obtain⟨j,hj,_⟩:=z;omega)⟩ fun s' hm hS=>?_;obtain⟨es,ep,t,ps,S,oe,sz,mem⟩:=hS;obtain⟨h',g',d',tk',os'⟩:=s';have eg:g'=s.gens:=hm.gens;have ed:d'=s.drawn:=hm.drawn;have eo:os'=s.os:=hm.os;subst eg;subst ed;subst eo;refine Q6 (Q6 ⟨rfl,?_⟩);refine q h' tk' es ep t ps S (fun e he=>by obtain⟨j,hj⟩:=oe e he;exact⟨j,by rw[List.getElem?_toArray]at hj;exact hj⟩) (by simp at sz;omega) (fun y=>?_) fun b o g=>?_
 ·rw[mem];have e:=dj hp;constructor
  ·rintro⟨j,hj,rfl⟩;have hj':j<ps0.length:=by simp at hj;omega
   rw[Q9,Q4 hj'];exact ZR hj'
  ·intro hy;obtain⟨j,hj,rfl⟩:=List.getElem_of_mem hy;refine⟨j,by simp;omega,?_⟩;rw[Q9,Q4 hj];rfl
 ·have lt:=QV g;refine hm.heap b o ?_ (Q3 _ (Q3 _ g));rw[sz1];simp;exact⟨Qj lt,Qj (XW lt)⟩
theorem iO:Slot "set_iterator" "__next__" "set_iterator.__next__":=.of (owner:="set_iterator") (n:="__next__") (by rw[typeLookup_type,builtinLookup_eq_fast];kernel_rfl) (by decide +kernel) (by decide +kernel) (by decide +kernel) (by first|exact .inl (by decide +kernel)|exact .inr (by decide +kernel)) (by rw[isSubtype_type];kernel_rfl)
theorem wI:entryFor table "set_iterator.__next__"=some Builtin.«set_iterator.__next__»:=entryFor_of_tree (by kernel_rfl)
theorem zL:entryFor table "set.__iter__"=some Builtin.«frozenset.__iter__»:=entryFor_alias (id':="frozenset.__iter__") (by kernel_rfl) rfl (by decide +kernel) (by kernel_rfl)
theorem uJ:Slot "set_iterator" "__iter__" "set_iterator.__iter__":=.of (owner:="set_iterator") (n:="__iter__") (by rw[typeLookup_type,builtinLookup_eq_fast];kernel_rfl) (by decide +kernel) (by decide +kernel) (by decide +kernel) (by first|exact .inl (by decide +kernel)|exact .inr (by decide +kernel)) (by rw[isSubtype_type];kernel_rfl)
theorem DB:entryFor table "set_iterator.__iter__"=some Builtin.«dict_keyiterator.__iter__»:=entryFor_alias (id':="dict_keyiterator.__iter__") (by kernel_rfl) rfl (by decide +kernel) (by kernel_rfl)
theorem xB(a:Value):argsOk "set_iterator.__next__" ⟨[a],[]⟩:=by
 unfold argsOk;rw[signature?_of (id:="set_iterator.__next__") (n:="__txen__".toList) (o:="rotareti_tes".toList) (rows:=Manifest.sig_set_iterator) (by kernel_rfl) (by kernel_rfl)]
 kernel_rfl
theorem DR(a:Value):argsOk "set_iterator.__iter__" ⟨[a],[]⟩:=by
 unfold argsOk;rw[signature?_of (id:="set_iterator.__iter__") (n:="__reti__".toList) (o:="rotareti_tes".toList) (rows:=Manifest.sig_set_iterator) (by kernel_rfl) (by kernel_rfl)]
 kernel_rfl
theorem wH{α:Type}:∀{l:List α} {k:Nat} (h:k<l.length),(l[k]::l.eraseIdx k).Perm l
 |x::r,0,_=>List.Perm.refl _
 |x::r,k+1,h=>(List.Perm.swap x _ _).trans ((wH (l:=r) (k:=k) (by simpa using h)).cons x)
theorem vm{α:Type}{nx:Nat->Nat}:∀(f k:Nat) (l:List α) (out:Array α),f=l.length->(pickOrder.go nx f k l out).toList.Perm (out.toList++l)
 |0,k,l,out,h=>by
  rw[X4 h.symm,Qn];exact .refl _
 |f+1,k,l,out,h=>by
  unfold pickOrder.go;have hlt:nx k % l.length<l.length:=Nat.mod_lt _ (by omega);rw[Q4 hlt];dsimp only;refine(vm f (k+1) _ _ (by rw[List.length_eraseIdx,if_pos hlt];omega)).trans ?_;rw[Xq,Q8];exact List.Perm.append_left _ (wH hlt)
theorem vk{α:Type}{nx:Nat->Nat}(xs:Array α):(pickOrder nx xs).toList.Perm xs.toList:=by
 unfold pickOrder;have:=vm (nx:=nx) xs.size 0 xs.toList #[] (by simp);simpa using this
def y3(w:World)(a:Addr)(ep:Nat)(es:Array (Int×Value)):Array (Int×Value):=if w.params.followText "set-order" then pickOrder (w.params.setOrder a ep) es else es
theorem ie{w:World}{a:Addr}{ep:Nat}{es:Array (Int×Value)}:(y3 w a ep es).toList.Perm es.toList:=by
 unfold y3;split
 ·exact vk es
 ·exact .refl _
theorem lJ{xs:Array Nat}(h:Rs xs.toList):SetTable.below xs 0=0:=by
 obtain⟨p,e,h1,h2,h3⟩:=jD h 0;rw[e];cases p with
 |zero=>rfl
 |succ p=>have:=h2 0 (by omega);omega
theorem tM{xs:Array Nat}(h:Rs xs.toList){i j:Nat}(g:xs[i]?=some j):SetTable.below xs (j+1)=i+1:=by
 obtain⟨p,e,h1,h2,h3⟩:=jD h (j+1);have hi:i<xs.size:=(Zt.mp g).1;have gi:∀d,xs.getD i d=j:=fun d=>by simp[XX,hi];rw[QR hi]at g;injection g
 rw[e];rcases Nat.lt_trichotomy p (i+1)with c|c|c
 ·have:=h3 i (by omega) hi;rw[gi]at this;omega
 ·exact c
 ·have a1:=h2 (i+1) c;have a2:=h.lt (d:=j+1) (show i<i+1 by omega) (show i+1<xs.size by omega);rw[gi]at a2;omega
structure Ag(w:World)(o:Obj)(es:Array (Int×Value))(ep:Nat)(t:SetTable):Prop where
 ex:o.ExactSet
 dt:o.data=.set es ep t
 tab:Tab t es.toList
 pl:t.plain=true
 ld:t.led=!w.params.followText "set-order"
 lv:Lv t.mask es.size
theorem gF.so{prog:Program}{w:World}{h:Heap}{a:Addr}{es:Array (Int×Value)}{ep:Nat}{t:SetTable}{ps:List (Int×Int)}(S:gF prog w h a es ep t ps):∃o,h.get? a=some o/\Ag w o es ep t:=let ⟨o,g,ex,d⟩:=S.ob;⟨o,g,ex,d,S.tab,S.pl,S.ld,S.lv⟩
theorem Ag.fits{w:World}{o:Obj}{es:Array (Int×Value)}{ep:Nat}{t:SetTable}(S:Ag w o es ep t):t.fits es.size=true:=by
 have h1:=S.lv.le;have h2:=S.tab.sz;have h3:=S.tab.dm;unfold SetTable.fits SetTable.fill;rw[h3];simp only[QY]at h2;simp[h2];omega
section
variable{a:Addr}{es:Array (Int×Value)}{ep:Nat}{t:SetTable}{o:Obj}
theorem p7{Q:Bool->Shared->Prop}(q:Q (w.params.followText "set-order") s):wpAny (model prog w) A setsByText Q E s:=by
 unfold setsByText;exact Q0 (wpAny_askSetting (Q6 q))
def SIt(w:World)(h:Heap)(it a:Addr)(i n ep:Nat)(t:SetTable):Prop:=∃o sl,h.get? it=some o/\o.cls=.type "set_iterator"/\o.data=.fields #[rawInt (sl:Nat),rawInt (i:Nat),.ref a,rawInt (n:Nat),rawInt (ep:Nat)]/\(w.params.followText "set-order"=false->SetTable.below t.place sl=i)
theorem SIt.ty{it:Addr}{i n:Nat}(h:SIt w s.heap it a i n ep t):s.TypeIs (.ref it) "set_iterator":=let ⟨o,_,g,c,_⟩:=h;⟨o,g,c⟩
theorem B9(ho:s.heap.get? a=some o)(S:Ag w o es ep t){Q:Value->Shared->Prop}(q:∀o,SIt w (s.heap.push o) s.heap.objs.size a 0 es.size ep t->o={ cls:=.type "set_iterator",data:=.fields #[rawInt 0,rawInt 0,.ref a,rawInt (es.size:Nat),rawInt (ep:Nat)] }->Q (.ref s.heap.objs.size) { s with heap:=s.heap.push o }):wpAny (model prog w) A (pyIter (.ref a)) Q E s:=by
 have hd:=S.dt;have hex:=S.ex;have T:s.TypeIs (.ref a) "set":=⟨o,ho,hex.1⟩;refine wpAny_pyIter_slot T PySem.F.slot_set_iter (wpAny_call_entry PySem.F.slot_set_iter T zL ?_ (PySem.F.args_set_iter_1 _));unfold Builtin.«frozenset.__iter__» Builtin.Frozenset.slot0 slotArgs;refine Q0 (Q0 (Q6 (Q6 ?_)));unfold Builtin.Frozenset.sizeOf;refine Q0 (Q0 (wpAny_setEntries_of ho hd S.fits (Q6 ?_)));unfold setDrawn;refine Q0 (Q0 (wpAny_setState_of ho hd S.fits (Q0 (p7 (Q6 ?_)))));refine wpAny_ite_split (fun c=>?_) fun _=>?_
 ·have c':(!w.params.followText "set-order"&&(!t.plain&&decide (es.size>1)))=true:=c;rw[S.pl]at c';simp at c'
 refine Q0 (Q6 (Q0 (wpAny_setEpoch_of ho hd S.fits ?_)));refine Q0 (wpAny_newObj_type (Q6 ⟨_,rfl,"set_iterator",_,⟨_,QU _ rfl,rfl⟩,iO.lookup,q _ ⟨_,0,QU _ rfl,rfl,rfl,fun _=>lJ S.tab.rs⟩ rfl⟩))
theorem SIt.at_{h h':Heap}{it:Addr}{i n:Nat}(x:SIt w h it a i n ep t)(e:∀o,h.get? it=some o->h'.get? it=some o):SIt w h' it a i n ep t:=let ⟨o,sl,g,r⟩:=x;⟨o,sl,e o g,r⟩
theorem qF{it:Addr}{i sl:Nat}(ho:s.heap.get? a=some o)(S:Ag w o es ep t)(hsl:w.params.followText "set-order"=false->SetTable.below t.place sl=i){Q:Option (Value×Nat)->Shared->Prop}
  (q1:∀e,(y3 w a ep es)[i]?=some e->∀sl',(w.params.followText "set-order"=false->SetTable.below t.place sl'=i+1)->Q (some (e.2,sl')) s) (q2:(y3 w a ep es)[i]?=none->Q none s):wpAny (model prog w) A (setNext a sl i ep) Q E s:=by
 have hd:=S.dt;have hex:=S.ex;unfold setNext;refine Q0 (wpAny_setState_of ho hd S.fits ?_);dsimp only;refine Q0 (p7 ?_);unfold y3 at q1 q2;cases hb:w.params.followText "set-order" with
 |true=>
  rw[hb]at q1 q2;simp only[if_true]at q1 q2 ⊢;rw[if_neg (by simp)];unfold setWalk;refine Q0 (Q0 (wpAny_setState_of ho hd S.fits ?_));dsimp only;refine Q0 (p7 ?_);rw[hb];simp only[if_true];refine Q0 (wpAny_askSetting (Q6 (Q6 ?_)));show Q ((pickOrder (w.params.setOrder a ep) es)[i]?.map fun e=>(e.2,sl)) s;cases hg:(pickOrder (w.params.setOrder a ep) es)[i]? with
  |none=>exact q2 hg
  |some e=>exact q1 e hg sl (fun z=>by cases z)
 |false=>
  rw[hb]at q1 q2;simp only[Qr,if_false]at q1 q2 ⊢;refine wpAny_ite_split (fun c=>?_) fun _=>?_
  ·have c':(!t.plain&&decide (es.size>1))=true:=c;rw[S.pl]at c';simp at c'
  refine Q0 ?_;have hl:t.led=true:=by rw[S.ld,hb];rfl
  show wpAny _ _ (if (!t.led&&!es.isEmpty)=true then unsupported "set:maker-not-led" else pure ()) _ _ _;rw[hl];simp only[Bool.not_true,Bool.false_and,Qr,if_false];refine Q6 (Q6 ?_);rw[hsl hb];have sz:=S.tab.sz;simp only[QY]at sz;by_cases c:i<es.size
  ·have c2:i<t.place.size:=by omega
   rw[QR c,QR c2];exact q1 _ (QR c) _ fun _=>tM S.tab.rs (QR c2)
  ·have h0:es[i]?=none:=X7 (by omega);rw[h0];exact q2 h0
theorem Ca{it:Addr}{i:Nat}(ho:s.heap.get? a=some o)(S:Ag w o es ep t)(I:SIt w s.heap it a i es.size ep t)(hi:i<es.size){Q:Option Value->Shared->Prop}
  (q:∀e h',(y3 w a ep es)[i]?=some e->SIt w h' it a (i+1) es.size ep t->XI it s.heap h'->Q (some e.2) { s with heap:=h' }):wpAny (model prog w) A (pyNext (.ref it)) Q E s:=by
 have T:=I.ty;obtain⟨io,sl,hio,ic,id',hsl⟩:=I;have hd:=S.dt;have hex:=S.ex;unfold pyNext;refine Q0 (wpAny_attempt (wpAny_callSpecial?_slot (name:=Str.ofString "__next__") T iO (wpAny_call_entry iO T wI ?_ (xB _))));unfold Builtin.«set_iterator.__next__» slotArgs;refine Q0 (Q6 (Q0 (wpAny_fieldsOf hio id' ?_)));show wpAny _ _ (setEntries a >>= _) _ _ s;refine Q0 (wpAny_setEntries_of ho hd S.fits ?_);rw[if_neg (by simp)];show wpAny _ _ (setNext a (sl:Int).toNat (i:Int).toNat (ep:Int).toNat >>= _) _ _ s;simp only[Zx];refine Q0 (qF (it:=it) ho S hsl (fun e he sl' hsl'=>?_) fun hn=>?_)
 ·dsimp only;refine Q0 (wpAny_setField hio id' (by simp) ?_);have g1:=Zr (Obj.mapFields (·.setIfInBounds 0 (rawInt (sl':Nat)))) hio (Obj.isFreed_of_fields (Obj.data_mapFields id' _));have d1:=Obj.data_mapFields id' (·.setIfInBounds 0 (rawInt (sl':Nat)));refine Q0 (wpAny_setField (s:={ s with heap:=s.heap.update it (Obj.mapFields (·.setIfInBounds 0 (rawInt (sl':Nat)))) }) g1 d1 (by simp) ?_);have g2:=Zr (Obj.mapFields (·.setIfInBounds 1 (rawInt ((i:Int)+1)))) g1 (Obj.isFreed_of_fields (Obj.data_mapFields d1 _));have d2:=Obj.data_mapFields d1 (·.setIfInBounds 1 (rawInt ((i:Int)+1)));have I2:SIt w ((s.heap.update it (Obj.mapFields (·.setIfInBounds 0 (rawInt (sl':Nat))))).update it (Obj.mapFields (·.setIfInBounds 1 (rawInt ((i:Int)+1))))) it a (i+1) es.size ep t:=by
   refine⟨_,sl',g2,((Obj.cls_mapFields ..).trans (Obj.cls_mapFields ..)).trans ic,?_,hsl'⟩;rw[d2];simp
  exact Q6 ⟨_,rfl,Q6 (q e _ he I2 ((Heap.SameBut.update ..).trans (Heap.SameBut.update ..)))⟩
 ·have:=(ie (w:=w) (a:=a) (ep:=ep) (es:=es)).length_eq;simp only[QY]at this;have:=Array.getElem?_eq_none_iff.mp hn;omega
theorem E7{it:Addr}(hh:A.handled=none)(ho:s.heap.get? a=some o)(S:Ag w o es ep t)(I:SIt w s.heap it a es.size es.size ep t){Q:Option Value->Shared->Prop}
  (q:∀h',Heap.ExtBut it s.heap h'->Q none { s with heap:=h' }):wpAny (model prog w) A (pyNext (.ref it)) Q E s:=by
 have T:=I.ty;obtain⟨io,sl,hio,ic,id',hsl⟩:=I;have hd:=S.dt;have hex:=S.ex;unfold pyNext;refine Q0 (wpAny_attempt (wpAny_callSpecial?_slot (name:=Str.ofString "__next__") T iO (wpAny_call_entry iO T wI ?_ (xB _))));unfold Builtin.«set_iterator.__next__» slotArgs;refine Q0 (Q6 (Q0 (wpAny_fieldsOf hio id' ?_)));show wpAny _ _ (setEntries a >>= _) _ _ s;refine Q0 (wpAny_setEntries_of ho hd S.fits ?_);rw[if_neg (by simp)];show wpAny _ _ (setNext a (sl:Int).toNat (es.size:Int).toNat (ep:Int).toNat >>= _) _ _ s;simp only[Zx];refine Q0 (qF (it:=it) ho S hsl (fun e he sl' hsl'=>?_) fun hn=>?_)
 ·have:=(ie (w:=w) (a:=a) (ep:=ep) (es:=es)).length_eq;simp only[QY]at this;have:=(Zt.mp he).1;omega
 ·dsimp only;refine Q0 (wpAny_setField hio id' (by simp) (Q0 ?_));unfold newExc newTuple;refine Q0 (wpAny_newObj_type ?_ (by size_fits));refine Q0 (m:=firstArgMember _ _) (wpAny_of_eq (a:=Value.none) (by first|rfl|(simp only[firstArgMember];rfl)) (wpAny_newObj_type ?_ (by size_fits)));unfold raiseNew;refine Q0 (wpAny_handled ?_);rw[show A.in1.handled=none from hh];refine Q0 (Q6 (wpAny_throw ?_));refine Q0 (wpAny_isInstance (T:="StopIteration") (b:=true) ⟨_,QU _ rfl,rfl⟩ isSubtype_stop ?_);exact Q6 (q _ (((Heap.SameBut.update ..).extBut.push _).push _))
theorem B8{it:Addr}{i n:Nat}{Q:Value->Shared->Prop}(I:SIt w s.heap it a i n ep t)(q:Q (.ref it) s):wpAny (model prog w) A (pyIter (.ref it)) Q E s:=by
 refine wpAny_pyIter_slot I.ty uJ (wpAny_call_entry uJ I.ty DB ?_ (DR _));show wpAny _ _ (ret (Value.ref it)) _ _ s;exact Q6 ⟨_,rfl,"set_iterator",_,I.ty,iO.lookup,q⟩
theorem zB(T:s.TypeIs (.ref a) "set"){Q:Bool->Shared->Prop}(q:Q false s):wpAny (model prog w) A (Builtin.List.listLengthHint (.ref a)) Q E s:=by
 unfold Builtin.List.listLengthHint;refine Q0 (wpAny_specialOf T PySem.F.slot_set_len.lookup ?_);generalize hid:("set.__len__":String)=id0
 wp_delta
 rw[show splitId id0=some ("set","__len__")by subst hid;decide +kernel];subst hid;refine Q0 (wpAny_isInstance (T:="set") (b:=true) T sub_set_self ?_);refine wpAny_ite_split (fun c=>absurd c (by decide)) fun _=>wpAny_ite_split (fun _=>Q0 (wpAny_typeOf T (Q6 q))) fun c=>absurd (by decide +kernel) c
theorem Cb(S:Ag w o es ep t):KdlSrc prog w "set" a a es.size (fun i v=>∃e,(y3 w a ep es)[i]?=some e/\v=e.2) (fun h=>h.get? a=some o) where
 type:=fun s g=>⟨o,g,S.ex.1⟩
 there:=fun h g=>⟨QV g,QV g⟩
 keep:=fun h h' g m=>m a (.inl rfl) o g
 notList:=by decide
 notTuple:=by decide
 hint:=fun A E s Q g q=>zB ⟨o,g,S.ex.1⟩ q
 iter:=fun A s hh g=>by
  refine⟨{ cls:=.type "set_iterator",data:=.fields #[rawInt 0,rawInt 0,.ref a,rawInt (es.size:Nat),rawInt (ep:Nat)] },fun i h=>SIt w h s.heap.objs.size a i es.size ep t/\h.get? a=some o,fun E Q q=>B9 g S fun o' _ e=>by rw[e];exact q,?_,⟨⟨_,0,QU _ rfl,rfl,rfl,fun _=>lJ S.tab.rs⟩,Q3 _ g⟩⟩;have ne:a≠s.heap.objs.size:=Qj (QV g);refine⟨fun b hb=>by simp at hb;simp[hb],fun i h h' st m=>⟨st.1.at_ fun o1 g1=>m _ (by simp) o1 g1,m _ (by simp) o st.2⟩,fun i s' Q E hi st k=>?_,fun s' Q E st k=>?_,fun i s' Q E st q=>B8 st.1 q⟩
  ·refine Ca st.2 S st.1 hi fun e h' he I' sb=>k _ h' _ ⟨e,he,rfl⟩ ⟨I',?_⟩ fun b o' hb g'=>?_
   ·rw[sb.2 a ne];exact st.2
   ·rw[sb.2 b (by simpa using hb)];exact g'
  ·exact E7 hh st.2 S st.1 fun h' eb=>k h' _ fun b o' hb g'=>eb b o' (by simpa using hb) g'
end
theorem rY:bootBuiltins "set"=some (.type "set"):=rfl
theorem yU{h:Heap}{v:Value}{p q:Int×Int}(hp:aZ h v p)(hq:aZ h v q):p=q:=by
 obtain⟨b,o,t1,t2,e,hx,g1,_,d1⟩:=hp;obtain⟨b',o',t1',t2',e',hx',g1',_,d1'⟩:=hq;rw[hx]at hx';cases hx';rw[g1]at g1';cases g1';rw[d1]at d1';injection d1' with d2 _;have d3:=congrArg Array.toList d2;simp only[List.cons.injEq,Value.int.injEq]at d3;exact Prod.ext d3.1.1 d3.2.1.1
theorem hJ:∀{ys:List V} {vs:List Value} {j:Nat} {y:V} {v:Value},aX ys vs->ys[j]?=some y->vs[j]?=some v->bR y v
 |_,_,0,y,v,.cons r _,h1,h2=>by simp at h1 h2;subst h1;subst h2;exact r
 |_,_,j+1,y,v,.cons _ t,h1,h2=>hJ t (by simpa using h1) (by simpa using h2)
 |_,_,j,y,v,.nil,h1,_=>by simp at h1
def E8(w:World)(a:Addr)(es:Array (Int×Value))(ep:Nat)(t:SetTable):HO:=.ext fun h=>∃o,h.get? a=some o/\Ag w o es ep t
theorem CC{ys:List V}{ps:List (Int×Int)}{k:Nat}{v:V}:PrL K H ys ps->ys[k]?=some v->∃p a,ps[k]?=some p/\v=.ref a/\SqT K H a [.int p.1,.int p.2]:=fun h g=>by
 induction ys generalizing ps k with
 |nil=>simp at g
 |cons y ys ih=>
  cases ps with
  |nil=>exact h.elim
  |cons p ps=>
   cases k with
   |zero=>
    simp at g;subst g;obtain⟨a,e,sq⟩:=h.1;exact⟨p,a,rfl,e,sq⟩
   |succ k=>simpa using ih h.2 (by simpa using g)
theorem vi{prog:Program}{w:World}{h:Heap}:∀{es:List (Int×Value)} {ps:List (Int×Int)},Els prog w h es ps->(∀e∈es,∃p a,e.2=.ref a/\SqT K H a [.int p.1,.int p.2]/\aZ h e.2 p)->∃zs,aX zs (es.map (·.2))/\PrL K H zs ps
 |[],[],_,_=>⟨[],.nil,trivial⟩
 |e::es,p::ps,k,m=>by
  obtain⟨zs,h1,h2⟩:=vi k.2 fun x hx=>m x (QF _ hx);obtain⟨q,a,e1,sq,pa⟩:=m e QB;have:=yU k.1.2 pa;subst this;exact⟨.ref a::zs,.cons e1 h1,⟨a,rfl,sq⟩,h2⟩
 |[],_::_,k,_=>k.elim
 |_::_,[],k,_=>k.elim
theorem qR{H':Hp}(sm:si H H'):∀{zs:List V} {ps:List (Int×Int)},PrL K H zs ps->PrL K H' zs ps
 |[],[],_=>trivial
 |_::_,_::_,k=>by
  obtain⟨a,e,sq⟩:=k.1;refine⟨⟨a,e,?_⟩,qR sm k.2⟩;rcases sq with sq|sq
  ·rcases sq with sq|⟨o,sq⟩
   ·exact .inl (.inl (sm _ _ sq))
   ·exact .inl (.inr ⟨o,sm _ _ sq⟩)
  ·exact .inr sq
 |[],_::_,k=>k.elim
 |_::_,[],k=>k.elim
theorem yJ{vs vs':List Value}(P:vs'.Perm vs):∀{zs:List V} {ps:List (Int×Int)},aX zs vs->PrL K H zs ps->∃zs' ps',aX zs' vs'/\PrL K H zs' ps'/\ps'.Perm ps:=by
 induction P with
 |nil=>exact fun{zs ps} a b=>⟨zs,ps,a,b,.refl _⟩
 |cons x _ ih=>
  intro zs ps a b;cases a with
  |cons r a=>
   cases ps with
   |nil=>exact b.elim
   |cons p ps=>
    obtain⟨zs',ps',h1,h2,h3⟩:=ih a b.2;exact⟨_::zs',p::ps',.cons r h1,⟨b.1,h2⟩,h3.cons p⟩
 |swap x y l=>
  intro zs ps a b;cases a with
  |cons r1 a=>
   cases a with
   |cons r2 a=>
    match ps,b with
    |[],b=>exact b.elim
    |[p],b=>exact b.2.elim
    |p::q::ps,b=>exact⟨_::_::_,q::p::ps,.cons r2 (.cons r1 a),⟨b.2.1,b.1,b.2.2⟩,.swap _ _ _⟩
 |trans _ _ ih1 ih2=>
  intro zs ps a b;obtain⟨zs',ps',h1,h2,h3⟩:=ih2 a b;obtain⟨zs'',ps'',h4,h5,h6⟩:=ih1 h1 h2;exact⟨zs'',ps'',h4,h5,h6.trans h3⟩
def Kf(K:Q5)(w:World):List V->Hp->VK->Prop:=fun xs H Q=>∃(p:Addr) (ys:List V) (ps0:List (Int×Int)),xs=[.ref p]/\SqL K H p ys/\PrL K H ys ps0/\ps0.length<=1200/\
 ∀(l:Addr) (es:Array (Int×Value)) (ep:Nat) (t:SetTable) (zs:List V) (ps:List (Int×Int)),H l=none->aX zs (es.toList.map (·.2))->PrL K H zs ps->ps.Nodup->(∀y,y∈ps↔y∈ps0)->ps.length<=1200->Q (.ref l) (upd H l (E8 w l es ep t))
theorem IM{X:Cx}(hc:X.calm=true)(hu:X.A.units+64<cLine):bX X (.type "set") (Kf X.K X.w):=by
 rintro pins s σ H xs us Q I r ⟨p,ys,ps0,rfl,hL,hp,hn,q⟩;obtain⟨u,rfl,ru⟩:=eS r;cases ru;obtain⟨its,rv,pl,hz⟩:=I.list hL;have hlen:=jL hp;have hpa:=qS I hp rv;have li:its.length=ps0.length:=dj hpa;refine lX (show X.A.handled=none from I.ok.hd hc) hu pl.isList hpa (by omega) fun h' tk es ep t ps S oe sz mem old=>?_;obtain⟨zs,vz,pz⟩:=vi (K:=X.K) (H:=H) S.el fun e he=>by
  obtain⟨j,hj⟩:=oe e he;have hjl:=(Q7.mp hj).1;obtain⟨v,hv⟩:∃v,ys[j]?=some v:=⟨ys[j]'(by omega),Q4 _⟩;obtain⟨p',a,g1,e1,sq⟩:=CC hp hv;have rel:=hJ rv hv hj;subst e1;have e2:e.2=.ref a:=rel;refine⟨p',a,e2,sq,?_⟩;have pg:=hE hpa (i:=j) (by omega);rw[Q9,hj,Q9,g1]at pg;obtain⟨b,o,t1,t2,n,x1,x2,x3⟩:=pg;exact⟨b,o,t1,t2,n,x1,old b o x2,x3⟩
 obtain⟨o,go,so⟩:=S.so;have hf:=I.hok.fresh (QJ s.heap.objs.size);have lp:ps.length<=1200:=by have:=S.el.len;simp only[QY]at this;omega
 exact⟨.ref s.heap.objs.size,_,I.laid (o:=E8 X.w s.heap.objs.size es ep t) (t':=tk) old (QJ _) ⟨⟨o,go,so⟩,⟨o,go⟩,fun h1 h2 ⟨o,g,so⟩ m=>⟨o,m o g,so⟩⟩,rfl,q _ es ep t zs ps hf vz pz S.nd mem lp⟩
def yy(K:Q5)(w:World):List V->Hp->VK->Prop:=fun xs H Q=>∃(v:Addr) (es:Array (Int×Value)) (ep:Nat) (t:SetTable) (zs:List V) (ps:List (Int×Int)),xs=[.ref v]/\H v=some (E8 w v es ep t)/\aX zs (es.toList.map (·.2))/\PrL K H zs ps/\ps.Nodup/\ps.length<=1200/\
 ∀(l:Addr) (zs':List V) (ps':List (Int×Int)) (q:Array Nat),H l=none->PrL K H zs' ps'->ps'.Perm ps->D8 ps' q->Q (.ref l) (upd H l (.lst (q.toList.map fun i=>zs'.getD i .non)))
theorem vD{X:Cx}(hc:X.calm=true):bX X (.builtin "sorted") (yy X.K X.w):=by
 rintro pins s σ H xs us Q I r ⟨v,es,ep,t,zs,ps,rfl,hV,vz,pz,nd,hn,q⟩;obtain⟨u,rfl,ru⟩:=eS r;cases ru;obtain⟨⟨o,go,so⟩,_,_⟩:bF X.prog X.w H s.heap v (E8 X.w v es ep t):=I.hok v _ hV;have lz:=jL pz;have le:es.size=ps.length:=by have:=vz.length;simp at this;omega
 refine Calls.call_function_entry kind_sorted plain_sorted entry_sorted (args_sorted1 _) ?_;unfold Builtin.«sorted»;refine Q0 (m:=checkCount "sorted" 1 1 _) (Q6 (Q0 (kdu_collect (Cb (prog:=X.prog) (a:=v) so) (show X.A.in1.handled=none from I.ok.hd hc) go (by rw[le];unfold sizeLine;omega) fun h1 tk acc up hacc=>?_)));have ea:acc.toList=(y3 X.w v ep es).toList.map (·.2):=by
  refine Zw fun i=>?_;rw[QC,Qb,QC];have so1:(y3 X.w v ep es).size=es.size:=by have:=(ie (w:=X.w) (a:=v) (ep:=ep) (es:=es)).length_eq;simpa using this
  by_cases c:i<es.size
  ·have c1:i<acc.size:=by rw[hacc.1];exact c
   obtain⟨e,he,ev⟩:=hacc.2 i _ (QR c1);rw[he,QR c1,ev];rfl
  ·rw[X7 (by rw[hacc.1];omega),X7 (by omega)];rfl
 obtain⟨zs',ps',vz',pz',pp⟩:=yJ (K:=X.K) (H:=H) (vs':=acc.toList) (by rw[ea];exact(ie (w:=X.w) (a:=v) (ep:=ep) (es:=es)).map _) vz pz;have lp:ps'.length=ps.length:=pp.length_eq;have I1:Inv X pins σ H { s with heap:=h1,toks:=tk }:=I.kept (t':=tk) up;have hpairs:=qS I1 pz' vz';have la:acc.toList.length=ps'.length:=dj hpairs;refine Q0 (wpAny_newList ?_ (by rw[la,lp];unfold sizeLine;omega));have gL:(h1.push { cls:=.type "list",data:=.seq acc.toList.toArray }).get? h1.objs.size=some (seqObj "list" acc.toList.toArray 0):=QU _ rfl;have hv':∀v∈acc.toList,v≠.ref h1.objs.size:=fun v hv=>fH hpairs v hv _ (QJ _);refine Q0 (wpAny_holding (wpAny_call_entry slot_list_sort ⟨_,gL,rfl⟩ entry_list_sort (eL (s:={ s with heap:=h1.push { cls:=.type "list",data:=.seq acc.toList.toArray },toks:=tk }) gL (fG (a:=h1.objs.size) (fun b o _ g=>Q3 _ g) hpairs hv') hv' (pp.nodup_iff.mpr nd) (by rw[lp];unfold sizeLine;omega) fun qa a1=>⟨_,rfl,?_⟩) (args_list_sort _)));obtain⟨e,ge⟩:=sortedHeap_at (out:=(qa.toList.map fun i=>acc.toList.getD i Value.none).toArray) gL;have old:∀b o,h1.get? b=some o->(sortedHeap (h1.push { cls:=.type "list",data:=.seq acc.toList.toArray }) h1.objs.size acc.toList (qa.toList.map fun i=>acc.toList.getD i Value.none).toArray).get? b=some o:=fun b o g1=>by
  have lt1:=QV g1;rw[sortedHeap_old (Qj lt1) (by rw[Zu];exact XW lt1)];exact Q3 _ g1
 have hf:=I1.hok.fresh (QJ h1.objs.size);have hq:qa.toList.length=ps'.length:=by rw[QY,a1.1.sz]
 have lz':=jL pz';exact Q6 ⟨_,rfl,.ref h1.objs.size,_,I1.laid (o:=.lst (qa.toList.map fun i=>zs'.getD i .non)) (t':=tk) old (QJ _) ⟨by rw[QX,hq,lp];unfold sizeLine;omega,_,e,gM vz' qa.toList (by rw[lz'];exact dD a1.1),ge⟩,rfl,q _ zs' ps' qa hf pz' pp a1⟩
open Classical in
def dF(ce:CE):CE:=fun ρ S=>(ce ρ S).bind fun p=>match p.1 with
 |.ref l=>match p.2[l]? with
  |some (.lst us)=>(jN us).bind fun ps=>if ps.length<=1200 then some (.ref p.2.length,p.2++[.lst ((bt ps).map pP)])else none
  |_=>none
 |_=>none
theorem Ab{ps' ps ps0:List (Int×Int)}{q:Array Nat}(h:D8 ps' q)(p1:ps'.Perm ps)(m:∀y,y∈ps↔y∈ps0):bt ps0=q.toList.map fun i=>ps'.getD i (0,0):=by
 have e:=oW h;have:∃L:List (Int×Int),L.Pairwise (fun a b=>ltP a b=true)/\∀x,x∈L↔x∈ps':=by
  refine⟨q.toList.map fun i=>ps'.getD i (0,0),?_,fun x=>?_⟩
  ·refine Zy.mpr (Ql.mpr fun i j hi hj hij=>?_);have hq:=h.1.sz;have:=h.2 i j hij (by simp at hj;omega);simpa [XX,show i<q.size by simpa using hi,show j<q.size by simpa using hj] using this
  ·constructor
   ·intro hx;obtain⟨i,hi,rfl⟩:=Qc.mp hx;have hl:=dD h.1 i hi;rw[Q9,Q4 hl];exact ZR hl
   ·intro hx;obtain⟨i,hi,rfl⟩:=List.getElem_of_mem hx;have hp:q.toList.Perm (Qz ps'.length):=by
     refine(Xz ?_ Zh).mpr fun a=>⟨fun ha=>Qy.mpr (dD h.1 a ha),fun ha=>?_⟩
     ·refine Ql.mpr fun a b ha hb hab=>?_;have hq:=h.1.sz;have:=h.1.ne' (i:=a) (j:=b) (by simp at ha;omega) (by simp at hb;omega) (by omega);simpa [XX,show a<q.size by simpa using ha,show b<q.size by simpa using hb] using this
     ·have nd:q.toList.Nodup:=by
       refine Ql.mpr fun a b ha hb hab=>?_;have hq:=h.1.sz;have:=h.1.ne' (i:=a) (j:=b) (by simp at ha;omega) (by simp at hb;omega) (by omega);simpa [XX,show a<q.size by simpa using ha,show b<q.size by simpa using hb] using this
      refine Classical.byContradiction fun no=>?_;have:=List.Nodup.length_le_of_subset (Zb.mpr ⟨no,nd⟩) (l₂:=Qz ps'.length) fun b hb=>by
       rcases Qk.mp hb with rfl|hb
       ·exact ha
       ·exact Qy.mpr (dD h.1 b hb)
      rw[QH,Zm,QY,h.1.sz]at this;omega
    refine Qc.mpr ⟨i,hp.mem_iff.mpr (Qy.mpr hi),?_⟩;rw[Q9,Q4 hi];rfl
 obtain⟨L,l1,l2⟩:=this;have e1:=ju l1 l2;have e2:bt ps0=L:=ju l1 fun x=>(l2 x).trans ((p1.mem_iff).trans (m x));rw[e2,<-e1,e]
theorem jK{X:Cx}{o:Expr}{co:CE}{p1 p2 cpos pos:Pos}(hcm:X.calm=true)(hu:X.A.units+64<cLine)(hg:L2.Gl X "sorted")(hm:X.mg "sorted"=none)(hg2:L2.Gl X "set")(hm2:X.mg "set"=none)(ho:QE X o co)
  (he1:starEach [o] X.env=(false,eval o X.env)::starEach [] X.env:=by rfl) (hpl1:(backTo cpos (starEach [] X.env)).any (·.1)=false:=by rfl)
  (he:starEach [.Call (.Name "set" p2) [o] [] cpos] X.env=(false,eval (.Call (.Name "set" p2) [o] [] cpos) X.env)::starEach [] X.env:=by rfl) (hpl:(backTo pos (starEach [] X.env)).any (·.1)=false:=by rfl) :
  QE X (.Call (.Name "sorted" p1) [.Call (.Name "set" p2) [o] [] cpos] [] pos) (dF co):=
 (gK (vD hcm) hg hm OG.cH (cK (iM (IM hcm hu) hg2 hm2 rY (cK ho eQ he1) (by decide) (by decide) he1 hpl1) eQ he) (by decide) (by decide) he hpl).imp fun σ H Q hz=>iF hz fun m ρ S u S' sr lr hc post=>by
  obtain⟨⟨x,S1⟩,h1,h⟩:=Q2.mp hc;refine⟨m,ρ,S,x,S1,sr,lr,h1,fun m1 v1 H1 e1 sr1 i1=>?_⟩;cases x with
  |ref l=>
   simp only at h;split at h<;>try cases h
   rename_i us hS;obtain⟨ps,hn,h⟩:=Q2.mp h;split at h<;>try cases h
   have hcc:ps.length<=1200:=by assumption
   obtain⟨a,ha,rfl⟩:=i1.of_ref;obtain⟨a',ha',xs,hx,la⟩:=sr1.get hS;rw[ha]at ha';cases ha';rw[jM hn]at la;have pr:=vg la;refine⟨a,xs,ps,rfl,SqL.of hx,pr,hcc,fun lS es ep t zs qs hl vz pz nd mem hq=>?_⟩;have sm:si H1 (upd H1 lS (E8 X.w lS es ep t)):=fE hl _;refine⟨lS,es,ep,t,zs,qs,rfl,aH,vz,qR sm pz,nd,hq,fun l zs' ps' q hl2 pz' pp aq=>?_⟩;have il:=pI (m:=m1) pz' q.toList (dD aq.1);have e:(q.toList.map fun i=>pP (ps'.getD i (0,0)))=(bt ps).map pP:=by rw[Ab aq pp mem,Qe];rfl
   rw[e]at il;exact bA (sr1.same sm) il (post.mono (e1.trans (.of (cq sm)))) hl2
  |_=>cases h
abbrev Hn(I O p:Addr)(fl:Bool):Obj:={ cls:=.type "zip",dict:=none,data:=.fields #[rawInt (p:Nat),.bool fl,.bool false,.ref I,.ref O],slots:=#[] }
structure ZM(b d:Bool)(h:Heap)(z I O i j a c p:Addr)(fl:Bool)(n:Nat):Prop where
 hz:h.get? z=some (Hn I O p fl)
 hI:IsPair h I (.ref i) (.ref j)
 hO:∃p q,IsPair h O p q
 h1:SI b h i a n
 h2:SI d h j c n
 hp:∃o,h.get? p=some o
 pz:p≠z/\p≠i/\p≠j
variable{d:Bool}{z I O c:Addr}{xs ys:Array Value}
section
variable{b:Bool}{i j a p:Addr}{fl:Bool}{x y:Value}
theorem Ae{a:Addr}{Q:Option Obj->Shared->Prop}(h:Q (s.heap.get? a) s):wpAny (model prog w) A (loadIfAlive a) Q E s:=by
 have k:wpAny (model prog w) A (pure (s.heap.get? a)) Q E s:=Q6 h;unfold wpAny loadIfAlive at *;simp only[Sem.wp_loadIfAlive];exact k
theorem wB(hz:s.heap.get? z=some (Hn I O p fl))(hp:∃o,s.heap.get? p=some o){Q:Bool->Shared->Prop}(k:∀h',h'.get? z=some (Hn I O p true)->XI z s.heap h'->Q false { s with heap:=h' }):wpAny (model prog w) A (Builtin.SmallTypes.ownedTupleIsFree (.ref z)) Q E s:=by
 obtain⟨o,ho⟩:=hp;unfold Builtin.SmallTypes.ownedTupleIsFree;refine Q0 (ZD hz rfl (x:=rawInt (p:Nat)) rfl ?_);show wpAny _ _ (loadIfAlive ((p:Int).toNat) >>= _) _ _ _;rw[Zx];refine Q0 (Ae ?_);rw[ho];simp only[Option.isNone_some,Qr,if_false];refine Q0 (ZD hz rfl (x:=.bool fl) rfl ?_);cases fl with
 |false=>
  rw[if_pos (by decide)];exact Q0 (wpAny_setField_rec hz (by simp) fun h' z1 s1=>Q6 (k h' z1 s1))
 |true=>
  rw[if_neg (by decide)];have e:s={ s with heap:=s.heap }:=by cases s;rfl
  rw[e];exact Q6 (k s.heap hz (Heap.SameBut.refl _ _))
theorem xQ(D:ZA z I O i j a c)(st:ZM b d s.heap z I O i j a c p fl n)(ha:SA b s.heap a xs)(hc:SA d s.heap c ys)(hx:xs[n]?=some x)(hy:ys[n]?=some y){Q:Value->Shared->Prop}
  (k:∀h',ZM b d h' z I O i j a c p true (n+1)->IsPair h' s.heap.objs.size x y->
   (∀e o,e≠z->e≠i->e≠j->s.heap.get? e=some o->h'.get? e=some o)->Q (.ref s.heap.objs.size) { s with heap:=h' }) :
  wpAny (model prog w) A (Builtin.«zip.__next__» ⟨[.ref z],[]⟩) (fun fin s'=>∃v,fin=.done (.ret v)/\Q v s') E s:=by
 obtain⟨hz,hI,hO,h1,h2,hp,pz,pi,pj⟩:=st;show wpAny _ _ (field (.ref z) 2 >>= _) _ _ _;refine Q0 (ZD hz rfl (x:=.bool false) rfl ?_);show wpAny _ _ (field (.ref z) 3 >>= _) _ _ _;refine Q0 (ZD hz rfl (x:=.ref I) rfl ?_);refine Q0 (wpAny_seqItems hI rfl ?_);show wpAny _ _ (Builtin.SmallTypes.ownedTupleIsFree (.ref z) >>= _) _ _ _;refine Q0 (wB hz hp fun g1 z1 s1=>?_);simp only[Qr,if_false];refine Q0 ?_;rw[<-Array.forIn_toList];simp only[List.forIn_cons,List.forIn_nil];refine Q0 (Q0 (wpAny_holding ?_));show wpAny _ _ (Builtin.SmallTypes.nextOf (.ref i) >>= _) _ _ _;refine Q0 (iN (b:=b) (h1.at_ fun o e=>s1.extBut _ _ D.iz e) (ha.at_ fun o e=>s1.extBut _ _ D.az e) hx fun g2 i2 s2=>Q6 (Q6 ?_));have up2:∀e o,e≠z->e≠i->s.heap.get? e=some o->g2.get? e=some o:=fun e o u1 u2 q=>s2.extBut _ _ u2 (s1.extBut _ _ u1 q);refine Q0 (Q0 (wpAny_holding ?_));show wpAny _ _ (Builtin.SmallTypes.nextOf (.ref j) >>= _) _ _ _;refine Q0 (iN (b:=d) (h2.at_ fun o e=>up2 _ _ D.jz D.ij.symm e) (hc.at_ fun o e=>up2 _ _ D.cz D.ci e) hy fun g3 j3 s3=>Q6 (Q6 (Q6 ?_)));have up3:∀e o,e≠z->e≠i->e≠j->s.heap.get? e=some o->g3.get? e=some o:=fun e o u1 u2 u3 q=>s3.extBut _ _ u3 (up2 e o u1 u2 q);have sz:g3.objs.size=s.heap.objs.size:=by rw[s3.1,s2.1,s1.1]
 dsimp only;refine Q0 (wpAny_newTuple (Q6 ⟨_,rfl,?_⟩) (show 2<=sizeLine by decide));have T:IsPair (g3.push { cls:=.type "tuple",data:=.seq #[x,y] }) g3.objs.size x y:=QU _ rfl;rw[sz]at T;show Q (.ref g3.objs.size) _;rw[sz];obtain⟨o,ho⟩:=hp;refine k _ ⟨Q3 _ (s3.extBut _ _ D.jz.symm (s2.extBut _ _ D.iz.symm z1)),Q3 _ (up3 _ _ D.Iz D.Ii D.Ij hI),let ⟨u,v,q⟩:=hO;⟨u,v,Q3 _ (up3 _ _ D.Oz D.Oi D.Oj q)⟩,i2.at_ fun o e=>Q3 _ (s3.extBut _ _ D.ij e),j3.at_ fun o e=>Q3 _ e,⟨o,Q3 _ (up3 _ _ pz pi pj ho)⟩,pz,pi,pj⟩ T fun e o u1 u2 u3 q=>Q3 _ (up3 e o u1 u2 u3 q)
theorem xO(hh:A.handled=none)(D:ZA z I O i j a c)(st:ZM b d s.heap z I O i j a c p fl n)(ha:SA b s.heap a xs)(hc:SA d s.heap c ys)(hn:xs[n]?=none\/ys[n]?=none){Q:PySem.Fin->Shared->Prop}
  (k:∀h' e,(∀c o,c≠z->c≠i->c≠j->s.heap.get? c=some o->h'.get? c=some o)->(∃o,h'.get? e=some o/\o.cls=.type "StopIteration")->E (.ref e) { s with heap:=h' }) :
  wpAny (model prog w) A (Builtin.«zip.__next__» ⟨[.ref z],[]⟩) Q E s:=by
 obtain⟨hz,hI,hO,h1,h2,hp,pz,pi,pj⟩:=st;show wpAny _ _ (field (.ref z) 2 >>= _) _ _ _;refine Q0 (ZD hz rfl (x:=.bool false) rfl ?_);show wpAny _ _ (field (.ref z) 3 >>= _) _ _ _;refine Q0 (ZD hz rfl (x:=.ref I) rfl ?_);refine Q0 (wpAny_seqItems hI rfl ?_);show wpAny _ _ (Builtin.SmallTypes.ownedTupleIsFree (.ref z) >>= _) _ _ _;refine Q0 (wB hz hp fun g1 z1 s1=>?_);simp only[Qr,if_false];refine Q0 ?_;rw[<-Array.forIn_toList];simp only[List.forIn_cons,List.forIn_nil];refine Q0 (Q0 (wpAny_holding ?_));show wpAny _ _ (Builtin.SmallTypes.nextOf (.ref i) >>= _) _ _ _;cases hx:xs[n]? with
 |none=>
  refine Q0 (d7 (b:=b) hh (h1.at_ fun o e=>s1.extBut _ _ D.iz e) (ha.at_ fun o e=>s1.extBut _ _ D.az e) hx fun g2 e s2 he=>?_);exact k g2 e (fun c o u1 u2 _ q=>s2 _ _ u2 (s1.extBut _ _ u1 q)) he
 |some x=>
  have hy:ys[n]?=none:=by rcases hn with v|v;rw[hx]at v;cases v;exact v
  refine Q0 (iN (b:=b) (h1.at_ fun o e=>s1.extBut _ _ D.iz e) (ha.at_ fun o e=>s1.extBut _ _ D.az e) hx fun g2 i2 s2=>Q6 (Q6 ?_));have up2:∀e o,e≠z->e≠i->s.heap.get? e=some o->g2.get? e=some o:=fun e o u1 u2 q=>s2.extBut _ _ u2 (s1.extBut _ _ u1 q);refine Q0 (Q0 (wpAny_holding ?_));show wpAny _ _ (Builtin.SmallTypes.nextOf (.ref j) >>= _) _ _ _;refine Q0 (d7 (b:=d) hh (h2.at_ fun o e=>up2 _ _ D.jz D.ij.symm e) (hc.at_ fun o e=>up2 _ _ D.cz D.ci e) hy fun g3 e s3 he=>?_);exact k g3 e (fun c o u1 u2 u3 q=>s3 _ _ u3 (up2 c o u1 u2 q)) he
def ZW(b d:Bool)(h:Heap)(z I O i j a c:Addr)(n:Nat):Prop:=(n=0/\ZSt b d h z I O i j a c .none 0)\/∃p fl,ZM b d h z I O i j a c p fl n
theorem ZW.ty{s:Shared}(st:ZW b d s.heap z I O i j a c n):s.TypeIs (.ref z) "zip":=by
 rcases st with⟨_,st⟩|⟨p,fl,st⟩
 ·exact⟨_,st.hz,rfl⟩
 ·exact⟨_,st.hz,rfl⟩
theorem Bh(D:ZA z I O i j a c)(hlt:z<s.heap.objs.size/\i<s.heap.objs.size/\j<s.heap.objs.size)(st:ZW b d s.heap z I O i j a c n)(ha:SA b s.heap a xs)(hc:SA d s.heap c ys)(hx:xs[n]?=some x)(hy:ys[n]?=some y){Q:Option Value->Shared->Prop}
  (k:∀h',ZW b d h' z I O i j a c (n+1)->IsPair h' s.heap.objs.size x y->
   (∀e o,e≠z->e≠O->e≠i->e≠j->s.heap.get? e=some o->h'.get? e=some o)->Q (some (.ref s.heap.objs.size)) { s with heap:=h' }):wpAny (model prog w) A (pyNext (.ref z)) Q E s:=by
 have ty:=st.ty;rcases st with⟨rfl,st⟩|⟨p,fl,st⟩
 ·refine xP D st ha hc hx hy fun h' st' T up=>k h' (.inr ⟨s.heap.objs.size,false,st'.hz,st'.hI,st'.hO,st'.h1,st'.h2,⟨_,T⟩,X0 hlt.1,X0 hlt.2.1,X0 hlt.2.2⟩) T up
 ·unfold pyNext;exact Q0 (wpAny_attempt (wpAny_callSpecial?_slot (name:=Str.ofString "__next__") ty PySem.F.slot_zip_next (wpAny_call_entry PySem.F.slot_zip_next ty PySem.F.entry_zip_next
   (xQ D st ha hc hx hy fun h' a1 a2 a3=>Q6 (k h' (.inr ⟨p,true,a1⟩) a2 fun e o u1 _ u3 u4 q=>a3 e o u1 u3 u4 q)) (PySem.F.args_zip_next_1 _))))
theorem D9(hh:A.handled=none)(D:ZA z I O i j a c)(st:ZW b d s.heap z I O i j a c n)(ha:SA b s.heap a xs)(hc:SA d s.heap c ys)(hn:xs[n]?=none\/ys[n]?=none){Q:Option Value->Shared->Prop}
  (k:∀h',(∀c o,c≠z->c≠O->c≠i->c≠j->s.heap.get? c=some o->h'.get? c=some o)->Q none { s with heap:=h' }):wpAny (model prog w) A (pyNext (.ref z)) Q E s:=by
 have ty:=st.ty;rcases st with⟨rfl,st⟩|⟨p,fl,st⟩
 ·exact Bk hh D st ha hc hn k
 ·unfold pyNext;refine Q0 (wpAny_attempt (wpAny_callSpecial?_slot (name:=Str.ofString "__next__") ty PySem.F.slot_zip_next (wpAny_call_entry PySem.F.slot_zip_next ty PySem.F.entry_zip_next
   (xO (show A.in1.handled=none from hh) D st ha hc hn fun h' e up he=>?_) (PySem.F.args_zip_next_1 _))))
  obtain⟨o,ge,ce⟩:=he;exact Q0 (wpAny_isInstance (T:="StopIteration") (b:=true) ⟨o,ge,ce⟩ isSubtype_stop (Q6 (k h' fun c o u1 _ u3 u4 q=>up c o u1 u3 u4 q)))
end
abbrev lsO(acc:Array Value)(c:Nat):Obj:={ cls:=.type "list",dict:=none,data:=.seq acc c,slots:=#[] }
structure Zd(h0 h:Heap)(xs ys:Array Value)(as:List Addr):Prop where
 pr:∀(k:Nat) (p:Addr),as[k]?=some p->∃x y,IsPair h p x y/\xs[k]?=some x/\ys[k]?=some y
 up:as.Pairwise (· < ·)
 lt:∀p∈as,h0.objs.size<=p
variable{S:Addr}
section
variable{b:Bool}{i j a:Addr}
theorem Zd.snoc{h0 h h':Heap}{as:List Addr}{x y:Value}(Z:Zd h0 h xs ys as)(keep:∀p∈as,∀o,h.get? p=some o->h'.get? p=some o)(le:h0.objs.size<=h.objs.size)(T:IsPair h' h.objs.size x y)(hx:xs[as.length]?=some x)(hy:ys[as.length]?=some y):Zd h0 h' xs ys (as++[h.objs.size]):=by
 refine⟨fun k p g=>?_,?_,fun p hp=>?_⟩
 ·rcases X1 k as.length with l|l
  ·rw[QD l]at g;obtain⟨u,v,t,e⟩:=Z.pr k p g;exact⟨u,v,keep p (ZT g) _ t,e⟩
  ·rw[QK l]at g;have:k-as.length=0:=by
    rcases Nat.eq_zero_or_pos (k-as.length)with z|z
    ·exact z
    ·rw[ZU (by simp;omega)]at g;cases g
   rw[this]at g;cases g;obtain rfl:k=as.length:=by omega
   exact⟨x,y,T,hx,hy⟩
 ·refine Qh.mpr ⟨Z.up,X5 _ _,fun p hp q hq=>?_⟩;rw[Qg.mp hq];obtain⟨k,g⟩:=Ze hp;obtain⟨_,_,t,_⟩:=Z.pr k p g;exact QV t
 ·rcases QN.mp hp with l|l
  ·exact Z.lt p l
  ·rw[Qg.mp l];exact le
theorem ZW.keep{h h':Heap}(st:ZW b d h z I O i j a c n)(m:∀e o,e≠S->h.get? e=some o->h'.get? e=some o)(ex:∃o,h'.get? S=some o)(ns:∀e∈[z,I,O,i,j],e≠S):ZW b d h' z I O i j a c n:=by
 have k:∀e∈[z,I,O,i,j],∀o,h.get? e=some o->h'.get? e=some o:=fun e he o=>m e o (ns e he);rcases st with⟨e,st⟩|⟨p,fl,st⟩
 ·exact .inl ⟨e,st.at_ k⟩
 ·refine .inr ⟨p,fl,k z (by simp) _ st.hz,k I (by simp) _ st.hI,let ⟨u,v,q⟩:=st.hO;⟨u,v,k O (by simp) _ q⟩,st.h1.at_ fun o e=>k i (by simp) o e,st.h2.at_ fun o e=>k j (by simp) o e,?_,st.pz⟩;obtain⟨o,ho⟩:=st.hp;by_cases c:p=S
  ·rw[c];exact ex
  ·exact⟨o,m p o c ho⟩
theorem Bi{R:Result->Shared->Prop}{h0:Heap}(hh:A.handled=none)(D:ZA z I O i j a c)(res:Value)(ge:∀e∈[z,I,O,i,j,S],h0.objs.size<=e)(nS:∀e∈[z,I,O,i,j,a,c],e≠S)(hz:xs.size<=9000) :
  ∀(k n:Nat) (s:Shared) (as:List Addr) (cc:Nat),min xs.size ys.size-n=k->n<=min xs.size ys.size->as.length=n->ZW b d s.heap z I O i j a c n->SA b s.heap a xs->SA d s.heap c ys->s.heap.get? S=some (lsO (as.map Value.ref).toArray cc)->Zd h0 s.heap xs ys as->(∀p∈as,p∉[z,O,i,j,S])->(∀e∈[z,I,O,i,j],e<s.heap.objs.size)->(∀e o,h0.get? e=some o->s.heap.get? e=some o)->
  (∀h' as' cc',as'.length=min xs.size ys.size->h'.get? S=some (lsO (as'.map Value.ref).toArray cc')->Zd h0 h' xs ys as'->S∉as'->(∀e o,h0.get? e=some o->h'.get? e=some o)->R (.ok (.ret res)) { s with heap:=h' })->
  codeAny (model prog w) A (.builtin "list.extend.loop" ⟨[.ref S,.ref z,res],[]⟩) R s:=by
 intro k;induction k with
 |zero=>
  intro n s as cc hk hn la st ha hc hS Z na lt old hR;have hm:n=min xs.size ys.size:=by omega
  refine codeAny_builtin PySem.F.entry_extend_loop ?_;rw[Around.under_plainId PySem.F.plain_extend_loop _];change wpAny _ A.in1 (pyNext (.ref z) >>= _) _ _ s;have hend:xs[n]?=none\/ys[n]?=none:=by
   rcases Nat.le_total xs.size ys.size with l|l
   ·exact .inl (X7 (by rw[Nat.min_eq_left l]at hm;omega))
   ·exact .inr (X7 (by rw[Nat.min_eq_right l]at hm;omega))
  refine Q0 (D9 (show A.in1.handled=none from hh) D st ha hc hend fun h' up=>Q6 ?_);have up':∀e o,e∉[z,O,i,j]->s.heap.get? e=some o->h'.get? e=some o:=fun e o ne g=>by
   simp only[Qk,X9,or_false,not_or]at ne;exact up e o ne.1 ne.2.1 ne.2.2.1 ne.2.2.2 g
  refine hR h' as cc (by rw[la,hm]) (up' S _ (fun z'=>nS S (by simp at z' ⊢;rcases z' with r|r|r|r<;>simp[r]) rfl) hS) ⟨fun q p g=>?_,Z.up,Z.lt⟩ (fun z'=>na S z' (by simp)) fun e o g=>up' e o (fun z'=>?_) (old e o g)
  ·obtain⟨x,y,t,r⟩:=Z.pr q p g;exact⟨x,y,up' p _ (fun z'=>na p (ZT g) (by simp at z' ⊢;rcases z' with r|r|r|r<;>simp[r])) t,r⟩
  ·have:=ge e (by simp at z' ⊢;rcases z' with r|r|r|r<;>simp[r]);exact absurd (QV g) (XG.mpr this)
 |succ k ih=>
  intro n s as cc hk hn la st ha hc hS Z na lt old hR;have l1:n<xs.size:=by omega
  have l2:n<ys.size:=by omega
  refine codeAny_builtin PySem.F.entry_extend_loop ?_;rw[Around.under_plainId PySem.F.plain_extend_loop _];change wpAny _ A.in1 (pyNext (.ref z) >>= _) _ _ s;refine Q0 (Bh D ⟨lt z (by simp),lt i (by simp),lt j (by simp)⟩ st ha hc (QR l1) (QR l2) fun h' st' T up=>?_);have up':∀e o,e∉[z,O,i,j]->s.heap.get? e=some o->h'.get? e=some o:=fun e o ne g=>by
   simp only[Qk,X9,or_false,not_or]at ne;exact up e o ne.1 ne.2.1 ne.2.2.1 ne.2.2.2 g
  have m4:∀{e:Addr},e∈[z,O,i,j]->e∈[z,O,i,j,S]:=fun{e} z'=>by simp at z' ⊢;rcases z' with r|r|r|r<;>simp[r]
  have m5:∀{e:Addr},e∈[z,O,i,j]->e∈[z,I,O,i,j]:=fun{e} z'=>by simp at z' ⊢;rcases z' with r|r|r|r<;>simp[r]
  have m6:∀{e:Addr},e∈[z,I,O,i,j]->e∈[z,I,O,i,j,S]:=fun{e} z'=>by simp at z' ⊢;rcases z' with r|r|r|r|r<;>simp[r]
  have m7:∀{e:Addr},e∈[z,I,O,i,j]->e∈[z,I,O,i,j,a,c]:=fun{e} z'=>by simp at z' ⊢;rcases z' with r|r|r|r|r<;>simp[r]
  have le0:h0.objs.size<=s.heap.objs.size:=Zf (Nat.lt_of_le_of_lt (ge z (by simp)) (lt z (by simp)));have hS':h'.get? S=some (lsO (as.map Value.ref).toArray cc):=up' S _ (fun z'=>nS S (m7 (m5 z')) rfl) hS;have nTS:s.heap.objs.size≠S:=X0 (QV hS);have Z1:=Z.snoc (fun p hp o g=>up' p o (fun z'=>na p hp (m4 z')) g) le0 T (by rw[la];exact QR l1) (by rw[la];exact QR l2);change wpAny _ A.in1 (updateSeq S (·.push (Value.ref s.heap.objs.size)) >>= _) _ _ _;refine Q0 (wpAny_updateSeq hS' rfl ?_ (by simp;unfold sizeLine;omega) (by simp;unfold sizeLine;omega));have oth:∀e o,e≠S->h'.get? e=some o->(h'.update S (Obj.mapSeq (·.push (Value.ref s.heap.objs.size)))).get? e=some o:=fun e o ne g=>(Zp _ _ (Ne.symm ne)).trans g;obtain⟨cc',gS3⟩:∃cc',(h'.update S (Obj.mapSeq (·.push (Value.ref s.heap.objs.size)))).get? S=some (lsO ((as++[s.heap.objs.size]).map Value.ref).toArray cc'):=by
   have e:((as++[s.heap.objs.size]).map Value.ref).toArray=(as.map Value.ref).toArray.push (Value.ref s.heap.objs.size):=by rw[Qt,List.map_singleton,<-List.push_toArray]
   rw[e];exact⟨_,get?_update_seq hS' (·.push (Value.ref s.heap.objs.size))⟩
  have keepS:∀p∈as++[s.heap.objs.size],p≠S:=fun p hp=>by
   rcases QN.mp hp with l|l
   ·exact fun e=>na p l (by simp[e])
   ·rw[Qg.mp l];exact nTS
  refine Q6 ⟨plainId_quiet PySem.F.plain_extend_loop _,ih (n+1) _ (as++[s.heap.objs.size]) cc' (by omega) (by omega) (by rw[QZ,la];rfl) (st'.keep (S:=S) oth ⟨_,gS3⟩ fun e he=>nS e (m7 he)) (ha.at_ fun o g=>oth a o (nS a (by simp)) (up a o D.az D.aO D.ai D.aj g)) (hc.at_ fun o g=>oth c o (nS c (by simp)) (up c o D.cz D.cO D.ci D.cj g)) gS3 ⟨fun q p g=>?_,Z1.up,Z1.lt⟩ (fun p hp=>?_) (fun e he=>?_) (fun e o g=>oth e o ?_ (up' e o (fun z'=>absurd (QV g) (XG.mpr (ge e (m6 (m5 z'))))) (old e o g))) hR⟩
  ·obtain⟨x,y,t,r⟩:=Z1.pr q p g;exact⟨x,y,oth p _ (keepS p (ZT g)) t,r⟩
  ·rcases QN.mp hp with l|l
   ·exact na p l
   ·rw[Qg.mp l];intro z';have:s.heap.objs.size∈[z,I,O,i,j]\/s.heap.objs.size=S:=by simp at z' ⊢;rcases z' with r|r|r|r|r<;>simp[r]
    rcases this with r|r
    ·exact Nat.lt_irrefl _ (lt _ r)
    ·exact nTS r
  ·rw[XA];have T':s.heap.objs.size<h'.objs.size:=QV T;exact Nat.lt_trans (lt e he) T'
  ·exact fun z'=>absurd (QV g) (XG.mpr (ge e (by simp[z'])))
end
theorem tX:typeLookup (.type "zip") "__len__"=pure none:=by rw[typeLookup_type,builtinLookup_eq_fast];kernel_rfl
theorem sv:typeLookup (.type "zip") "__length_hint__"=pure none:=by rw[typeLookup_type,builtinLookup_eq_fast];kernel_rfl
section
variable{b:Bool}{i j a:Addr}
theorem Dy{R:Result->Shared->Prop}{h0:Heap}(hh:A.handled=none)(D:ZA z I O i j a c)(res:Value)(ge:∀e∈[z,I,O,i,j,S],h0.objs.size<=e)(nS:∀e∈[z,I,O,i,j,a,c],e≠S)(hz:xs.size<=9000){cc:Nat}
  (st:ZSt b d s.heap z I O i j a c .none 0) (ha:SA b s.heap a xs) (hc:SA d s.heap c ys) (hS:s.heap.get? S=some (lsO #[] cc)) (lt:∀e∈[z,I,O,i,j],e<s.heap.objs.size) (old:∀e o,h0.get? e=some o->s.heap.get? e=some o)
  (hR:∀h' as' cc',as'.length=min xs.size ys.size->h'.get? S=some (lsO (as'.map Value.ref).toArray cc')->Zd h0 h' xs ys as'->S∉as'->(∀e o,h0.get? e=some o->h'.get? e=some o)->R (.ok (.ret res)) { s with heap:=h' }) :
  wpAny (model prog w) A.in1 (Builtin.List.listExtendWith (.ref S) (.ref z) res)
   (fun fin s'=>match fin with|.done f=>R (.ok f) s'|.again c'=>c'.quiet=true/\codeAny (model prog w) A c' R s') (fun e s'=>R (.error e) s') s:=by
 have T:s.TypeIs (.ref z) "zip":=⟨_,st.hz,rfl⟩;unfold Builtin.List.listExtendWith;refine Q0 (wpAny_typeOf T ?_);have x1:Builtin.List.listSameRef (.ref S) (.ref z)=false:=by simp[Builtin.List.listSameRef];exact fun e=>nS z (by simp) e.symm
 have x2:(Value.type "zip" == Value.type "list")=false:=by decide
 have x3:(Value.type "zip" == Value.type "tuple")=false:=by decide
 simp only[x1,x2,x3,Bool.or_false,Qr,if_false];refine Q0 (wpAny_pyIter_zip st.hz ?_);refine Q0 (wpAny_holding ?_);unfold Builtin.List.listLengthHint;refine Q0 (wpAny_specialOf T tX ?_);change wpAny _ A.in1 (specialOf (Value.ref z) (Str.ofString "__length_hint__") >>= _) _ _ _;refine Q0 (wpAny_specialOf T sv (Q6 ?_));rw[Bool.true_or,if_pos rfl];refine Q0 (XC (Q0 ?_));change wpAny _ A.in1 (updateSeq S (·.push Value.none) >>= fun _=>updateSeq S (·.pop)) _ _ _;refine Q0 (wpAny_updateSeq hS rfl ?_);have g1:=get?_update_seq hS (·.push Value.none);refine wpAny_updateSeq (hz:=by seq_fits) g1 rfl ?_;have g2:=get?_update_seq g1 (·.pop);have oth:∀e o,e≠S->s.heap.get? e=some o->((s.heap.update S (Obj.mapSeq (·.push Value.none))).update S (Obj.mapSeq (·.pop))).get? e=some o:=fun e o ne g=>(Zp _ _ (Ne.symm ne)).trans ((Zp _ _ (Ne.symm ne)).trans g);have m7:∀{e:Addr},e∈[z,I,O,i,j]->e∈[z,I,O,i,j,a,c]:=fun{e} z'=>by simp at z' ⊢;rcases z' with r|r|r|r|r<;>simp[r]
 refine Q6 ⟨plainId_quiet PySem.F.plain_extend_loop _,Bi hh D res ge nS hz (min xs.size ys.size-0) 0 _ [] _ (by omega) (Qi _) rfl (.inl ⟨rfl,st.at_ fun e he o g=>oth e o (nS e (m7 he)) g⟩) (ha.at_ fun o g=>oth a o (nS a (by simp)) g) (hc.at_ fun o g=>oth c o (nS c (by simp)) g) g2 ⟨fun k p g=>by simp at g,.nil,fun p hp=>by cases hp⟩ (fun p hp=>by cases hp) (fun e he=>?_) (fun e o g=>oth e o (fun z'=>absurd (QV g) (XG.mpr (ge e (by simp[z'])))) (old e o g)) hR⟩;rw[XA,XA];exact lt e he
theorem zx{R:Result->Shared->Prop}{h0:Heap}(hh:A.handled=none)(D:ZA z I O i j a c)(ge:∀e∈[z,I,O,i,j,S],h0.objs.size<=e)(nS:∀e∈[z,I,O,i,j,a,c],e≠S)(hz:xs.size<=9000)
  (st:ZSt b d s.heap z I O i j a c .none 0) (ha:SA b s.heap a xs) (hc:SA d s.heap c ys) (hS:s.heap.get? S=some (lsO #[] 0)) (lt:∀e∈[z,I,O,i,j],e<s.heap.objs.size) (old:∀e o,h0.get? e=some o->s.heap.get? e=some o)
  (hR:∀h' as' cc',as'.length=min xs.size ys.size->h'.get? S=some (lsO (as'.map Value.ref).toArray cc')->Zd h0 h' xs ys as'->S∉as'->(∀e o,h0.get? e=some o->h'.get? e=some o)->R (.ok (.ret .none)) { s with heap:=h' }) :
  wpAny (model prog w) A.in1 (Builtin.«list.__init__» ⟨[.ref S,.ref z],[]⟩)
   (fun fin s'=>match fin with|.done f=>R (.ok f) s'|.again c'=>c'.quiet=true/\codeAny (model prog w) A c' R s') (fun e s'=>R (.error e) s') s:=by
 change wpAny _ A.in1 (Builtin.List.listItems (.ref S) >>= fun old=>Builtin.List.listUpdate (.ref S) (fun _=>#[]) >>= fun _=>letGo old.toList.reverse >>= fun _=>Builtin.List.listExtendWith (.ref S) (.ref z) .none) _ _ s;refine Q0 ?_;unfold Builtin.List.listItems;refine Q0 (wpAny_seqItems hS rfl (Q6 ?_));change wpAny _ A.in1 (updateSeq S (fun _=>#[]) >>= _) _ _ s;refine Q0 (wpAny_updateSeq hS rfl (Q0 (wpAny_letGo ?_)));have g1:=get?_update_seq hS (fun _=>(#[]:Array Value));have oth:∀e o,e≠S->s.heap.get? e=some o->(s.heap.update S (Obj.mapSeq (fun _=>(#[]:Array Value)))).get? e=some o:=fun e o ne g=>(Zp _ _ (Ne.symm ne)).trans g;have m7:∀{e:Addr},e∈[z,I,O,i,j]->e∈[z,I,O,i,j,a,c]:=fun{e} z'=>by simp at z' ⊢;rcases z' with r|r|r|r|r<;>simp[r]
 refine Dy hh D .none ge nS hz (st.at_ fun e he o g=>oth e o (nS e (m7 he)) g) (ha.at_ fun o g=>oth a o (nS a (by simp)) g) (hc.at_ fun o g=>oth c o (nS c (by simp)) g) g1 (fun e he=>?_) (fun e o g=>oth e o (fun z'=>absurd (QV g) (XG.mpr (ge e (by simp[z'])))) (old e o g)) hR;rw[XA];exact lt e he
theorem zj{Q:Value->Shared->Prop}{h0:Heap}(hh:A.handled=none)(D:ZA z I O i j a c)(ge:∀e∈[z,I,O,i,j],h0.objs.size<=e)(hz:xs.size<=9000)
  (st:ZSt b d s.heap z I O i j a c .none 0) (ha:SA b s.heap a xs) (hc:SA d s.heap c ys) (old:∀e o,h0.get? e=some o->s.heap.get? e=some o)
  (q:∀h' as cc,as.length=min xs.size ys.size->h'.get? s.heap.objs.size=some (lsO (as.map Value.ref).toArray cc)->Zd h0 h' xs ys as->s.heap.objs.size∉as->(∀e o,h0.get? e=some o->h'.get? e=some o)->Q (.ref s.heap.objs.size) { s with heap:=h' }) :
  wpAny (model prog w) A (call (.type "list") [.ref z]) Q E s:=by
 have lt:∀e∈[z,I,O,i,j],e<s.heap.objs.size:=fun e he=>by
  obtain⟨hz,hI,⟨p,q,hO⟩,h1',h2'⟩:=st;simp only[Qk,X9,or_false]at he;rcases he with rfl|rfl|rfl|rfl|rfl
  ·exact QV hz
  ·exact QV hI
  ·exact QV hO
  ·obtain⟨o,e,_⟩:=h1'.obj;exact QV e
  ·obtain⟨o,e,_⟩:=h2'.obj;exact QV e
 refine callType_codes (Q₁:=fun v s1=>v=.ref s.heap.objs.size/\s1={ s with heap:=s.heap.push (lsO #[] 0) }) PySem.F.called_list (PySem.F.typeCall_list_1 _) PySem.F.entry_list_init (code_list_new _ ⟨rfl,rfl⟩) fun v s1 hv=>?_;obtain⟨rfl,rfl⟩:=hv;have gS:(s.heap.push (lsO #[] 0)).get? s.heap.objs.size=some (lsO #[] 0):=QU _ rfl;have zle:h0.objs.size<=s.heap.objs.size:=Zf (Nat.lt_of_le_of_lt (ge z (by simp)) (lt z (by simp)));refine⟨⟨_,gS,rfl⟩,PySem.F.args_list_init_2 _ _,zx (s:={ s with heap:=s.heap.push (lsO #[] 0) }) hh D (fun e he=>?_) (fun e he=>?_) hz (st.at_ fun e he o g=>Q3 _ g) (ha.at_ fun o g=>Q3 _ g) (hc.at_ fun o g=>Q3 _ g) gS (fun e he=>?_) (fun e o g=>Q3 _ (old e o g)) fun h' as cc la gl Z ns od=>⟨rfl,q h' as cc la gl Z ns od⟩⟩
 ·have:e∈[z,I,O,i,j]\/e=s.heap.objs.size:=by simp at he ⊢;rcases he with r|r|r|r|r|r<;>simp[r]
  rcases this with r|r
  ·exact ge e r
  ·rw[r];exact zle
 ·have:e∈[z,I,O,i,j]\/e=a\/e=c:=by simp at he ⊢;rcases he with r|r|r|r|r|r|r<;>simp[r]
  rcases this with r|r|r
  ·exact Qj (lt e r)
  ·rw[r];exact Qj ha.lt
  ·rw[r];exact Qj hc.lt
 ·rw[Zu];exact XW (lt e he)
end
noncomputable def zl(H:Hp)(zs:List (Addr×(V×V))):Hp:=fun b=>match zs.find? (fun z=>decide (z.1=b))with
 |some z=>some (.tup [z.2.1,z.2.2])
 |none=>H b
theorem De{H:Hp}{zs:List (Addr×(V×V))}{z:Addr×(V×V)}(nd:(zs.map (·.1)).Nodup)(h:z∈zs):zl H zs z.1=some (.tup [z.2.1,z.2.2]):=by
 unfold zl;have hf:zs.find? (fun y=>decide (y.1=z.1))=some z:=by
  induction zs with
  |nil=>cases h
  |cons y r ih=>
   rw[Qx,Zb]at nd;rw[Zl];rcases Qk.mp h with e|hm
   ·subst e;simp
   ·have:y.1≠z.1:=fun e=>nd.1 (Qc.mpr ⟨z,hm,e.symm⟩);rw[decide_eq_false this];exact ih nd.2 hm
 rw[hf]
theorem vW{H:Hp}{zs:List (Addr×(V×V))}{b:Addr}{u:HO}(h:zl H zs b=some u):(∃z∈zs,z.1=b/\u=.tup [z.2.1,z.2.2])\/((∀z∈zs,z.1≠b)/\H b=some u):=by
 unfold zl at h;split at h
 ·rename_i z hz;have h1:=List.mem_of_find?_eq_some hz;have h2:=List.find?_some hz;injection h with h;exact .inl ⟨z,h1,of_decide_eq_true h2,h.symm⟩
 ·rename_i hz;exact .inr ⟨fun z hm e=>by have:=List.find?_eq_none.mp hz z hm;simp[e]at this,h⟩
theorem pM{H:Hp}{zs:List (Addr×(V×V))}{b:Addr}(h:∀z∈zs,z.1≠b):zl H zs b=H b:=by
 unfold zl;rw[List.find?_eq_none.mpr fun z hz=>by simpa using h z hz]
def tLZ(K:Q5)(ta:TA):TE:=fun σ H Q=>ta σ H fun vs H2=>∃(b d:Bool) (a c:Addr) (xs ys:List V),vs=[.ref a,.ref c]/\Sq K b H2 a xs/\Sq K d H2 c ys/\xs.length<=9000/\
 ∀(as:List Addr) (l:Addr) (H3:Hp),si H2 H3->H3 l=none->as.length=min xs.length ys.length->(∀(k:Nat) (p:Addr),as[k]?=some p->∃x y,xs[k]?=some x/\ys[k]?=some y/\H3 p=some (.tup [x,y]))->Q (.ref l) (upd H3 l (.lst (as.map V.ref)))
section
variable{pos2:Pos}
theorem pq{p p2:Pos}{a c:Expr}{ta:TA}(hcm:X.calm=true)(hgL:L2.Gl X "list")(hmL:X.mg "list"=none)(hg:L2.Gl X "zip")(hm:X.mg "zip"=none)(ha:WA X [a,c] ta)
  (hs:starEach [a,c] X.env=(false,eval a X.env)::starEach [c] X.env:=by rfl) (hpl:(backTo pos2 (starEach [c] X.env)).any (·.1)=false:=by rfl)
  (he:starEach [.Call (.Name "zip" p2) [a,c] [] pos2] X.env=(false,eval (.Call (.Name "zip" p2) [a,c] [] pos2) X.env)::starEach [] X.env:=by rfl) (hpl2:(backTo pos (starEach [] X.env)).any (·.1)=false:=by rfl) :
  WE X (.Call (.Name "list" p) [.Call (.Name "zip" p2) [a,c] [] pos2] [] pos) (tLZ X.K ta):=by
 constructor;intro pins s σ H Q I h;refine wpAny_Call_Name_kw (fU I hgL hmL OG.bW ?_);refine PyProof.Rows.callWith_type1 ?_ he hpl2;rw[he];show wpAny _ _ (spliced ((false,eval _ X.env)::backTo pos (starEach [] X.env))) _ _ s;refine Calls.spliced_cons ?_;refine wpAny_Call_Name_kw (fU I hg hm OP.zX ?_);refine PyProof.Rows.callWith_type1 (thn (ha.h pos2 pins s σ H _ I h) fun us s1 hz=>?_) hs hpl;obtain⟨vs,H1,I1,r1,q1⟩:=hz;obtain⟨b,d,aa,cc,xs,ys,rfl,qa,qc,hxl,q⟩:=q1;obtain⟨u,v,rfl,ru,rv⟩:=uz r1;cases ru;cases rv;obtain⟨ia,ra,sa⟩:=I1.sq qa;obtain⟨ic,rc,sc⟩:=I1.sq qc;have la:=ra.length;have lc:=rc.length;refine xR sa sc fun h1 z II O i j D st hi up=>?_;refine Calls.spliced_nil ?_;refine zj (s:={ s1 with heap:=h1 }) (h0:=s1.heap) (I1.ok.hd hcm) D hi (by simp;omega) st (sa.at_ fun o g=>up _ _ g) (sc.at_ fun o g=>up _ _ g) up fun h' as c' las gl Z ns old=>?_;have las':as.length=min xs.length ys.length:=by rw[las];simp;omega
 have vp:∀(k:Nat) (p:Addr),as[k]?=some p->∃x y x' y',xs[k]?=some x/\ys[k]?=some y/\bR x x'/\bR y y'/\IsPair h' p x' y':=fun k p g=>by
  obtain⟨x',y',T,e1,e2⟩:=Z.pr k p g;have lk:k<as.length:=(Q7.mp g).1;obtain⟨x,hx⟩:∃x,xs[k]?=some x:=⟨xs[k]'(by omega),Q4 _⟩;obtain⟨y,hy⟩:∃y,ys[k]?=some y:=⟨ys[k]'(by omega),Q4 _⟩;exact⟨x,y,x',y',hx,hy,hJ ra hx (by simpa using e1),hJ rc hy (by simpa using e2),T⟩
 obtain⟨zs,hzs⟩:∃zs,zs=as.zip (xs.zip ys):=⟨_,rfl⟩;have lxy:(xs.zip ys).length=as.length:=by rw[List.length_zip,las']
 have z1:zs.map (·.1)=as:=by rw[hzs];exact List.map_fst_zip (by omega)
 have zat:∀(k:Nat) (p:Addr) (x y:V),as[k]?=some p->xs[k]?=some x->ys[k]?=some y->(p,(x,y))∈zs:=fun k p x y g gx gy=>by
  refine ZT (i:=k) ?_;rw[hzs,Zo,Zo];exact⟨g,gx,gy⟩
 have zin:∀z∈zs,∃k:Nat,as[k]?=some z.1/\xs[k]?=some z.2.1/\ys[k]?=some z.2.2:=fun z hz=>by
  obtain⟨k,g⟩:=Ze hz;rw[hzs,Zo,Zo]at g;exact⟨k,g⟩
 have nda:as.Nodup:=Z.up.imp fun h=>Qj h;have ndz:(zs.map (·.1)).Nodup:=by rw[z1];exact nda
 have nob:∀b,b<s1.heap.objs.size->∀z∈zs,z.1≠b:=fun b hb z hz e=>by
  have hm:z.1∈as:=by rw[<-z1];exact Qc.mpr ⟨z,hz,rfl⟩
  have:=Z.lt _ hm;rw[e]at this;exact absurd hb (XG.mpr this)
 have lge:s1.heap.objs.size<=h1.objs.size:=Zf (Nat.lt_of_le_of_lt (hi z (by simp)) (QV st.hz));have nl:∀z∈zs,z.1≠h1.objs.size:=fun z hz e=>ns (by show h1.objs.size∈as;rw[<-e,<-z1];exact Qc.mpr ⟨z,hz,rfl⟩);have sm:si H1 (zl H1 zs):=fun b o hb=>by
  rw[pM (nob b (Nat.lt_of_not_le fun z'=>by rw[I1.hok.fresh z']at hb;cases hb))];exact hb
 have hl0:zl H1 zs h1.objs.size=none:=by rw[pM nl];exact I1.hok.fresh lge
 have I3:Inv X pins σ (upd (zl H1 zs) h1.objs.size (.lst (as.map V.ref))) { s1 with heap:=h',toks:=s1.toks }:=xF I1 old (fun b hb=>by
   rw[aQ (Qj (Qw hb lge)),pM (nob b hb)]) fun b u hb hu=>by
  by_cases c1:b=h1.objs.size
  ·subst c1;rw[aH]at hu;cases hu;exact⟨by rw[QX,las'];unfold sizeLine;omega,as.map Value.ref,c',lP as,gl⟩
  ·rw[aQ c1]at hu;rcases vW hu with⟨z',hz',e1,e2⟩|⟨_,e2⟩
   ·subst e1;subst e2;obtain⟨k,k1,k2,k3⟩:=zin z' hz';obtain⟨x,y,x',y',w1,w2,w3,w4,w5⟩:=vp k _ k1;rw[k2]at w1;rw[k3]at w2;cases w1;cases w2;exact yT w5 w3 w4
   ·rw[I1.hok.fresh hb]at e2;cases e2
 refine⟨.ref h1.objs.size,_,I3,rfl,q as h1.objs.size _ sm hl0 las' fun k p g=>?_⟩;obtain⟨x,y,x',y',w1,w2,_⟩:=vp k p g;exact⟨x,y,w1,w2,De ndz (zat k p x y g w1 w2)⟩
def jB(ca cb:CE):CE:=fun ρ S=>(ca ρ S).bind fun p=>(cb ρ p.2).bind fun q=>(yp p.1 q.2).bind fun x=>(yp q.1 q.2).bind fun y=>if x.1.length<=9000 then some (.ref q.2.length,q.2++[.lst (sV x.1 y.1)])else none
theorem uK{u:U}{S:Sto}{us:List U}{ok:Sto->Prop}(h:yp u S=some (us,ok)):ok S:=by
 cases u with
 |tup ws=>cases h;trivial
 |ref l=>
  simp only[yp]at h;split at h<;>try cases h
  assumption
 |_=>simp[yp]at h
theorem AW{K:Q5}{m:List Addr}{H:Hp}:∀{as:List Addr} {us:List U},as.length=us.length->(∀(k:Nat) (p:Addr) (u:U),as[k]?=some p->us[k]?=some u->Is K m H (.ref p) u)->IsL K m H (as.map V.ref) us
 |[],[],_,_=>.nil_
 |a::as,u::us,hl,h=>.cons_ (h 0 a u rfl rfl) (AW (by simpa using hl) fun k p u g1 g2=>h (k+1) p u (by simpa using g1) (by simpa using g2))
 |[],_::_,hl,_=>by simp at hl
 |_::_,[],hl,_=>by simp at hl
theorem va{p p2:Pos}{a c:Expr}{ca cc:CE}(hcm:X.calm=true)(hgL:L2.Gl X "list")(hmL:X.mg "list"=none)(hg:L2.Gl X "zip")(hm:X.mg "zip"=none)(ha:QE X a ca)(hc:QE X c cc)
  (hs:starEach [a,c] X.env=(false,eval a X.env)::starEach [c] X.env:=by rfl) (hs2:starEach [c] X.env=(false,eval c X.env)::starEach [] X.env:=by rfl) (hpl:(backTo pos2 (starEach [c] X.env)).any (·.1)=false:=by rfl)
  (he:starEach [.Call (.Name "zip" p2) [a,c] [] pos2] X.env=(false,eval (.Call (.Name "zip" p2) [a,c] [] pos2) X.env)::starEach [] X.env:=by rfl) (hpl2:(backTo pos (starEach [] X.env)).any (·.1)=false:=by rfl) :
  QE X (.Call (.Name "list" p) [.Call (.Name "zip" p2) [a,c] [] pos2] [] pos) (jB ca cc):=
 (pq hcm hgL hmL hg hm (cK ha (cK hc eQ hs2) hs) hs hpl he hpl2).imp fun σ H Q hz=>iF hz fun m ρ S u S' sr lr h post=>by
  obtain⟨⟨x,S1⟩,h1,h⟩:=Q2.mp h;obtain⟨⟨y,S2⟩,h2,h⟩:=Q2.mp h;obtain⟨⟨us,ok1⟩,h3,h⟩:=Q2.mp h;obtain⟨⟨ws,ok2⟩,h4,h⟩:=Q2.mp h;split at h<;>try cases h
  have hl:us.length<=9000:=by assumption
  refine⟨m,ρ,S,x,S1,sr,lr,h1,fun m1 v1 H1 e1 sr1 i1=>⟨m1,ρ,S1,y,_,sr1,lr.mono e1,h2,fun m2 v2 H2 e2 sr2 i2=>?_⟩⟩;obtain⟨b,aa,rfl,q1,k1⟩:=Au sr2 (i1.mono e2) h3;obtain⟨d,bb,rfl,q2,k2⟩:=Au sr2 i2 h4;obtain⟨vs,sq1,l1⟩:=k1 m2 S2 H2 (.of (cq (si.refl _))) sr2 (uK h3);obtain⟨wv,sq2,l2⟩:=k2 m2 S2 H2 (.of (cq (si.refl _))) sr2 (uK h4);have n1:=l1.length;have n2:=l2.length;refine⟨b,d,aa,bb,vs,wv,rfl,sq1,sq2,by omega,fun as l H3 sm hl0 las hp=>?_⟩;have ee:Ext X.K m2 H2 m2 H3:=.of (cq sm);have il:IsL X.K m2 H3 (as.map V.ref) (sV us ws):=AW (by simp[sV];omega) fun k p u g1 g2=>by
   simp only[sV,Qb,Qs]at g2;obtain⟨⟨u1,u2⟩,hz,rfl⟩:=g2;obtain⟨gu,gw⟩:=Zo.mp hz;obtain⟨vp,ep,ip⟩:=l1.getD gu;obtain⟨vq,eq,iq⟩:=l2.getD gw;obtain⟨x',y',w1,w2,w3⟩:=hp k p g1;rw[ep]at w1;cases w1;rw[eq]at w2;cases w2;exact .tup_ (SqT.of w3) (.cons_ (ip.mono ee) (.cons_ (iq.mono ee) .nil_))
  exact bA (sr2.same sm) il (post.mono (e1.trans (e2.trans ee))) hl0
end
end OP
namespace OP
open PySem PySem.Spec PyProof PyProof.Rows L2 OG PySem.W HT
section
variable{prog:Program}{w:World}{A:Around}{E:Value->Shared->Prop}{s:Shared}
theorem mJ{t sl:Addr}{items:Array Value}{vl vu:Value}{lo hi:Option Int}{Q:Value->Shared->Prop}(ht:IsTup s.heap t items)(hs:s.heap.IsSliceOf sl vl vu .none)(pl:IsPart vl lo)(pu:IsPart vu hi)
  (hw:sIx items.size 0 lo=0/\sIx items.size items.size hi=items.size) (h:Q (.ref t) s):wpAny (model prog w) A (getItem (.ref t) (.ref sl)) Q E s:=by
 obtain⟨os,hos,hcs,hds⟩:=id hs;have hT:s.TypeIs (.ref sl) "slice":=⟨os,hos,hcs⟩;unfold getItem;try with_reducible refine wpAny_holding ?_
 first|refine Q0 (Q6 ?_)|skip
 refine Q0 (wpAny_sequenceKey ht.typeIs (by decide) ?_);refine Q0 (wpAny_callSpecial?_slot (name:=Str.ofString "__getitem__") ht.typeIs PyProof.Rows.slot_tuple_getitem (wpAny_call_entry PyProof.Rows.slot_tuple_getitem ht.typeIs entry_tuple_getitem ?_ (args_tuple_getitem _ _)));show wpAny _ _ (Builtin.Tuple.tupleItemsOf (.ref t) >>= _) _ _ s;refine Q0 (tupleItemsOf_ ht (Q0 (wpAny_typeOf hT ?_)));rw[if_pos (by decide)];refine Q0 (eE hs pl pu ?_);rw[hw.1,hw.2,Nat.sub_zero];dsimp only;rw[if_pos (by simp)];unfold Builtin.Tuple.tupleIsExact;refine Q0 (Q0 (wpAny_typeOf ht.typeIs (Q6 ?_)));rw[if_pos (by decide)];exact Q0 (XC (Q6 ⟨_,rfl,Q6 h⟩))
end
section
variable{X:Cx}
def Kc(K:Q5):V->Option Int->Option Int->Hp->VK->Prop:=fun x lo hi H Q=>∃a xs,x=.ref a/\SqT K H a xs/\(sIx xs.length 0 lo=0/\sIx xs.length xs.length hi=xs.length)/\Q (.ref a) H
theorem B7:SlR X (Kc X.K):=by
 intro pins s σ H x v vl vu lo hi sl Q I rx hs pl pu h;obtain⟨a,xs,rfl,hx,hw,q⟩:=h;cases rx;obtain⟨its,r,ht,hz⟩:=I.tuple hx;have hlen:its.toArray.size=xs.length:=by rw[QM];exact r.length.symm
 exact⟨"tuple",_,PyProof.Rows.slot_tuple_getitem.lookup,ht.typeIs,mJ ht hs pl pu (by rw[hlen];exact hw) ⟨.ref a,H,I,rfl,q⟩⟩
def GH(x:U)(lo hi:Option Int)(S:Sto):Option (U×Sto):=match x with
 |.tup us=>some (.tup (o7 us lo hi),S)
 |.ref l=>match S[l]? with
  |some (.lst us)=>some (.ref S.length,S++[.lst (o7 us lo hi)])
  |_=>none
 |_=>none
def GR(ca:CE)(cl ch:Option CE):CE:=fun ρ S=>(ca ρ S).bind fun p=>(iH cl ρ p.2).bind fun q=>(iH ch ρ q.2).bind fun r=>GH p.1 q.1 r.1 r.2
theorem Im{e:Expr}{lo hi:Option Expr}{ca:CE}{cl ch:Option CE}{pos p2:Pos}(ha:QE X e ca)(hl:QO X lo cl)(hh:QO X hi ch):QE X (.Subscript e (.Slice lo hi none p2) pos) (GR ca cl ch):=(nk (uI.or (Ar.or B7)) ha hl hh).imp fun σ H Q hz=>iF hz fun m ρ S u S' sr lr hc post=>by
 obtain⟨⟨x,S1⟩,h1,ha⟩:=Q2.mp hc;obtain⟨⟨l,S2⟩,h2,hb⟩:=Q2.mp ha;obtain⟨⟨k,S3⟩,h3,h⟩:=Q2.mp hb;clear ha hb hc;refine⟨m,ρ,S,x,S1,sr,lr,h1,fun m1 v1 H1 e1 sr1 i1=>⟨m1,ρ,S1,l,S2,sr1,lr.mono e1,h2,fun m2 H2 e2 sr2=>⟨m2,ρ,S2,k,S3,sr2,lr.mono (e1.trans e2),h3,fun m3 H3 e3 sr3=>?_⟩⟩⟩;have i3:=i1.mono (e2.trans e3);have e03:=(e1.trans e2).trans e3;cases x with
 |tup us=>
  simp only[GH]at h;cases h;obtain⟨a,xs,rfl,sa,la⟩:=i3.of_tup;by_cases hw:sIx us.length 0 l=0/\sIx us.length us.length k=us.length
  ·have e:o7 us l k=us:=by
    unfold o7;rw[hw.1,hw.2,XZ,Nat.sub_zero,List.take_length]
   rw[e]at post;exact .inr (.inr ⟨a,xs,rfl,sa,by rw[la.length];exact hw,post m3 _ H3 e03 sr3 (.tup_ sa la)⟩)
  ·exact .inr (.inl ⟨a,xs,rfl,sa,by rw[la.length];exact hw,fun p hp=>jv sr3 (rP la) (post.mono e03) hp⟩)
 |ref r=>
  simp only[GH]at h;split at h<;>try cases h
  rename_i us hS;obtain⟨a,ha,rfl⟩:=i3.of_ref;obtain⟨a',ha',xs,hx,la⟩:=sr3.get hS;rw[ha]at ha';cases ha';exact .inl ⟨a,xs,rfl,SqL.of hx,fun p hp=>bA sr3 (rP la) (post.mono e03) hp⟩
 |_=>simp[GH]at h
end
end OP
namespace OP
open PySem PySem.Spec PyProof PyProof.Rows L2 OG PySem.W
theorem n9:∀{ns:List Int} {vs:List Value},aX (ns.map V.int) vs->IntsAre vs ns
 |[],vs,r=>by cases r;exact .nil
 |n::ns,vs,r=>by
  cases r with
  |cons r1 r2=>
   obtain⟨t,rfl⟩:=r1;exact .cons n t (n9 r2)
def DK(ns:List Int):Nat:=(firstMet (fun i=>ns.getD i 0) ns.length).length
def Ga(a:Addr)(n:Nat):HO:=.ext fun h=>∃o es ep t,h.get? a=some o/\o.ExactSet/\o.data=.set es ep t/\t.fits es.size=true/\es.size=n
def Ig(K:Q5):List V->Hp->VK->Prop:=fun xs H Q=>∃(p:Addr) (ns:List Int),xs=[.ref p]/\SqL K H p (ns.map V.int)/\ns.length<=4000/\∀l,H l=none->Q (.ref l) (upd H l (Ga l (DK ns)))
theorem FY{X:Cx}(hc:X.calm=true):bX X (.type "set") (Ig X.K):=by
 rintro pins s σ H xs us Q I r ⟨p,ns,rfl,hL,hn,q⟩;obtain⟨u,rfl,ru⟩:=eS r;cases ru;obtain⟨its,rv,pl,hz⟩:=I.list hL;have hlen:=rv.length;rw[QX]at hlen;have sz:its.toArray.size=ns.length:=by rw[QM,hlen]
 refine PySem.call_set_list (items:=its.toArray) (ns:=ns) (show X.A.handled=none from I.ok.hd hc) pl.isList (by simpa using n9 rv) (by rw[sz];unfold scanBound;omega) fun h' tk hS hk=>?_;obtain⟨o,es,ep,t,ho,hex,hd,_,_,_,hf,hn'⟩:=hS;rw[sz]at hn';have hf0:=I.hok.fresh (QJ s.heap.objs.size);exact⟨.ref s.heap.objs.size,_,I.laid (o:=Ga s.heap.objs.size (DK ns)) (t':=tk) (fun b o g=>hk b o (QV g) g) (QJ _) ⟨⟨o,es,ep,t,ho,hex,hd,hf,hn'⟩,⟨o,ho⟩,fun h1 h2 ⟨o,es,ep,t,g,r⟩ m=>⟨o,es,ep,t,m o g,r⟩⟩,rfl,q _ hf0⟩
def Ih:List V->Hp->VK->Prop:=fun xs H Q=>∃(v:Addr) (n:Nat),xs=[.ref v]/\H v=some (Ga v n)/\n<=4000/\Q (.int n) H
theorem FZ{X:Cx}:bX X (.builtin "len") Ih:=by
 rintro pins s σ H xs us Q I r ⟨v,n,rfl,hV,hn,q⟩;obtain⟨u,rfl,ru⟩:=eS r;cases ru;obtain⟨⟨o,es,ep,t,ho,hex,hd,hf,he⟩,_,_⟩:bF X.prog X.w H s.heap v (Ga v n):=I.hok v _ hV;have lt:(es.size:Int)<2^63:=by rw[he];omega
 refine PySem.call_len_set ho hex hd hf lt ?_;rw[he];exact⟨.int n,H,I.tok _,⟨_,rfl⟩,q⟩
def mQ(ce:CE):CE:=fun ρ S=>(ce ρ S).bind fun p=>match p.1 with
 |.ref l=>match p.2[l]? with
  |some (.lst us)=>(mG us).bind fun ns=>if ns.length<=4000 then some (.int (DK ns:Nat),p.2)else none
  |_=>none
 |_=>none
theorem DJ(ns:List Int):DK ns<=ns.length:=firstMet_length_le _ _
theorem yC{X:Cx}{o:Expr}{co:CE}{p1 p2 cpos pos:Pos}(hcm:X.calm=true)(hg:L2.Gl X "len")(hm:X.mg "len"=none)(hg2:L2.Gl X "set")(hm2:X.mg "set"=none)(ho:QE X o co)
  (he1:starEach [o] X.env=(false,eval o X.env)::starEach [] X.env:=by rfl) (hpl1:(backTo cpos (starEach [] X.env)).any (·.1)=false:=by rfl)
  (he:starEach [.Call (.Name "set" p2) [o] [] cpos] X.env=(false,eval (.Call (.Name "set" p2) [o] [] cpos) X.env)::starEach [] X.env:=by rfl) (hpl:(backTo pos (starEach [] X.env)).any (·.1)=false:=by rfl) :
  QE X (.Call (.Name "len" p1) [.Call (.Name "set" p2) [o] [] cpos] [] pos) (mQ co):=
 (gK FZ hg hm PySem.boot_len (cK (iM (FY hcm) hg2 hm2 rY (cK ho eQ he1) (by decide) (by decide) he1 hpl1) eQ he) (by decide) (by decide) he hpl).imp fun σ H Q hz=>iF hz fun m ρ S u S' sr lr hc post=>by
  obtain⟨⟨x,S1⟩,h1,h⟩:=Q2.mp hc;refine⟨m,ρ,S,x,S1,sr,lr,h1,fun m1 v1 H1 e1 sr1 i1=>?_⟩;cases x with
  |ref l=>
   simp only at h;split at h<;>try cases h
   rename_i us hS;obtain⟨ns,hn,h⟩:=Q2.mp h;split at h<;>try cases h
   have hcc:ns.length<=4000:=by assumption
   obtain⟨a,ha,rfl⟩:=i1.of_ref;obtain⟨a',ha',xs,hx,la⟩:=sr1.get hS;rw[ha]at ha';cases ha';rw[iD hn]at la;have ex:xs=ns.map V.int:=IsL.ints la;subst ex;refine⟨a,ns,rfl,SqL.of hx,hcc,fun lS hl=>?_⟩;have sm:si H1 (upd H1 lS (Ga lS (DK ns))):=fE hl _;exact⟨lS,DK ns,rfl,aH,Qu (DJ ns) hcc,post m1 _ _ (e1.trans (.of (cq sm))) (sr1.same sm) .int_⟩
  |_=>cases h
variable{X:Cx}
section
variable{K:Q5}
def AE:V->List V->Hp->VK->Prop:=fun x vs H Q=>∃l xs,x=.ref l/\vs=[]/\H l=some (.lst xs)/\Q .non (upd H l (.lst []))
theorem za:MtM X "list.clear" AE:=by
 intro pins s σ H x vs v us Q I rx rv h;obtain⟨l,xs,rfl,rfl,hH,q⟩:=h;cases rx;have hus:=rv.zero;subst hus;obtain⟨z,its,n,r,hl,e⟩:=I.lstM hH;refine call_meets PySem.F.slot_list_clear ⟨_,e,rfl⟩ PySem.F.entry_list_clear (PySem.F.args_list_clear_1 _) (PySem.AutoSeq1.list_clear_list_0 l its.toArray n (by rw[QM];omega)) ⟨e,?_⟩;exact⟨.non,_,I.lset (its':=[]) (ys:=[]) hH e rfl .nil (Qi _),rfl,q⟩
noncomputable def lD:U->List U->Sto->Option (U×Sto)
 |.ref l,[],S=>match S[l]? with
  |some (.lst _)=>some (.non,S.set l (.lst []))
  |_=>none
 |_,_,_=>none
theorem CZ:MtP K AE lD:=by
 intro m S H x v us vs u S' Q sr ix i hf post;match x,us,hf with
 |.ref l,[],hf=>
  simp only[lD]at hf;split at hf<;>try cases hf
  rename_i ws hS;obtain⟨a,ha,rfl⟩:=ix.of_ref;obtain⟨a',ha',xs,hx,la⟩:=sr.get hS;rw[ha]at ha';cases ha';have eu:Ext K m H m (upd H a (.lst [])):=.of (sr.keep ha _);exact⟨a,xs,rfl,i.of_nil,hx,post m _ _ eu (sr.put ha ⟨_,aH,.nil_⟩) .non_⟩
variable{o:Expr}{co:CE}{apos cpos:Pos}
theorem Ct(ho:QE X o co)(hbase:attributeBase o "clear" X.env (eval o X.env)=eval o X.env:=by rfl)(hline:(apos.endLine == cpos.line)=true:=by rfl) :
  QE X (.Call (.Attribute o "clear" apos) [] [] cpos) (cBM lD co aB):=(BU PySem.F.plainAttrs_list PySem.F.slot_list_clear PySem.F.type_list_clear za ho hbase hline).imp fun σ H Q h=>by
 obtain⟨m,ρ,S,u,S',sr,lr,hc,k⟩:=oN (cr:=aB) CZ σ H Q h;refine⟨m,ρ,S,u,S',sr,lr,hc,fun m1 v1 H1 e1 sr1 i1=>?_⟩;obtain⟨ty,m2,ρ2,S2,us,S3,sr2,lr2,h4,h5⟩:=k m1 v1 H1 e1 sr1 i1;cases h4;exact⟨ty,h5 m2 [] H1 .refl sr2 .nil_⟩
end
theorem uW:typeLookup (.type "list_reverseiterator") "__len__"=pure none:=by rw[typeLookup_type,builtinLookup_eq_fast];kernel_rfl
theorem yv:typeLookup (.type "list_reverseiterator") "__length_hint__"=pure (some (.builtin "list_reverseiterator.__length_hint__")):=by rw[typeLookup_type,builtinLookup_eq_fast];kernel_rfl
theorem yt:isSubtype (.type "list_reverseiterator") (.type "list_reverseiterator")=pure true:=by rw[isSubtype_type];kernel_rfl
variable{prog:Program}{w:World}{A:Around}{s:Shared}{R:Result->Shared->Prop}{I l S:Addr}{items:Array Value}
theorem zC{E:Value->Shared->Prop}{Q:Bool->Shared->Prop}(T:s.TypeIs (.ref I) "list_reverseiterator")(h:Q false s):wpAny (model prog w) A (Builtin.List.listLengthHint (.ref I)) Q E s:=by
 unfold Builtin.List.listLengthHint;refine Q0 (wpAny_specialOf T uW ?_);change wpAny _ A (specialOf (Value.ref I) (Str.ofString "__length_hint__") >>= _) _ _ _;refine Q0 (wpAny_specialOf T yv ?_);have hs:splitId "list_reverseiterator.__length_hint__"=some ("list_reverseiterator","__length_hint__"):=by kernel_rfl
 dsimp only;rw[hs];dsimp only;refine Q0 (wpAny_isInstance T yt ?_);rw[if_neg (by simp)];split
 ·rw[if_neg (by decide)];exact Q6 h
 ·rename_i hn;exact absurd (by with_unfolding_all rfl) hn
theorem Dz{W:WalksS prog w A.in1 I [I,l] [I] (fun a b=>b=a) items.size (fun i v=>items[items.size-1-i]?=some v) (fun i s=>i<=items.size/\s.heap.IsRevIter I l ((items.size:Int)-1-(i:Int))/\s.heap.IsList l items)}(res:Value)(c₀:Nat)(hst:0<=items.size/\s.heap.IsRevIter I l ((items.size:Int)-1-((0:Nat):Int))/\s.heap.IsList l items)(hSf:S∉[I,l])
  (hS:s.heap.get? S=some { cls:=.type "list",data:=.seq #[] c₀ }) (hn:items.size<=sizeLine)
  (hR:∀s' acc' c',Moved [S,I] (fun a b=>b=a) s s'->s'.heap.get? S=some { cls:=.type "list",dict:=none,data:=.seq acc' c',slots:=#[] }->ItemsOf (fun i v=>items[items.size-1-i]?=some v) acc' items.size->R (.ok (.ret res)) s') :
  wpAny (model prog w) A.in1 (Builtin.List.listExtendWith (.ref S) (.ref I) res)
   (fun fin s'=>match fin with|.done f=>R (.ok f) s'|.again c'=>c'.quiet=true/\codeAny (model prog w) A c' R s') (fun e s'=>R (.error e) s') s:=by
 have hSI:S≠I:=fun e=>hSf (by simp[e]);have T:s.TypeIs (.ref I) "list_reverseiterator":=hst.2.1.typeIs;unfold Builtin.List.listExtendWith;refine Q0 (wpAny_typeOf T ?_);have h1:Builtin.List.listSameRef (.ref S) (.ref I)=false:=by simp[Builtin.List.listSameRef,hSI]
 have h2:(Value.type "list_reverseiterator" == Value.type "list")=false:=by decide
 have h3:(Value.type "list_reverseiterator" == Value.type "tuple")=false:=by decide
 simp only[h1,h2,h3,Bool.or_false,Qr,if_false];refine Q0 (W.self 0 _ _ _ hst ?_);refine Q0 (wpAny_holding (zC T ?_));split
 ·rename_i hx;exact absurd hx (by with_unfolding_all decide)
 exact Q6 ⟨plainId_quiet PySem.F.plain_extend_loop _,codeAny_extend_loopS W hn _ hSf _ items.size 0 _ _ _ rfl (Qi _) hst hS (ItemsOf.nil _) fun s' acc' c' hm hS' hacc=>hR s' acc' c' hm hS' hacc⟩
section
variable{E:Value->Shared->Prop}
abbrev Hd(I l:Addr)(items:Array Value):Nat->Shared->Prop:=fun i s=>i<=items.size/\s.heap.IsRevIter I l ((items.size:Int)-1-(i:Int))/\s.heap.IsList l items
theorem zy{W:WalksS prog w A.in1 I [I,l] [I] (fun a b=>b=a) items.size (fun i v=>items[items.size-1-i]?=some v) (Hd I l items)}(hst:Hd I l items 0 s)(hSf:S∉[I,l])
  (hS:s.heap.get? S=some { cls:=.type "list",data:=.seq #[] }) (hn:items.size<=sizeLine)
  (hR:∀s' acc' c',Moved [S,I] (fun a b=>b=a) s s'->s'.heap.get? S=some { cls:=.type "list",dict:=none,data:=.seq acc' c',slots:=#[] }->ItemsOf (fun i v=>items[items.size-1-i]?=some v) acc' items.size->R (.ok (.ret .none)) s') :
  wpAny (model prog w) A.in1 (Builtin.«list.__init__» ⟨[.ref S,.ref I],[]⟩)
   (fun fin s'=>match fin with|.done f=>R (.ok f) s'|.again c'=>c'.quiet=true/\codeAny (model prog w) A c' R s') (fun e s'=>R (.error e) s') s:=by
 show wpAny _ A.in1 (do let old <-Builtin.List.listItems (.ref S);Builtin.List.listUpdate (.ref S) (fun _=>#[]);letGo old.toList.reverse;Builtin.List.listExtendWith (.ref S) (.ref I) .none) _ _ s;refine Q0 ?_;unfold Builtin.List.listItems;refine Q0 (wpAny_seqItems hS rfl (Q6 ?_));show wpAny _ A.in1 (updateSeq S (fun _=>#[]) >>= fun _=>letGo (#[]:Array Value).toList.reverse >>= fun _=>Builtin.List.listExtendWith (.ref S) (.ref I) .none) _ _ s;refine Q0 (wpAny_updateSeq hS rfl ?_);have hS₂:=Zr (Obj.mapSeq (fun _=>(#[]:Array Value))) hS rfl;have oth:∀b o,b≠S->s.heap.get? b=some o->(s.heap.update S (Obj.mapSeq (fun _=>(#[]:Array Value)))).get? b=some o:=
  fun b o hb e=>(Zp _ _ (Ne.symm hb)).trans e
 refine Q0 (wpAny_letGo ?_);refine Dz (W:=W) .none _ (W.frame 0 s _ s.toks hst (QJ _) fun b hb o e=>oth b o (fun h=>hSf (h▸hb)) e) hSf hS₂ hn fun s' acc' c' hm hS' hacc=>?_;have hm0:Moved [S,I] (fun a b=>b=a) s { s with heap:=s.heap.update S (Obj.mapSeq (fun _=>(#[]:Array Value))) }:=⟨fun b o hb e=>oth b o (fun h=>hb (by simp[h])) e,rfl,rfl,rfl,QJ _⟩;exact hR s' acc' c' (Moved.trans W.gtrans hm0 hm) hS' hacc
theorem zk{Q:Value->Shared->Prop}(hh:A.handled=none)(ne:l≠I)(hi:s.heap.IsRevIter I l ((items.size:Int)-1))(hl:s.heap.IsList l items)(hn:items.size<=sizeLine)
  (q:∀s' c',Moved [s.heap.objs.size,I] (fun a b=>b=a) { s with heap:=s.heap.push { cls:=.type "list",data:=.seq #[] } } s'->s'.heap.get? s.heap.objs.size=some { cls:=.type "list",dict:=none,data:=.seq items.reverse c',slots:=#[] }->Q (.ref s.heap.objs.size) s') :
  wpAny (model prog w) A (call (.type "list") [.ref I]) Q E s:=by
 have li:I<s.heap.objs.size:=by obtain⟨o,e,_⟩:=hi;exact QV e
 have ll:l<s.heap.objs.size:=by obtain⟨o,e,_⟩:=hl;exact QV e
 have W:WalksS prog w A.in1.in1 I [I,l] [I] (fun a b=>b=a) items.size (fun i v=>items[items.size-1-i]?=some v) (Hd I l items):=(Walks.listRev (A:=A.in1.in1) hh I l ne items).toS;refine callType_codes (Q₁:=fun obj s₁=>obj=.ref s.heap.objs.size/\s₁={ s with heap:=s.heap.push { cls:=.type "list",data:=.seq #[] } }) PySem.F.called_list (PySem.F.typeCall_list_1 _) PySem.F.entry_list_init
  (code_list_new _ ⟨rfl,rfl⟩) fun obj s₁ h₁=>?_
 obtain⟨rfl,rfl⟩:=h₁;have hS:(s.heap.push { cls:=.type "list",data:=.seq #[] }).get? s.heap.objs.size=some { cls:=.type "list",data:=.seq #[] }:=QU _ rfl;have nS:s.heap.objs.size∉[I,l]:=fun h=>by
  simp only[Qk,X9,or_false]at h;rcases h with h|h
  ·exact absurd h (X0 li)
  ·exact absurd h (X0 ll)
 have hst:Hd I l items 0 s:=⟨Qi _,by simpa using hi,hl⟩;refine⟨⟨_,hS,rfl⟩,PySem.F.args_list_init_2 _ _,zy (W:=W) (W.frame 0 s _ s.toks hst (QJ _) fun b _ o e=>Q3 _ e) nS hS hn fun s' acc' c' hm hS' hacc=>?_⟩;refine⟨rfl,q s' c' hm ?_⟩;have e:acc'=items.reverse:=by
  refine Array.ext (by rw[hacc.1];simp) fun i h1 h2=>?_;have this:items[items.size-1-i]?=some acc'[i]:=hacc.2 i _ (QR h1);rw[Zt]at this;obtain⟨_,e⟩:=this;rw[<-e,Array.getElem_reverse]
 rw[<-e];exact hS'
end
section
variable{pos pos2:Pos}
theorem mR:bootBuiltins "reversed"=some (.type "reversed"):=rfl
def tLR(te:TA):TE:=fun σ H Q=>te σ H fun vs H2=>∃(a:Addr) (xs:List V),vs=[.ref a]/\H2 a=some (.lst xs)/\∀p,H2 p=none->Q (.ref p) (upd H2 p (.lst xs.reverse))
theorem px{p p2:Pos}{a:Expr}{ta:TA}(hcm:X.calm=true)(hgL:L2.Gl X "list")(hmL:X.mg "list"=none)(hg:L2.Gl X "reversed")(hm:X.mg "reversed"=none)(ha:WA X [a] ta)
  (hs:starEach [a] X.env=(false,eval a X.env)::starEach [] X.env:=by rfl) (hpl:(backTo pos2 (starEach [] X.env)).any (·.1)=false:=by rfl)
  (he:starEach [.Call (.Name "reversed" p2) [a] [] pos2] X.env=(false,eval (.Call (.Name "reversed" p2) [a] [] pos2) X.env)::starEach [] X.env:=by rfl) (hpl2:(backTo pos (starEach [] X.env)).any (·.1)=false:=by rfl) :
  WE X (.Call (.Name "list" p) [.Call (.Name "reversed" p2) [a] [] pos2] [] pos) (tLR ta):=by
 constructor;intro pins s σ H Q I h;refine wpAny_Call_Name_kw (fU I hgL hmL OG.bW ?_);refine PyProof.Rows.callWith_type1 ?_ he hpl2;rw[he];show wpAny _ _ (spliced ((false,eval _ X.env)::backTo pos (starEach [] X.env))) _ _ s;refine Calls.spliced_cons ?_;refine wpAny_Call_Name_kw (fU I hg hm mR ?_);refine PyProof.Rows.callWith_type1 (thn (ha.h pos2 pins s σ H _ I h) fun us s1 hz=>?_) hs hpl;obtain⟨vs,H1,I1,r1,q1⟩:=hz;obtain⟨aa,xs,rfl,hx,q⟩:=q1;obtain⟨u,rfl,ru⟩:=r1.one;cases ru;obtain⟨z,its,n,r,hl,e⟩:=I1.lstM hx;have hL:s1.heap.IsList aa its.toArray:=⟨_,e,rfl,n,rfl⟩;refine call_reversed_list hL ?_;refine Calls.spliced_nil ?_;have la:aa<s1.heap.objs.size:=QV e;have sz:(s1.heap.push (revObj aa ((its.toArray.size:Int)-1))).objs.size=s1.heap.objs.size+1:=Zu ..;refine zk (s:={ s1 with heap:=s1.heap.push (revObj aa ((its.toArray.size:Int)-1)) }) (items:=its.toArray) (l:=aa) (I1.ok.hd hcm) (Qj la) ⟨_,QU _ rfl,rfl,rfl⟩ (Heap.IsList.at hL fun o g=>Q3 _ g) (by simp;omega) fun s' c' mv gl=>?_;obtain⟨h',g',d',tk,os'⟩:=s';obtain⟨mh,rfl,rfl,rfl,mt⟩:=mv;dsimp only at mh mt gl ⊢;rw[sz]at mh gl ⊢;have keep:∀b o,s1.heap.get? b=some o->h'.get? b=some o:=fun b o g=>mh b o (fun hb=>by
  have lt:=QV g;simp only[Qk,X9,or_false]at hb;rcases hb with hb|hb
  ·exact absurd hb (Qj (XW lt))
  ·exact absurd hb (Qj lt)) (Q3 _ (Q3 _ g))
 refine⟨.ref _,_,I1.laid (t':=tk) (o:=.lst xs.reverse) keep (XR _) ?_,rfl,q _ (I1.hok.fresh (XR _))⟩;refine⟨by simp;omega,_,c',lO r,?_⟩;rw[gl];simp
def jC(ca:CE):CE:=fun ρ S=>(ca ρ S).bind fun p=>match p.1 with
 |.ref l=>match p.2[l]? with
  |some (.lst us)=>some (.ref p.2.length,p.2++[.lst us.reverse])
  |_=>none
 |_=>none
theorem vb{p p2:Pos}{a:Expr}{ca:CE}(hcm:X.calm=true)(hgL:L2.Gl X "list")(hmL:X.mg "list"=none)(hg:L2.Gl X "reversed")(hm:X.mg "reversed"=none)(ha:QE X a ca)
  (hs:starEach [a] X.env=(false,eval a X.env)::starEach [] X.env:=by rfl) (hpl:(backTo pos2 (starEach [] X.env)).any (·.1)=false:=by rfl)
  (he:starEach [.Call (.Name "reversed" p2) [a] [] pos2] X.env=(false,eval (.Call (.Name "reversed" p2) [a] [] pos2) X.env)::starEach [] X.env:=by rfl) (hpl2:(backTo pos (starEach [] X.env)).any (·.1)=false:=by rfl) :
  QE X (.Call (.Name "list" p) [.Call (.Name "reversed" p2) [a] [] pos2] [] pos) (jC ca):=
 (px hcm hgL hmL hg hm (cK ha eQ hs) hs hpl he hpl2).imp fun σ H Q hz=>iF hz fun m ρ S u S' sr lr hc post=>by
  obtain⟨⟨x,S1⟩,h1,h⟩:=Q2.mp hc;refine⟨m,ρ,S,x,S1,sr,lr,h1,fun m1 v1 H1 e1 sr1 i1=>?_⟩;cases x with
  |ref l=>
   simp only at h;split at h<;>try cases h
   rename_i us hS;obtain⟨a1,ha1,rfl⟩:=i1.of_ref;obtain⟨a',ha',xs,hx,la⟩:=sr1.get hS;rw[ha1]at ha';cases ha';refine⟨a1,xs,rfl,hx,fun p hp=>?_⟩;have en:Ext X.K m1 H1 (m1++[p]) (upd H1 p (.lst xs.reverse)):=.new (bp hp _);exact post (m1++[p]) _ _ (e1.trans en) (sr1.new hp ⟨xs.reverse,aH,la.rev.mono en⟩) (.ref_ (cm sr1.len))
  |_=>cases h
end
end OP
namespace OP
open PySem PySem.Spec PyProof.Rows L2 OG
section
variable{P:Program}{w:World}{K:Q5}{h base:Heap}{mg:Str->Option Value}{x q:Str}{st:Stmt}{f:Addr}{oc:Value}{od an:Option Addr}{osl:Array (Option Value)}{kV doc pm cdv ct:Value}{ps:List Str}{k:Nat}{c:CS}
def Ku(K:Q5)(x q:Str)(st:Stmt)(f:Addr):Prop:=∃fd,Fun K x q st f fd
abbrev fAt(x q:Str)(st:Stmt)(oc:Value)(od an:Option Addr)(osl:Array (Option Value))(kV doc pm cdv ct:Value):Obj:=⟨oc,od,.func (PySem.W.fnOf x q (gD st) (dq st) (aF st) .none kV doc pm an cdv ct),osl⟩
noncomputable def G6(K:Q5)(x:Str)(st:Stmt):Prop:=∃f,PySem.W.nsIn K mainGlobals x=some (some (.ref f))/\Ku K x x st f
theorem Kn(a:PySem.W.nsIn K mainGlobals x=some (some (.ref f)))(l:K.lookup f=some (fAt x x st oc od an osl kV doc pm cdv ct))(c:PySem.W.codeIn K cdv x=true)(k:PySem.W.keepIn K (.ref f)=true):G6 K x st:=⟨f,a,_,GD l c k⟩
def G5(K:Q5):List (Str×Stmt)->Prop
 |[]=>True
 |(x,st)::r=>G6 K x st/\G5 K r
def DW(K:Q5):List Str->Prop
 |[]=>True
 |x::r=>PySem.W.nsIn K mainGlobals x=some none/\DW K r
abbrev Bd(x q:Str)(st:Stmt)(ps:List Str):Prop:=∀us:List Value,us.length=ps.length->∀(kV doc pm:Value) (an:Option Addr) (cdv ct:Value),bindArgs (PySem.W.fnOf x q (gD st) (dq st) (aF st) .none kV doc pm an cdv ct) ⟨us,[]⟩=pure (ps.zip us)
theorem G6.df(d:G6 K x st)(X:K.In h)(G:h.Ns mainGlobals mg)(b:Bd x x st ps:=by first|exact JW fun _ _ _ _ _ _=>rfl|(repeat (first|exact JW fun _ _ _ _ _ _=>rfl|refine Kr fun _=>?_))):Def K mg x st ps:=by
 obtain⟨f,a,fd,F⟩:=d;exact⟨f,fd,F,F.binds fun kV doc pm an cdv ct us hl=>b us hl kV doc pm an cdv ct,PySem.W.mg_of X G a⟩
noncomputable def JX:List Str:=["len","isinstance","int","bool","str","tuple","list","range","min","sum","all","zip","sorted","dict","enumerate","any","max","set"]
theorem DW.blt(z:DW K JX)(X:K.In h)(G:h.Ns mainGlobals mg):Blt mg:=by
 obtain⟨a,b,c,d,e,f,g,i,j,k,l,m,n,o,p,q,r,s,-⟩:=z;constructor<;>(refine PySem.W.mg_none_of X G ?_;assumption)
theorem Gd{sp:Sp}{fa:Addr}(d:G6 K "law" st)(X:K.In h)(G:h.Ns mainGlobals mg)(hfa:mg "law"=some (.ref fa))(ok:∀fd,Fun K "law" "law" st fa fd->∀base:Heap,o8 P w K mg base CX0 k fa fd ["script"] sp)
  (b:∀(kV doc pm:Value) (an:Option Addr) (cdv ct v:Value),bindArgs (PySem.W.fnOf "law" "law" (gD st) (dq st) (aF st) .none kV doc pm an cdv ct) ⟨[v],[]⟩=pure [(("script":Str),v)]:=by intros;rfl) :
  ∃fd:FuncData,(∀(s:Shared) (v:Value),BindsTo s fd ⟨[v],[]⟩ [("script",v)])/\∀base:Heap,K.In base->base.Ns mainGlobals mg->o8 P w K mg base CX0 k fa fd ["script"] sp:=by
 obtain⟨f,a,fd,F⟩:=d;cases hfa.symm.trans (PySem.W.mg_of X G a);refine⟨fd,fun s v=>?_,fun base _ _=>ok fd F base⟩;obtain⟨oc,od,kV,doc,pm,an,cdv,ct,osl,rfl,lk,hcd⟩:=F.ex;exact .of_eq (b kV doc pm an cdv ct v)
end
end OP
namespace OP
open PySem PySem.Spec PyProof PyProof.Rows L2 OG PySem.W
section
variable{prog:Program}{w:World}{A:Around}{E:Value->Shared->Prop}{s:Shared}
theorem pY{l:Addr}{vs:List Value}{Q:List Value->Shared->Prop}(ht:IsTup s.heap l vs.toArray)(hz:vs.length<=sizeLine)
  (q:Q vs { s with heap:=(s.heap.push (seqObj "list" #[] 0)).update s.heap.objs.size (Obj.mapSeq fun x=>x++vs.toArray) }):wpAny (model prog w) A (collect (.ref l)) Q E s:=by
 obtain⟨o,g,c,n,d⟩:=id ht;have g':(s.heap.push (seqObj "list" #[] 0)).get? l=some o:=Q3 _ g;have g0:(s.heap.push (seqObj "list" #[] 0)).get? s.heap.objs.size=some (seqObj "list" #[] 0):=QU _ rfl;unfold collect;refine Q0 (wpAny_runValue (codeAny_builtin entry_proto_collect' ?_));refine Q0 (m:=newList []) (wpAny_newList (Q6 ⟨Code.quiet_builtin _ (by decide +kernel),codeAny_builtin entry_list_iadd' ?_⟩));refine(show wpAny _ _ (Builtin.List.listExtendWith (.ref s.heap.objs.size) (.ref l) (.ref s.heap.objs.size)) _ _ { s with heap:=s.heap.push (seqObj "list" #[] 0) } from ?_);unfold Builtin.List.listExtendWith;refine Q0 (wpAny_typeOf (T:="tuple") ⟨o,g',c⟩ ?_);have tt:(Value.type "tuple" == Value.type "tuple")=true:=by rfl
 rw[if_pos (by rw[tt,Bool.or_true])];refine Q0 (listItems_at g' d (Q0 (listItems_at g0 rfl ?_)));rw[if_neg (by simp)];refine Q0 (listUpdate_at g0 rfl ?_ (Qi _) (by simp only[Array.size_append,QM,List.length_nil];omega));refine Q6 ?_;refine Q0 (m:=load s.heap.objs.size) (wpAny_load (get?_update_seq g0 fun x=>x++vs.toArray) ?_);dsimp only;have e:((#[]:Array Value)++vs.toArray).toList=vs:=by simp
 show wpAny _ _ (pure ((#[]:Array Value)++vs.toArray).toList) Q E _;rw[e];exact Q6 q
end
structure qk(mg:Str->Option Value):Prop extends Blt mg where
 reversed:mg "reversed"=none
def bltR:List Str:="reversed"::JX
theorem DW.bltR{K:Q5}{h:Heap}{mg:Str->Option Value}(z:DW K bltR)(X:K.In h)(G:h.Ns mainGlobals mg):qk mg:=⟨DW.blt z.2 X G,PySem.W.mg_none_of X G z.1⟩
theorem ku{prog:Program}{w:World}{A:Around}{E:Value->Shared->Prop}{s:Shared}{l:Addr}{vs:List Value}{ps:List (Int×Int)}{Q:Value->Shared->Prop}
  (ht:IsTup s.heap l vs.toArray) (hp:cI s.heap vs ps) (nd:ps.Nodup) (hz0:ps.length<=sizeLine)
  (k:∀q:Array Nat,D8 ps q->Q (Value.ref (s.heap.objs.size+1)) { s with heap:=sortedAll s.heap vs (q.toList.map fun i=>vs.getD i Value.none).toArray }) :
  wpAny (model prog w) A (call (Value.builtin "sorted") [Value.ref l]) Q E s:=by
 have hl:=dj hp;have hz:vs.length<=sizeLine:=by omega
 refine Calls.call_function_entry kind_sorted plain_sorted entry_sorted (args_sorted1 _) ?_;unfold Builtin.«sorted»;refine Q0 (m:=checkCount "sorted" 1 1 _) (Q6 (Q0 (pY ht hz (Q0 (wpAny_newList ?_ hz)))));have hsz:((s.heap.push (seqObj "list" #[] 0)).update s.heap.objs.size (Obj.mapSeq fun x=>x++vs.toArray)).objs.size=s.heap.objs.size+1:=by
  rw[XA,size_push']
 have gL:(((s.heap.push (seqObj "list" #[] 0)).update s.heap.objs.size (Obj.mapSeq fun x=>x++vs.toArray)).push (seqObj "list" vs.toArray 0)).get? (s.heap.objs.size+1)=some (seqObj "list" vs.toArray 0):=by
  rw[<-hsz];exact QU _ rfl
 have old:∀b o,s.heap.get? b=some o->(((s.heap.push (seqObj "list" #[] 0)).update s.heap.objs.size (Obj.mapSeq fun x=>x++vs.toArray)).push (seqObj "list" vs.toArray 0)).get? b=some o:=fun b o g=>by
  refine Q3 _ ?_;rw[Heap.get?_update_ne _ _ _ _ (Qj (QV g))];exact Q3 _ g
 show wpAny _ _ _ _ _ { s with heap:=((s.heap.push (seqObj "list" #[] 0)).update s.heap.objs.size (Obj.mapSeq fun x=>x++vs.toArray)).push (seqObj "list" vs.toArray 0) };rw[show Value.ref ((s.heap.push (seqObj "list" #[] 0)).update s.heap.objs.size (Obj.mapSeq fun x=>x++vs.toArray)).objs.size=Value.ref (s.heap.objs.size+1)from by rw[hsz]];refine Q0 (wpAny_holding (wpAny_call_entry slot_list_sort ⟨_,gL,rfl⟩ entry_list_sort (eL (n:=0) gL (fG (a:=s.heap.objs.size+1) (fun b o _ g=>old b o g) hp fun v hv=>fH hp v hv _ (by omega)) (fun v hv=>fH hp v hv _ (by omega)) nd hz0 fun q hq=>⟨_,rfl,?_⟩) (args_list_sort _)));exact Q6 ⟨_,rfl,k q hq⟩
def nG(K:Q5):List V->Hp->VK->Prop:=fun xs H Q=>∃(p:Addr) (ys:List V) (ps:List (Int×Int)),xs=[.ref p]/\SqT K H p ys/\PrL K H ys ps/\ps.Nodup/\ps.length<=sizeLine/\
 ∀(l:Addr) (q:Array Nat),H l=none->D8 ps q->Q (.ref l) (upd H l (.lst (q.toList.map fun i=>ys.getD i .non)))
theorem sZ{X:Cx}:bX X (.builtin "sorted") (nG X.K):=by
 rintro pins s σ H xs us Q I r ⟨p,ys,ps,rfl,hL,hp,nd,h64,q⟩;obtain⟨u,rfl,ru⟩:=eS r;cases ru;obtain⟨its,rv,pl,hz⟩:=I.tuple hL;have hlen:=jL hp;refine ku pl (qS I hp rv) nd h64 fun qa a1=>?_;obtain⟨e,ge⟩:=sortedAll_at s.heap its (qa.toList.map fun i=>its.getD i Value.none).toArray;have hf:=I.hok.fresh (XR s.heap.objs.size);have hq:qa.toList.length=ps.length:=by rw[QY,a1.1.sz]
 refine⟨.ref (s.heap.objs.size+1),_,I.laid (o:=.lst (qa.toList.map fun i=>ys.getD i .non)) (t':=s.toks) (fun b o e=>sortedAll_old e) (XR _) ⟨by rw[QX,hq];exact h64,_,e,gM rv qa.toList (by rw[hlen];exact dD a1.1),ge⟩,rfl,q _ qa hf a1⟩
open Classical in
def fh:Fn
 |[.tup us],S=>(jN us).bind fun ps=>if ps.Nodup/\ps.length<=9000 then some (.ref S.length,S++[.lst ((bt ps).map pP)])else none
 |_,_=>none
theorem sW{K:Q5}:gJ K (nG K) fh:=by
 intro m S H us vs u S' Q sr i hf post;match us,hf with
 |[.tup ws],hf=>
  obtain⟨v,rfl,iv⟩:=i.one;simp only[fh]at hf;obtain⟨ps,hn,h⟩:=Q2.mp hf;split at h<;>try cases h
  have hc:ps.Nodup/\ps.length<=9000:=by assumption
  obtain⟨a,xs,rfl,sq,la⟩:=iv.of_tup;rw[jM hn]at la;have pr:=vg la;refine⟨a,xs,ps,rfl,sq,pr,hc.1,Qu hc.2 (by decide),fun p q hp aq=>?_⟩;have il:=pI (m:=m) pr q.toList (dD aq.1);have e:(q.toList.map fun i=>pP (ps.getD i (0,0)))=(bt ps).map pP:=by rw[oW aq,Qe];rfl
  rw[e]at il;exact bA sr il post hp
end OP
namespace OQ
open PySem PySem.Spec PyProof.Rows L2 OG OP
def cZ:CS:=
 (bo (cG 3 (cOp tJ (cOp dS (cOp dS (cOp dS (cOp jZ (au 3) (au 3)) (cOp jZ (cC (.int 50021)) (au 3))) (cOp jZ (cC (.int 19)) (au 5))) (cC (.int 7))) (cC (.int 2147483563))))
  (cG 4 (cOp dS (cOp jZ (au 4) (cC (.int 2147483563))) (au 3))))
def cE:CS:=
 (bo (cG 2 (cOp dS (cOp jZ (cC (.int 5)) (au 1)) (cC (.int 3))))
  (bo (kG (aN (cOp fLt (au 1) (cCB jn (ag (au 0) aB)))) (cG 2 (cOp fIx (au 0) (au 1))) dM)
  (bo (kG (aN (cOp fEq (cOp tJ (au 2) (cC (.int 2))) (cC (.int 0)))) (iL (ki (ag (cOp A1 (au 2) (cC (.int 2))) aB))) dM)
  (bo (cG 3 (cOp tJ (cOp dS (cOp dS (cOp jZ (au 2) (cC (.int 30011))) (cOp jZ (cC (.int 977)) (au 1))) (cC (.int 41))) (cC (.int 2147483563))))
  (bo (cG 4 (cC (.int 0)))
  (bo (lI (bj (ag (cC (.int 60)) aB)) (gNm 5) (cZ ))
  (iL (ki (ag (au 4) aB)))))))))
theorem pS{a0 a1:U}{S:Sto}:fnU 6 2 (cE ) [a0,a1] S=((cE ) [some a0,some a1,none,none,none,none] S).bind kFn:=sy rfl
def dY:CS:=
 (bo (cG 2 (cOp tJ (cOp fIx (au 0) (cC (.int 0))) (au 1)))
  (bo (oM (au 0) (cC (.int 0)) (cOp A1 (cOp fIx (au 0) (cC (.int 0))) (au 1)))
  (iL (au 2))))
theorem tK{a0 a1:U}{S:Sto}:fnU 3 2 (dY ) [a0,a1] S=((dY ) [some a0,some a1,none] S).bind kFn:=sy rfl
def cQ:CS:=
 (iL (xf (D4 .int (au 0)) (zU (D4 .bool (au 0)))))
theorem oA{a0:U}{S:Sto}:fnU 1 1 (cQ ) [a0] S=((cQ ) [some a0] S).bind kFn:=sy rfl
def dQ(ao:Fn)(fuel:Nat):CS:=
 (bo (cG 4 (cCB ao (ag (au 0) (ag (cCB jn (ag (au 2) aB)) aB))))
  (fP (cBM cW (au 3) (ag (cBM lA (au 2) (ag (au 4) aB)) aB))))
def cT(ao:Fn)(fuel:Nat):CS:=
 (bo (cG 2 (bS (ag (au 1) aB)))
  (bo (cG 3 (ki aB))
  (bo (ck (aN (cOp (lC true) (au 2) (ki aB))) (dQ ao fuel) fuel)
  (iL (au 3)))))
theorem oD{ao:Fn}{fuel:Nat}{a0 a1:U}{S:Sto}:fnU 5 2 (cT ao fuel) [a0,a1] S=((cT ao fuel) [some a0,some a1,none,none,none] S).bind kFn:=sy rfl
def c6(ao aC:Fn):CS:=
 (bo (cG 6 (a6 (iTp (au 3)) (gNm 0) (aN (cOp fLt (cCB ao (ag (au 1) (ag (cC (.int 5)) aB))) (cC (.int 2)))) (au 0) 1 [0]))
  (fP (cBM cW (au 4) (ag (cCB eO (ag (cOp D2 (au 6) (cOp Dv (cC (.int 1)) (cOp jZ (cC (.int 2)) (cCB GI (ag (cOp fEq (cCB ao (ag (au 0) (ag (cC (.int 7)) aB))) (cC (.int 0))) aB))))) aB)) aB))))
def c0(ao aC:Fn):CS:=
 (bo (cG 9 (cCB ao (ag (au 0) (ag (au 2) aB))))
  (bo (cG 5 (cCB ao (ag (au 0) (ag (cCB jn (ag (au 4) aB)) aB))))
  (bo (cG 6 (cOp dS (ki (ag (xI (cC (.int 1))) aB)) (a6 (iTp (cOp fIx (au 4) (au 5))) (gNm 0) (aN (cOp fNe (au 0) (au 1))) (au 0) 1 [9])))
  (bo (cG 10 (cOp dS (ki (ag (xI (cC (.int 1))) aB)) (a6 (iTp (cSl (au 6) (some (cC (.int 1))) none)) (gNm 0) (aN (cOp fLt (cBM bx (au 2) (ag (au 0) aB)) (cBM bx (au 2) (ag (au 1) aB)))) (au 0) 1 [9,3])))
  (gE (au 7) (ag (au 9) (ag (au 5) aB)) (cOp fIx (ki (ag (cOp fIx (au 10) (xI (cC (.int 1)))) (ag (cOp fIx (au 6) (cCB ao (ag (au 0) (ag (cCB jn (ag (au 6) aB)) aB)))) aB))) (cCB GI (ag (cOp fEq (cCB ao (ag (au 0) (ag (cC (.int 5)) aB))) (cC (.int 0))) aB))))))))
def cx(ao aC:Fn):CS:=
 (bo (cG 9 (cCB ao (ag (au 0) (ag (au 2) aB))))
  (bo (cG 12 (cCB ao (ag (au 0) (ag (au 2) aB))))
  (kG (Hj (aN (cOp fNe (au 9) (au 12))) (cOr (aN (cOp fLt (cBM bx (au 3) (ag (au 9) aB)) (cBM bx (au 3) (ag (au 12) aB)))) (aN (cOp fEq (cCB ao (ag (au 0) (ag (cC (.int 6)) aB))) (cC (.int 0)))))) (gE (au 11) (ag (au 9) (ag (au 12) aB)) (cC (.bl true))) dM)))
def du(ao aC:Fn):CS:=
 (bo (cG 2 (cOp dS (cC (.int 1)) (cCB ao (ag (au 0) (ag (au 1) aB)))))
  (bo (cG 3 (cCB aC (ag (au 0) (ag (au 2) aB))))
  (bo (cG 4 (ki aB))
  (bo (lI (bj (ag (cOp dS (cC (.int 1)) (cCB ao (ag (au 0) (ag (cOp fIx (ki (ag (cC (.int 3)) (ag (cC (.int 3)) (ag (cC (.int 6)) aB)))) (cCB ao (ag (au 0) (ag (cC (.int 3)) aB)))) aB)))) aB)) (gNm 5) (c6 ao aC))
  (bo (cG 7 rW)
  (bo (lI (bj (ag (cCB ao (ag (au 0) (ag (cOp dS (cOp jZ (cC (.int 2)) (au 2)) (cC (.int 1))) aB))) aB)) (gNm 8) (c0 ao aC))
  (bo (cG 11 rW)
  (bo (lI (bj (ag (cCB ao (ag (au 0) (ag (cOp dS (au 2) (cC (.int 1))) aB))) aB)) (gNm 8) (cx ao aC))
  (iL (fk (ag (au 2) (ag (cCB eO (ag (cCB dE (ag (au 11) aB)) aB)) (ag (cCB eO (ag (au 4) aB)) (ag (cCB eO (ag (cCB dE (ag (rX (au 7) (gNm 0) (cOp dS (au 0) (fk (ag (cOp Dw (au 1) (au 0)) aB))) 1 [7]) aB)) aB)) aB))))))))))))))
theorem pT{ao aC:Fn}{a0 a1:U}{S:Sto}:fnU 13 2 (du ao aC) [a0,a1] S=((du ao aC) [some a0,some a1,none,none,none,none,none,none,none,none,none,none,none] S).bind kFn:=sy rfl
def bQ:CS:=
 (bo (cG 3 (cCB jj (ag (au 0) aB)))
  (bo (cG 4 (ki aB))
  (bo (kG (aN (cOp (fIn false) (au 2) (au 0))) (bo (cG 3 (cSl (au 3) (some (cOp dS (cBM bx (au 3) (ag (au 2) aB)) (cC (.int 1)))) none))
  (fP (cBM cW (au 4) (ag (fk (ag (au 2) (ag (au 1) aB))) aB)))) dM)
  (bo (kG (Hj (aN (cOp fGt (cCB jn (ag (au 3) aB)) (cC (.int 0)))) (aN (cOp fNe (cOp fIx (au 3) (cC (.int 0))) (au 1)))) (fP (cBM cW (au 4) (ag (fk (ag (au 1) (ag (cOp fIx (au 3) (cC (.int 0))) aB))) aB))) dM)
  (iL (au 4))))))
theorem j9{a0 a1 a2:U}{S:Sto}:fnU 5 3 (bQ ) [a0,a1,a2] S=((bQ ) [some a0,some a1,some a2,none,none] S).bind kFn:=sy rfl
def oT(aK:Fn):CS:=
 (fP (cBM cV (au 1) (ag (jB (au 2) (GR (au 2) (some (cC (.int 1))) none)) aB)))
def oS(aK:Fn):CS:=
 (fP (cBM cV (au 1) (ag (cCB aK (ag (cOp fIx (cOp fIx (au 0) (cC (.int 2))) (cOp fIx (au 3) (cC (.int 1)))) (ag (cOp fIx (au 3) (cC (.int 0))) (ag (cOp fIx (au 3) (cC (.int 2))) aB)))) aB)))
def kh(aK:Fn):CS:=
 (bo (cG 1 (cCB jj (ag (cOp fIx (au 0) (cC (.int 1))) aB)))
  (bo (lI (iTp (cOp fIx (au 0) (cC (.int 2)))) (gNm 2) (oT aK))
  (bo (lI (iTp (cOp fIx (au 0) (cC (.int 3)))) (gNm 3) (oS aK))
  (iL (dF (au 1))))))
theorem DD{aK:Fn}{a0:U}{S:Sto}:fnU 4 1 (kh aK) [a0] S=((kh aK) [some a0,none,none,none] S).bind kFn:=sy rfl
def fW:CS:=
 (fP (cBM cV (au 5) (ag (iI (bj (ag (cOp Dv (cCB jn (ag (au 6) aB)) (cC (.int 1))) aB)) (gNm 0) (fk (ag (cOp fIx (au 1) (au 0)) (ag (cOp fIx (au 1) (cOp dS (au 0) (cC (.int 1)))) aB))) 1 [6]) aB)))
def dP:CS:=
 (bo (kG (aN (cOp fGe (au 9) (cC (.int 0)))) (fP (cBM cW (au 5) (ag (fk (ag (au 9) (ag (au 7) aB))) aB))) dM)
  (bo (cG 10 (cCB jj (ag (cOp fIx (au 3) (au 8)) aB)))
  (bo (kG (aN (cOp fGe (au 9) (cC (.int 0)))) (cG 10 (cSl (au 10) (some (cOp dS (cBM bx (au 10) (ag (au 9) aB)) (cC (.int 1)))) none)) dM)
  (fP (cBM cV (au 5) (ag (a6 (iTp (cSl (au 10) none (some (cC (.int 1))))) (gNm 0) (aN (cOp fNe (au 0) (au 1))) (fk (ag (au 1) (ag (au 0) aB))) 1 [7]) aB))))))
def cS:CS:=
 (bo (D5 (au 0) (gTp [1,2,3,4]))
  (bo (cG 5 (cCB jj (ag (au 2) aB)))
  (bo (lI (iTp (au 3)) (gNm 6) (fW ))
  (bo (lI (iTp (au 4)) (gTp [7,8,9]) (dP ))
  (iL (dF (au 5)))))))
theorem oC{a0:U}{S:Sto}:fnU 11 1 (cS ) [a0] S=((cS ) [some a0,none,none,none,none,none,none,none,none,none,none] S).bind kFn:=sy rfl
def bY(dk:Fn):CS:=
 (oM (au 1) (au 2) (ki aB))
def cX(dk:Fn):CS:=
 (fP (cBM cW (cOp fIx (au 1) (au 4)) (ag (au 3) aB)))
def bV(dk:Fn):CS:=
 (bo (cG 1 DO)
  (bo (lI (bj (ag (cOp fIx (au 0) (cC (.int 0))) aB)) (gNm 2) (bY dk))
  (bo (lI (iTp (cCB dk (ag (au 0) aB))) (gTp [3,4]) (cX dk))
  (iL (au 1)))))
theorem kE{dk:Fn}{a0:U}{S:Sto}:fnU 5 1 (bV dk) [a0] S=((bV dk) [some a0,none,none,none,none] S).bind kFn:=sy rfl
def fV(fuel:Nat):CS:=
 (bo (cG 3 (cOp fIx (a6 (iTp (cOp fIx (au 0) (cOp fIx (au 2) (xI (cC (.int 1)))))) (gNm 0) (aN (cOp (fIn false) (au 0) (au 1))) (au 0) 1 [1]) (cC (.int 0))))
  (bo (kG (aN (cOp (fIn false) (au 3) (au 2))) (bo (cG 4 (cSl (au 2) (some (cBM bx (au 2) (ag (au 3) aB))) none))
  (iL (jC (au 4)))) dM)
  (fP (cBM cW (au 2) (ag (au 3) aB)))))
def cP(fuel:Nat):CS:=
 (bo (cG 2 (ki (ag (cOp fIx (au 1) (cC (.int 0))) aB)))
  (ck (aN (cC (.bl true))) (fV fuel) fuel))
theorem oz{fuel:Nat}{a0 a1:U}{S:Sto}:fnU 5 2 (cP fuel) [a0,a1] S=((cP fuel) [some a0,some a1,none,none,none] S).bind kFn:=sy rfl
def dZ(aM ba:Fn)(fuel:Nat):CS:=
 (bo (cG 4 (a6 (iTp (au 3)) (gNm 0) (DN (aN (cCB GJ (ag (iI (iTp (cOp fIx (au 2) (au 0))) (gNm 0) (cOp (fIn false) (au 0) (au 1)) 1 [1]) aB)))) (au 0) 1 [3,1]))
  (bo (kG (aN (cOp fEq (cCB jn (ag (au 4) aB)) (cC (.int 0)))) (iL (fk (ag (cC (.str "ring")) (ag (cCB ba (ag (au 1) (ag (au 3) aB))) aB)))) dM)
  (bo (fP (cBM cV (au 2) (ag (au 4) aB)))
  (cG 3 (a6 (iTp (au 3)) (gNm 0) (aN (cOp (fIn true) (au 0) (au 1))) (au 0) 1 [4])))))
def bP(aM ba:Fn)(fuel:Nat):CS:=
 (bo (cG 1 (cCB aM (ag (au 0) aB)))
  (bo (cG 2 (ki aB))
  (bo (cG 3 (cCB oy (ag (au 1) aB)))
  (bo (ck (aN (cOp fGt (cCB jn (ag (au 3) aB)) (cC (.int 0)))) (dZ aM ba fuel) fuel)
  (iL (fk (ag (cC (.str "order")) (ag (au 2) aB))))))))
theorem j8{aM ba:Fn}{fuel:Nat}{a0:U}{S:Sto}:fnU 5 1 (bP aM ba fuel) [a0] S=((bP aM ba fuel) [some a0,none,none,none,none] S).bind kFn:=sy rfl
def cR(bK bN:Fn):CS:=
 (bo (kG (cOr (DN (aN (D4 .tuple (au 1)))) (cOr (aN (cOp fNe (cCB jn (ag (au 1) aB)) (cC (.int 2)))) (DN (aN (D4 .list (cOp fIx (au 1) (cC (.int 1)))))))) (iL (cC (.bl false))) dM)
  (bo (cG 2 (cOp fIx (au 1) (cC (.int 1))))
  (bo (kG (cOr (DN (aN (cCB wF (ag (iI (iTp (au 2)) (gNm 0) (cCB bK (ag (au 0) aB)) 1 []) aB)))) (aN (cOp fNe (mQ (au 2)) (cCB jn (ag (au 2) aB))))) (iL (cC (.bl false))) dM)
  (bo (cG 3 (cCB bN (ag (au 0) aB)))
  (bo (kG (aN (cOp fEq (cOp fIx (au 1) (cC (.int 0))) (cC (.str "ring")))) (iL (xf (cOp fGt (cCB jn (ag (au 2) aB)) (cC (.int 1))) (cCB wF (ag (iI (bj (ag (cCB jn (ag (au 2) aB)) aB)) (gNm 0) (cOp (D3 false) (fk (ag (cOp fIx (au 2) (cOp Dv (au 0) (cC (.int 1)))) (ag (cOp fIx (au 2) (au 0)) aB))) (au 1)) 1 [3,2]) aB)))) dM)
  (bo (kG (cOr (aN (cOp fNe (cOp fIx (au 1) (cC (.int 0))) (cC (.str "order")))) (aN (cOp (lC true) (cCB fj (ag (au 2) aB)) (bS (ag (cOp fIx (au 0) (cC (.int 0))) aB))))) (iL (cC (.bl false))) dM)
  (iL (cCB wF (ag (iI (iTp (au 3)) (gTp [0,1]) (cOp fLt (cBM bx (au 2) (ag (au 0) aB)) (cBM bx (au 2) (ag (au 1) aB))) 2 [2]) aB)))))))))
theorem oB{bK bN:Fn}{a0 a1:U}{S:Sto}:fnU 4 2 (cR bK bN) [a0,a1] S=((cR bK bN) [some a0,some a1,none,none] S).bind kFn:=sy rfl
def cw(aC ao:Fn):CS:=
 (bo (D5 (au 1) (gTp [2,3,4,5]))
  (bo (cG 6 (cSl (cCB aC (ag (au 0) (ag (au 2) aB))) none (some (cOp dS (cC (.int 2)) (cCB ao (ag (au 0) (ag (cC (.int 4)) aB)))))))
  (bo (kG (aN (cOp fLt (cCB jn (ag (au 6) aB)) (cC (.int 2)))) (iL (au 1)) dM)
  (bo (cG 7 (iI (bj (ag (cCB jn (ag (au 6) aB)) aB)) (gNm 0) (fk (ag (cOp fIx (au 1) (cOp Dv (au 0) (cC (.int 1)))) (ag (cOp fIx (au 1) (au 0)) aB))) 1 [6]))
  (iL (fk (ag (au 2) (ag (cCB eO (ag (dF (cOp dS (cCB jj (ag (au 3) aB)) (au 7))) aB)) (ag (au 4) (ag (au 5) aB))))))))))
theorem mM{aC ao:Fn}{a0 a1:U}{S:Sto}:fnU 8 2 (cw aC ao) [a0,a1] S=((cw aC ao) [some a0,some a1,none,none,none,none,none,none] S).bind kFn:=sy rfl
end OQ
namespace OL
open PySem PySem.Spec PyProof.Rows L2 OG OP OQ
noncomputable def top(i:Nat):Stmt:=PySem.Challenge.pw_oneglance_k28_order_or_ring.main.body.getD i (.Pass ⟨0,0,0,0⟩)
abbrev pG:Stmt:=top 1
abbrev dg:Stmt:=top 2
abbrev c8:Stmt:=top 3
abbrev dH:Stmt:=top 4
abbrev eV:Stmt:=top 5
abbrev fY:Stmt:=top 7
abbrev iP:Stmt:=top 8
abbrev eW:Stmt:=top 9
abbrev fc:Stmt:=top 10
abbrev fZ:Stmt:=top 11
abbrev eY:Stmt:=top 12
abbrev eX:Stmt:=top 13
abbrev d9:Stmt:=top 14
abbrev Ce:Stmt:=top 15
section
variable{P:Program}{w:World}{K:Q5}{mg:Str->Option Value}{base:Heap}
theorem eI:br ["row","a","source","later","found"] ["row","a","source"] (aF dg):=⟨rfl,rfl,rfl,by decide +kernel,rfl,by decide +kernel,by decide +kernel⟩
theorem jW{k:Nat}(d:Def K mg "musts_of_look" dg ["row","a","source"])(B:qk mg):gG P w K mg base "musts_of_look" (k+1) ["row","a","source"] (fnU 5 3 (bQ )):=
 d.pure eI fun f cdv A outer s H E hr=>(by
  have hu:=iE hr;have nd:=eI.nd;exact(aw (aL (i:=3) nd rfl (by trivial) (bz cN nN rfl B.list OG.bW (ae (ah (wpv 0)) av)))
   (aw (aL (i:=4) nd rfl (by trivial) (g6 av))
   (aw (eP (Cq hu (ah (wpv 2)) (ah (wpv 0)) (by with_unfolding_all rfl)) (aw (aL (i:=3) nd rfl (by trivial) (DZ (ah (wpv 3)) (f6 (d5 dJ dI (et (ah (wpv 3)) (ae (ah (wpv 2)) av)) (aD ak))) gc))
   (aI (cD (eA (ah (wpv 4)) (ae (cg (ae (ah (wpv 2)) (ae (ah (wpv 1)) av))) av))))) cy)
   (aw (eP (Cp (Fl (bu C2 IJ (aP gq gk rfl B.len PySem.boot_len (ae (ah (wpv 3)) av)) (aD ak) (aT _)) (AH (bu nQ AJ (eK hu (ah (wpv 3)) (aD ak) (fun _ _=>rfl) (fun _ _=>rfl)) (ah (wpv 1)) (aT _))))) (aI (cD (eA (ah (wpv 4)) (ae (cg (ae (ah (wpv 1)) (ae (eK hu (ah (wpv 3)) (aD ak) (fun _ _=>rfl) (fun _ _=>rfl)) av))) av)))) cy)
   (aI (bI (ah (wpv 4)))))))))
theorem qG:br ["tale","found","row","look"] ["tale"] (aF pG):=⟨rfl,rfl,rfl,by decide +kernel,rfl,by decide +kernel,by decide +kernel⟩
theorem Dm{k:Nat}{aK:Fn}(d:Def K mg "musts" pG ["tale"])(B:qk mg)(dA:gG P w K mg base "musts_of_look" (k) ["row","a","source"] aK):gG P w K mg base "musts" (k+1) ["tale"] (fnU 4 1 (kh aK)):=
 d.pure qG fun f cdv A outer s H E hr=>(by
  have hu:=iE hr;have nd:=qG.nd;exact(aw (aL (i:=1) nd rfl (by trivial) (bz cN nN rfl B.list OG.bW (ae (eK hu (ah (wpv 0)) (aD ak) (fun _ _=>rfl) (fun _ _=>rfl)) av)))
   (aw (eJ PassesOwn.never rfl (dh (eK hu (ah (wpv 0)) (aD ak) (fun _ _=>rfl) (fun _ _=>rfl))) (aS (aA (i:=2) nd rfl (by trivial))) (aI (cD (g9 (ah (wpv 1)) (ae (va rfl rfl B.list rfl B.zip (ah (wpv 2)) (Im (ah (wpv 2)) (f6 (aD ak)) gc)) av)))))
   (aw (eJ PassesOwn.never rfl (dh (eK hu (ah (wpv 0)) (aD ak) (fun _ _=>rfl) (fun _ _=>rfl))) (aS (aA (i:=3) nd rfl (by trivial))) (aI (cD (g9 (ah (wpv 1)) (ae (aR dA hr rfl (ae (eK hu (eK hu (ah (wpv 0)) (aD ak) (fun _ _=>rfl) (fun _ _=>rfl)) (eK hu (ah (wpv 3)) (aD ak) (fun _ _=>rfl) (fun _ _=>rfl)) (fun _ _=>rfl) (fun _ _=>rfl)) (ae (eK hu (ah (wpv 3)) (aD ak) (fun _ _=>rfl) (fun _ _=>rfl)) (ae (eK hu (ah (wpv 3)) (aD ak) (fun _ _=>rfl) (fun _ _=>rfl)) av)))) av)))))
   (aI (bI (jK rfl hr.units rfl B.sorted rfl B.set (ah (wpv 1)))))))))
theorem eU:br ["tale","before","a","one","other"] ["tale"] (aF dH):=⟨rfl,rfl,rfl,by decide +kernel,rfl,by decide +kernel,by decide +kernel⟩
theorem kB{k:Nat}{dk:Fn}(d:Def K mg "those_before" dH ["tale"])(B:qk mg)(qj:gG P w K mg base "musts" (k) ["tale"] dk):gG P w K mg base "those_before" (k+1) ["tale"] (fnU 5 1 (bV dk)):=
 d.pure eU fun f cdv A outer s H E hr=>(by
  have hu:=iE hr;have nd:=eU.nd;exact(aw (aL (i:=1) nd rfl (by trivial) Fj)
   (aw (eJ PassesOwn.never rfl (bJ rfl B.range (ae (eK hu (ah (wpv 0)) (aD ak) (fun _ _=>rfl) (fun _ _=>rfl)) av)) (aS (aA (i:=2) nd rfl (by trivial))) (aI (qN hu (ah (wpv 1)) (ah (wpv 2)) (g6 av))))
   (aw (eJ PassesOwn.never rfl (dh (aR qj hr rfl (ae (ah (wpv 0)) av))) (kQ rfl (a8 (aA (i:=3) nd rfl (by trivial)) (a8 (aA (i:=4) nd rfl (by trivial)) iQ))) (aI (cD (eA (eK hu (ah (wpv 1)) (ah (wpv 4)) (fun _ _=>rfl) (fun _ _=>rfl)) (ae (ah (wpv 3)) av)))))
   (aI (bI (ah (wpv 1))))))))
theorem gP:br ["before","left","trail","back","ring"] ["before","left"] (aF eV):=⟨rfl,rfl,rfl,by decide +kernel,rfl,by decide +kernel,by decide +kernel⟩
theorem og{k:Nat}{fuel:Nat}(d:Def K mg "ring_among" eV ["before","left"])(B:qk mg):gG P w K mg base "ring_among" (k+1) ["before","left"] (fnU 5 2 (cP fuel)):=
 d.pure gP fun f cdv A outer s H E hr=>(by
  have hu:=iE hr;have nd:=gP.nd;exact(aw (aL (i:=2) nd rfl (by trivial) (g6 (ae (eK hu (ah (wpv 1)) (aD ak) (fun _ _=>rfl) (fun _ _=>rfl)) av)))
   (aI (mj fuel PassesOwn.never (kR (AF i8)) (aw (aL (i:=3) nd rfl (by trivial) (eK hu (fF (Nc:=["one","left"]) (tn:=["one"]) (capN:=["left"]) (caps:=[1]) rfl (dh (eK hu (ah (wpv 0)) (eK hu (ah (wpv 2)) (yB (aD ak)) (fun _ _=>rfl) (fun _ _=>rfl)) (fun _ _=>rfl) (fun _ _=>rfl))) (fun _ _ _=>(aS (aA (i:=0) (show(["one","left"]:List Str).Nodup by decide +kernel) rfl (by trivial)))) (fun _ _ _=>(Cq hu (ah (wpv 0)) (ah (wpv 1)) (by with_unfolding_all rfl))) (fun _ _ _=>(ah (wpv 0))) rfl rfl (by decide +kernel) (by decide +kernel) ⟨rfl,trivial⟩ rfl (.cons ⟨rfl,rfl,rfl,_,rfl⟩ .nil) rfl rfl) (aD ak) (fun _ _=>rfl) (fun _ _=>rfl)))
   (aw (eP (Cq hu (ah (wpv 3)) (ah (wpv 2)) (by with_unfolding_all rfl)) (aw (aL (i:=4) nd rfl (by trivial) (DZ (ah (wpv 2)) (f6 (et (ah (wpv 2)) (ae (ah (wpv 3)) av))) gc))
   (aI (bI (vb rfl rfl B.list rfl B.reversed (ah (wpv 4)))))) cy)
   (aI (cD (eA (ah (wpv 2)) (ae (ah (wpv 3)) av))))))))))
theorem eG:br ["tale","before","order","left","free"] ["tale"] (aF c8):=⟨rfl,rfl,rfl,by decide +kernel,rfl,by decide +kernel,by decide +kernel⟩
theorem jV{k:Nat}{aM ba:Fn}{fuel:Nat}(d:Def K mg "order_or_ring" c8 ["tale"])(B:qk mg)(dR:gG P w K mg base "those_before" (k) ["tale"] aM)(fA:gG P w K mg base "ring_among" (k) ["before","left"] ba):gG P w K mg base "order_or_ring" (k+1) ["tale"] (fnU 5 1 (bP aM ba fuel)):=
 d.pure eG fun f cdv A outer s H E hr=>(by
  have hu:=iE hr;have nd:=eG.nd;exact(aw (aL (i:=1) nd rfl (by trivial) (aR dR hr rfl (ae (ah (wpv 0)) av)))
   (aw (aL (i:=2) nd rfl (by trivial) (g6 av))
   (aw (aL (i:=3) nd rfl (by trivial) (bz (C6 rfl) CV rfl B.list OG.bW (ae (ah (wpv 1)) av)))
   (aw (mj fuel PassesOwn.never (bu C2 IJ (aP gq gk rfl B.len PySem.boot_len (ae (ah (wpv 3)) av)) (aD ak) (aT _)) (aw (aL (i:=4) nd rfl (by trivial) (fF (Nc:=["a","left","before"]) (tn:=["a"]) (capN:=["left","before"]) (caps:=[3,1]) rfl (dh (ah (wpv 3))) (fun _ _ _=>(aS (aA (i:=0) (show(["a","left","before"]:List Str).Nodup by decide +kernel) rfl (by trivial)))) (fun _ _ _=>(by exact(nJ (kR (aP (zS rfl) IK rfl B.any OG.z9 (ae (kS (Nc:=["one","left"]) (tn:=["one"]) (capN:=["left"]) (caps:=[1]) rfl (dh (eK hu (ah (wpv 2)) (ah (wpv 0)) (fun _ _=>rfl) (fun _ _=>rfl))) (fun _ _ _=>(aS (aA (i:=0) (show(["one","left"]:List Str).Nodup by decide +kernel) rfl (by trivial)))) (fun _ _ _=>(Kj hu (ah (wpv 0)) (ah (wpv 1)) (by with_unfolding_all rfl))) rfl rfl (by decide +kernel) (by decide +kernel) ⟨rfl,trivial⟩ rfl (.cons ⟨rfl,rfl,rfl,_,rfl⟩ .nil) rfl rfl) av)))))) (fun _ _ _=>(ah (wpv 0))) rfl rfl (by decide +kernel) (by decide +kernel) ⟨rfl,rfl,trivial⟩ rfl (.cons ⟨rfl,rfl,rfl,_,rfl⟩ (.cons ⟨rfl,rfl,rfl,_,rfl⟩ .nil)) rfl rfl))
   (aw (eP (bu pJ CY (aP gq gk rfl B.len PySem.boot_len (ae (ah (wpv 4)) av)) (aD ak) (aT _)) (aI (bI (cg (ae (pH fX) (ae (aR fA hr rfl (ae (ah (wpv 1)) (ae (ah (wpv 3)) av))) av))))) cy)
   (aw (cD (g9 (ah (wpv 2)) (ae (ah (wpv 4)) av)))
   (aI (aL (i:=3) nd rfl (by trivial) (fF (Nc:=["a","free"]) (tn:=["a"]) (capN:=["free"]) (caps:=[4]) rfl (dh (ah (wpv 3))) (fun _ _ _=>(aS (aA (i:=0) (show(["a","free"]:List Str).Nodup by decide +kernel) rfl (by trivial)))) (fun _ _ _=>(yA hu (ah (wpv 0)) (ah (wpv 1)) (by with_unfolding_all rfl))) (fun _ _ _=>(ah (wpv 0))) rfl rfl (by decide +kernel) (by decide +kernel) ⟨rfl,trivial⟩ rfl (.cons ⟨rfl,rfl,rfl,_,rfl⟩ .nil) rfl rfl)))))))
   (aI (bI (cg (ae (pH fX) (ae (ah (wpv 2)) av))))))))))
theorem i9:br ["script","k","number","stir","found","turn"] ["script","k"] (aF fY):=⟨rfl,rfl,rfl,by decide +kernel,rfl,by decide +kernel,by decide +kernel⟩
theorem pO{k:Nat}(d:Def K mg "_law_well" fY ["script","k"])(B:qk mg):gG P w K mg base "_law_well" (k+1) ["script","k"] (fnU 6 2 (cE )):=
 d.pure i9 fun f cdv A outer s H E hr=>(by
  have hu:=iE hr;have nd:=i9.nd;exact(aw (aL (i:=2) nd rfl (by trivial) (d5 dJ dI (d5 ig mr (aD ak) (ah (wpv 1))) (aD ak)))
   (aw (eP (bu sX D1 (ah (wpv 1)) (aP gq gk rfl B.len PySem.boot_len (ae (ah (wpv 0)) av)) (aT _)) (aI (aL (i:=2) nd rfl (by trivial) (eK hu (ah (wpv 0)) (ah (wpv 1)) (fun _ _=>rfl) (fun _ _=>rfl)))) cy)
   (aw (eP (bu pJ CY (d5 qX yZ (ah (wpv 2)) (aD ak)) (aD ak) (aT _)) (aI (bI (g6 (ae (d5 qY FR (ah (wpv 2)) (aD ak)) av)))) cy)
   (aw (aL (i:=3) nd rfl (by trivial) (d5 qX yZ (d5 dJ dI (d5 dJ dI (d5 ig mr (ah (wpv 2)) (aD ak)) (d5 ig mr (aD ak) (ah (wpv 1)))) (aD ak)) (aD ak)))
   (aw (aL (i:=4) nd rfl (by trivial) (aD ak))
   (aw (eJ PassesOwn.never rfl (bJ rfl B.range (ae (aD ak) av)) (aS (aA (i:=5) nd rfl (by trivial))) (aw (aL (i:=3) nd rfl (by trivial) (d5 qX yZ (d5 dJ dI (d5 dJ dI (d5 dJ dI (d5 ig mr (ah (wpv 3)) (ah (wpv 3))) (d5 ig mr (aD ak) (ah (wpv 3)))) (d5 ig mr (aD ak) (ah (wpv 5)))) (aD ak)) (aD ak)))
   (aI (aL (i:=4) nd rfl (by trivial) (d5 dJ dI (d5 ig mr (ah (wpv 4)) (aD ak)) (ah (wpv 3)))))))
   (aI (bI (g6 (ae (ah (wpv 4)) av)))))))))))
theorem jG:br ["well","many","digit"] ["well","many"] (aF iP):=⟨rfl,rfl,rfl,by decide +kernel,rfl,by decide +kernel,by decide +kernel⟩
theorem tD{k:Nat}(d:Def K mg "_law_sip" iP ["well","many"])(B:qk mg):gG P w K mg base "_law_sip" (k+1) ["well","many"] (fnU 3 2 (dY )):=
 d.pure jG fun f cdv A outer s H E hr=>(by
  have hu:=iE hr;have nd:=jG.nd;exact(aw (aL (i:=2) nd rfl (by trivial) (d5 qX yZ (eK hu (ah (wpv 0)) (aD ak) (fun _ _=>rfl) (fun _ _=>rfl)) (ah (wpv 1))))
   (aw (qN hu (ah (wpv 0)) (aD ak) (d5 qY FR (eK hu (ah (wpv 0)) (aD ak) (fun _ _=>rfl) (fun _ _=>rfl)) (ah (wpv 1))))
   (aI (bI (ah (wpv 2)))))))
theorem gQ:br ["thing"] ["thing"] (aF eW):=⟨rfl,rfl,rfl,by decide +kernel,rfl,by decide +kernel,by decide +kernel⟩
theorem oh{k:Nat}(d:Def K mg "_law_whole" eW ["thing"])(B:qk mg):gG P w K mg base "_law_whole" (k+1) ["thing"] (fnU 1 1 (cQ )):=
 d.pure gQ fun f cdv A outer s H E hr=>(by
  have hu:=iE hr;have nd:=gQ.nd;exact(aI (bI (AG (yD (T:=.int) (by intro z;cases z) (ah (wpv 0)) (qr rfl B.int OG.mS) rfl B.isinstance) (Fh (Fi (yD (T:=.bool) (by intro z;cases z) (ah (wpv 0)) (qr rfl B.bool OG.xg) rfl B.isinstance)))))))
theorem gU:br ["well","many","left","found","at"] ["well","many"] (aF fc):=⟨rfl,rfl,rfl,by decide +kernel,rfl,by decide +kernel,by decide +kernel⟩
theorem ox{k:Nat}{ao:Fn}{fuel:Nat}(d:Def K mg "_law_mixed" fc ["well","many"])(B:qk mg)(aE:gG P w K mg base "_law_sip" (k) ["well","many"] ao):gG P w K mg base "_law_mixed" (k+1) ["well","many"] (fnU 5 2 (cT ao fuel)):=
 d.pure gU fun f cdv A outer s H E hr=>(by
  have hu:=iE hr;have nd:=gU.nd;exact(aw (aL (i:=2) nd rfl (by trivial) (ej rfl rfl B.list rfl B.range (ae (ah (wpv 1)) av) rfl rfl))
   (aw (aL (i:=3) nd rfl (by trivial) (g6 av))
   (aw (mj fuel PassesOwn.never (bu (qW hr.units) vx (ah (wpv 2)) (g6 av) (aT _)) (aw (aL (i:=4) nd rfl (by trivial) (aR aE hr rfl (ae (ah (wpv 0)) (ae (aP gq gk rfl B.len PySem.boot_len (ae (ah (wpv 2)) av)) av))))
   (aI (cD (eA (ah (wpv 3)) (ae (Cr (ah (wpv 2)) (ae (ah (wpv 4)) av)) av))))))
   (aI (bI (ah (wpv 3))))))))
theorem ja:br ["well","most","many","hidden","writers","box","row","looks","k","a","earlier","times","b"] ["well","most"] (aF fZ):=⟨rfl,rfl,rfl,by decide +kernel,rfl,by decide +kernel,by decide +kernel⟩
theorem pQ{k:Nat}{ao aC:Fn}(d:Def K mg "_law_tale" fZ ["well","most"])(B:qk mg)(aE:gG P w K mg base "_law_sip" (k) ["well","many"] ao)(cf:gG P w K mg base "_law_mixed" (k) ["well","many"] aC):gG P w K mg base "_law_tale" (k+1) ["well","most"] (fnU 13 2 (du ao aC)):=
 d.pure ja fun f cdv A outer s H E hr=>(by
  have hu:=iE hr;have nd:=ja.nd;exact(aw (aL (i:=2) nd rfl (by trivial) (d5 dJ dI (aD ak) (aR aE hr rfl (ae (ah (wpv 0)) (ae (ah (wpv 1)) av)))))
   (aw (aL (i:=3) nd rfl (by trivial) (aR cf hr rfl (ae (ah (wpv 0)) (ae (ah (wpv 2)) av))))
   (aw (aL (i:=4) nd rfl (by trivial) (g6 av))
   (aw (eJ PassesOwn.never rfl (bJ rfl B.range (ae (d5 dJ dI (aD ak) (aR aE hr rfl (ae (ah (wpv 0)) (ae (eK hu (g6 (ae (aD ak) (ae (aD ak) (ae (aD ak) av)))) (aR aE hr rfl (ae (ah (wpv 0)) (ae (aD ak) av))) (fun _ _=>rfl) (fun _ _=>rfl)) av)))) av)) (aS (aA (i:=5) nd rfl (by trivial))) (aw (nI (Nc:=["a","well"]) (tn:=["a"]) (capN:=["well"]) (caps:=[0]) rfl (dh (ah (wpv 3))) (fun _ _ _=>(aS (aA (i:=0) (show(["a","well"]:List Str).Nodup by decide +kernel) rfl (by trivial)))) (fun _ _ _=>(bu sX D1 (aR aE hr rfl (ae (ah (wpv 1)) (ae (aD ak) av))) (aD ak) (aT _))) (fun _ _ _=>(ah (wpv 0))) rfl rfl (by decide +kernel) (by decide +kernel) ⟨rfl,trivial⟩ rfl (.cons ⟨rfl,rfl,rfl,_,rfl⟩ .nil) rfl rfl nd rfl rfl rfl)
   (aI (cD (eA (ah (wpv 4)) (ae (bz bD gh rfl B.tuple OG.b8 (ae (Io (ah (wpv 6)) (d5 qV yW (aD ak) (d5 ig mr (aD ak) (bz oK FQ rfl B.int OG.mS (ae (sS pJ CY (aR aE hr rfl (ae (ah (wpv 0)) (ae (aD ak) av))) (aD ak) (aT _)) av))))) av)) av))))))
   (aw (aL (i:=7) nd rfl (by trivial) vc)
   (aw (eJ PassesOwn.never rfl (bJ rfl B.range (ae (aR aE hr rfl (ae (ah (wpv 0)) (ae (d5 dJ dI (d5 ig mr (aD ak) (ah (wpv 2))) (aD ak)) av))) av)) (aS (aA (i:=8) nd rfl (by trivial))) (aw (aL (i:=9) nd rfl (by trivial) (aR aE hr rfl (ae (ah (wpv 0)) (ae (ah (wpv 2)) av))))
   (aw (aL (i:=5) nd rfl (by trivial) (aR aE hr rfl (ae (ah (wpv 0)) (ae (aP gq gk rfl B.len PySem.boot_len (ae (ah (wpv 4)) av)) av))))
   (aw (aL (i:=6) nd rfl (by trivial) (d5 dJ dI (g6 (ae (yB (aD ak)) av)) (fF (Nc:=["one","a"]) (tn:=["one"]) (capN:=["a"]) (caps:=[9]) rfl (dh (eK hu (ah (wpv 4)) (ah (wpv 5)) (fun _ _=>rfl) (fun _ _=>rfl))) (fun _ _ _=>(aS (aA (i:=0) (show(["one","a"]:List Str).Nodup by decide +kernel) rfl (by trivial)))) (fun _ _ _=>(bu nQ AJ (ah (wpv 0)) (ah (wpv 1)) (aT _))) (fun _ _ _=>(ah (wpv 0))) rfl rfl (by decide +kernel) (by decide +kernel) ⟨rfl,trivial⟩ rfl (.cons ⟨rfl,rfl,rfl,_,rfl⟩ .nil) rfl rfl)))
   (aw (aL (i:=10) nd rfl (by trivial) (d5 dJ dI (g6 (ae (yB (aD ak)) av)) (fF (Nc:=["one","a","hidden"]) (tn:=["one"]) (capN:=["a","hidden"]) (caps:=[9,3]) rfl (dh (DZ (ah (wpv 6)) (f6 (aD ak)) gc)) (fun _ _ _=>(aS (aA (i:=0) (show(["one","a","hidden"]:List Str).Nodup by decide +kernel) rfl (by trivial)))) (fun _ _ _=>(bu sX D1 (et (ah (wpv 2)) (ae (ah (wpv 0)) av)) (et (ah (wpv 2)) (ae (ah (wpv 1)) av)) (aT _))) (fun _ _ _=>(ah (wpv 0))) rfl rfl (by decide +kernel) (by decide +kernel) ⟨rfl,rfl,trivial⟩ rfl (.cons ⟨rfl,rfl,rfl,_,rfl⟩ (.cons ⟨rfl,rfl,rfl,_,rfl⟩ .nil)) rfl rfl)))
   (aI (nH hu (ah (wpv 7)) (ae (ah (wpv 9)) (ae (ah (wpv 5)) av)) (eK hu (g6 (ae (eK hu (ah (wpv 10)) (yB (aD ak)) (fun _ _=>rfl) (fun _ _=>rfl)) (ae (eK hu (ah (wpv 6)) (aR aE hr rfl (ae (ah (wpv 0)) (ae (aP gq gk rfl B.len PySem.boot_len (ae (ah (wpv 6)) av)) av))) (fun _ _=>rfl) (fun _ _=>rfl)) av))) (bz oK FQ rfl B.int OG.mS (ae (sS pJ CY (aR aE hr rfl (ae (ah (wpv 0)) (ae (aD ak) av))) (aD ak) (aT _)) av)) (fun _ _=>rfl) (fun _ _=>rfl)))))))))
   (aw (aL (i:=11) nd rfl (by trivial) vc)
   (aw (eJ PassesOwn.never rfl (bJ rfl B.range (ae (aR aE hr rfl (ae (ah (wpv 0)) (ae (d5 dJ dI (ah (wpv 2)) (aD ak)) av))) av)) (aS (aA (i:=8) nd rfl (by trivial))) (aw (aL (i:=9) nd rfl (by trivial) (aR aE hr rfl (ae (ah (wpv 0)) (ae (ah (wpv 2)) av))))
   (aw (aL (i:=12) nd rfl (by trivial) (aR aE hr rfl (ae (ah (wpv 0)) (ae (ah (wpv 2)) av))))
   (aI (eP (Cp (Fl (bu nQ AJ (ah (wpv 9)) (ah (wpv 12)) (aT _)) (AH (Cp (D0 (bu sX D1 (et (ah (wpv 3)) (ae (ah (wpv 9)) av)) (et (ah (wpv 3)) (ae (ah (wpv 12)) av)) (aT _)) (u7 (bu pJ CY (aR aE hr rfl (ae (ah (wpv 0)) (ae (aD ak) av))) (aD ak) (aT _)))))))) (aI (nH hu (ah (wpv 11)) (ae (ah (wpv 9)) (ae (ah (wpv 12)) av)) (AF i8))) cy)))))
   (aI (bI (cg (ae (ah (wpv 2)) (ae (bz bD gh rfl B.tuple OG.b8 (ae (aP (kX rfl) nM rfl B.sorted OG.cH (ae (ah (wpv 11)) av)) av)) (ae (bz bD gh rfl B.tuple OG.b8 (ae (ah (wpv 4)) av)) (ae (bz bD gh rfl B.tuple OG.b8 (ae (aP (kX rfl) nM rfl B.sorted OG.cH (ae (Cs (Nc:=["one","looks"]) (tn:=["one"]) (capN:=["looks"]) (caps:=[7]) rfl (ah (wpv 7)) (fun _ _ _=>(aS (aA (i:=0) (show(["one","looks"]:List Str).Nodup by decide +kernel) rfl (by trivial)))) (fun _ _ _=>(d5 dJ dI (ah (wpv 0)) (cg (ae (Ip hu (ah (wpv 1)) (ah (wpv 0)) (fun _ _=>rfl)) av)))) rfl rfl (by decide +kernel) (by decide +kernel) ⟨rfl,trivial⟩ rfl (.cons ⟨rfl,rfl,rfl,_,rfl⟩ .nil) rfl rfl) av)) av)) av))))))))))))))))
theorem gT:br ["tale","many","times","writers","looks","found","row","a","box","source","later"] ["tale"] (aF eY):=⟨rfl,rfl,rfl,by decide +kernel,rfl,by decide +kernel,by decide +kernel⟩
theorem om{k:Nat}(d:Def K mg "_law_musts" eY ["tale"])(B:qk mg):gG P w K mg base "_law_musts" (k+1) ["tale"] (fnU 11 1 (cS )):=
 d.pure gT fun f cdv A outer s H E hr=>(by
  have hu:=iE hr;have nd:=gT.nd;exact(aw (u6 (ah (wpv 0)) (kQ rfl (a8 (aA (i:=1) nd rfl (by trivial)) (a8 (aA (i:=2) nd rfl (by trivial)) (a8 (aA (i:=3) nd rfl (by trivial)) (a8 (aA (i:=4) nd rfl (by trivial)) iQ))))))
   (aw (aL (i:=5) nd rfl (by trivial) (bz cN nN rfl B.list OG.bW (ae (ah (wpv 2)) av)))
   (aw (eJ PassesOwn.never rfl (dh (ah (wpv 3))) (aS (aA (i:=6) nd rfl (by trivial))) (aI (cD (g9 (ah (wpv 5)) (ae (kS (Nc:=["k","row"]) (tn:=["k"]) (capN:=["row"]) (caps:=[6]) rfl (bJ rfl B.range (ae (d5 qV yW (aP gq gk rfl B.len PySem.boot_len (ae (ah (wpv 6)) av)) (aD ak)) av)) (fun _ _ _=>(aS (aA (i:=0) (show(["k","row"]:List Str).Nodup by decide +kernel) rfl (by trivial)))) (fun _ _ _=>(cg (ae (eK hu (ah (wpv 1)) (ah (wpv 0)) (fun _ _=>rfl) (fun _ _=>rfl)) (ae (eK hu (ah (wpv 1)) (d5 dJ dI (ah (wpv 0)) (aD ak)) (fun _ _=>rfl) (fun _ _=>rfl)) av)))) rfl rfl (by decide +kernel) (by decide +kernel) ⟨rfl,trivial⟩ rfl (.cons ⟨rfl,rfl,rfl,_,rfl⟩ .nil) rfl rfl) av)))))
   (aw (eJ PassesOwn.never rfl (dh (ah (wpv 4))) (kQ rfl (a8 (aA (i:=7) nd rfl (by trivial)) (a8 (aA (i:=8) nd rfl (by trivial)) (a8 (aA (i:=9) nd rfl (by trivial)) iQ)))) (aw (eP (bu FU JG (ah (wpv 9)) (aD ak) (aT _)) (aI (cD (eA (ah (wpv 5)) (ae (cg (ae (ah (wpv 9)) (ae (ah (wpv 7)) av))) av)))) cy)
   (aw (aL (i:=10) nd rfl (by trivial) (bz cN nN rfl B.list OG.bW (ae (eK hu (ah (wpv 3)) (ah (wpv 8)) (fun _ _=>rfl) (fun _ _=>rfl)) av)))
   (aw (eP (bu FU JG (ah (wpv 9)) (aD ak) (aT _)) (aI (aL (i:=10) nd rfl (by trivial) (DZ (ah (wpv 10)) (f6 (d5 dJ dI (et (ah (wpv 10)) (ae (ah (wpv 9)) av)) (aD ak))) gc))) cy)
   (aI (cD (g9 (ah (wpv 5)) (ae (fF (Nc:=["one","a"]) (tn:=["one"]) (capN:=["a"]) (caps:=[7]) rfl (dh (DZ (ah (wpv 10)) gc (f6 (aD ak)))) (fun _ _ _=>(aS (aA (i:=0) (show(["one","a"]:List Str).Nodup by decide +kernel) rfl (by trivial)))) (fun _ _ _=>(bu nQ AJ (ah (wpv 0)) (ah (wpv 1)) (aT _))) (fun _ _ _=>(cg (ae (ah (wpv 1)) (ae (ah (wpv 0)) av)))) rfl rfl (by decide +kernel) (by decide +kernel) ⟨rfl,trivial⟩ rfl (.cons ⟨rfl,rfl,rfl,_,rfl⟩ .nil) rfl rfl) av))))))))
   (aI (bI (jK rfl hr.units rfl B.sorted rfl B.set (ah (wpv 5))))))))))
theorem gR:br ["tale","found","some","known"] ["tale","found"] (aF eX):=⟨rfl,rfl,rfl,by decide +kernel,rfl,by decide +kernel,by decide +kernel⟩
theorem oj{k:Nat}{bK bN:Fn}(d:Def K mg "_law_right" eX ["tale","found"])(B:qk mg)(fB:gG P w K mg base "_law_whole" (k) ["thing"] bK)(fD:gG P w K mg base "_law_musts" (k) ["tale"] bN):gG P w K mg base "_law_right" (k+1) ["tale","found"] (fnU 4 2 (cR bK bN)):=
 d.pure gR fun f cdv A outer s H E hr=>(by
  have hu:=iE hr;have nd:=gR.nd;exact(aw (eP (Cp (D0 (nJ (kR (yD (T:=.tuple) (by intro z;cases z) (ah (wpv 1)) (qr rfl B.tuple OG.b8) rfl B.isinstance))) (D0 (bu nQ AJ (aP gq gk rfl B.len PySem.boot_len (ae (ah (wpv 1)) av)) (aD ak) (aT _)) (u7 (nJ (kR (yD (T:=.list) (by intro z;cases z) (eK hu (ah (wpv 1)) (aD ak) (fun _ _=>rfl) (fun _ _=>rfl)) (qr rfl B.list OG.bW) rfl B.isinstance))))))) (aI (bI (AF i8))) cy)
   (aw (aL (i:=2) nd rfl (by trivial) (eK hu (ah (wpv 1)) (aD ak) (fun _ _=>rfl) (fun _ _=>rfl)))
   (aw (eP (Cp (D0 (nJ (kR (aP (mP rfl) C0 rfl B.all OG.mU (ae (kS (Nc:=["one"]) (tn:=["one"]) (capN:=[]) (caps:=[]) rfl (dh (ah (wpv 2))) (fun _ _ _=>(aS (aA (i:=0) (show(["one"]:List Str).Nodup by decide +kernel) rfl (by trivial)))) (fun _ _ _=>(aR fB hr rfl (ae (ah (wpv 0)) av))) rfl rfl (by decide +kernel) (by decide +kernel) trivial rfl .nil rfl rfl) av)))) (u7 (bu nQ AJ (yC rfl rfl B.len rfl B.set (ah (wpv 2))) (aP gq gk rfl B.len PySem.boot_len (ae (ah (wpv 2)) av)) (aT _))))) (aI (bI (AF i8))) cy)
   (aw (aL (i:=3) nd rfl (by trivial) (aR fD hr rfl (ae (ah (wpv 0)) av)))
   (aw (eP (bu pJ CY (eK hu (ah (wpv 1)) (aD ak) (fun _ _=>rfl) (fun _ _=>rfl)) (pH fX) (aT _)) (aI (bI (AG (sS C2 IJ (aP gq gk rfl B.len PySem.boot_len (ae (ah (wpv 2)) av)) (aD ak) (aT _)) (Fh (aP (mP rfl) C0 rfl B.all OG.mU (ae (kS (Nc:=["k","known","some"]) (tn:=["k"]) (capN:=["known","some"]) (caps:=[3,2]) rfl (bJ rfl B.range (ae (aP gq gk rfl B.len PySem.boot_len (ae (ah (wpv 2)) av)) av)) (fun _ _ _=>(aS (aA (i:=0) (show(["k","known","some"]:List Str).Nodup by decide +kernel) rfl (by trivial)))) (fun _ _ _=>(sS (FT hr.units) IH (cg (ae (eK hu (ah (wpv 2)) (d5 qV yW (ah (wpv 0)) (aD ak)) (fun _ _=>rfl) (fun _ _=>rfl)) (ae (eK hu (ah (wpv 2)) (ah (wpv 0)) (fun _ _=>rfl) (fun _ _=>rfl)) av))) (ah (wpv 1)) (by with_unfolding_all rfl))) rfl rfl (by decide +kernel) (by decide +kernel) ⟨rfl,rfl,trivial⟩ rfl (.cons ⟨rfl,rfl,rfl,_,rfl⟩ (.cons ⟨rfl,rfl,rfl,_,rfl⟩ .nil)) rfl rfl) av)))))) cy)
   (aw (eP (Cp (D0 (bu nQ AJ (eK hu (ah (wpv 1)) (aD ak) (fun _ _=>rfl) (fun _ _=>rfl)) (pH fX) (aT _)) (u7 (bu (qW hr.units) vx (aP (q0 rfl) qU rfl B.sorted OG.cH (ae (ah (wpv 2)) av)) (ej rfl rfl B.list rfl B.range (ae (eK hu (ah (wpv 0)) (aD ak) (fun _ _=>rfl) (fun _ _=>rfl)) av) rfl rfl) (aT _))))) (aI (bI (AF i8))) cy)
   (aI (bI (aP (mP rfl) C0 rfl B.all OG.mU (ae (kS (Nc:=["one","other","some"]) (tn:=["one","other"]) (capN:=["some"]) (caps:=[2]) rfl (dh (ah (wpv 3))) (fun _ _ _=>(kQ rfl (a8 (aA (i:=0) (show(["one","other","some"]:List Str).Nodup by decide +kernel) rfl (by trivial)) (a8 (aA (i:=1) (show(["one","other","some"]:List Str).Nodup by decide +kernel) rfl (by trivial)) iQ)))) (fun _ _ _=>(sS sX D1 (et (ah (wpv 2)) (ae (ah (wpv 0)) av)) (et (ah (wpv 2)) (ae (ah (wpv 1)) av)) (aT _))) rfl rfl (by decide +kernel) (by decide +kernel) ⟨rfl,trivial⟩ rfl (.cons ⟨rfl,rfl,rfl,_,rfl⟩ .nil) rfl rfl) av)))))))))))
theorem fS:br ["well","tale","many","times","writers","looks","some","more"] ["well","tale"] (aF d9):=⟨rfl,rfl,rfl,by decide +kernel,rfl,by decide +kernel,by decide +kernel⟩
theorem mI{k:Nat}{aC ao:Fn}(d:Def K mg "_law_ringed" d9 ["well","tale"])(B:qk mg)(cf:gG P w K mg base "_law_mixed" (k) ["well","many"] aC)(aE:gG P w K mg base "_law_sip" (k) ["well","many"] ao):gG P w K mg base "_law_ringed" (k+1) ["well","tale"] (fnU 8 2 (cw aC ao)):=
 d.pure fS fun f cdv A outer s H E hr=>(by
  have hu:=iE hr;have nd:=fS.nd;exact(aw (u6 (ah (wpv 1)) (kQ rfl (a8 (aA (i:=2) nd rfl (by trivial)) (a8 (aA (i:=3) nd rfl (by trivial)) (a8 (aA (i:=4) nd rfl (by trivial)) (a8 (aA (i:=5) nd rfl (by trivial)) iQ))))))
   (aw (aL (i:=6) nd rfl (by trivial) (DZ (aR cf hr rfl (ae (ah (wpv 0)) (ae (ah (wpv 2)) av))) gc (f6 (d5 dJ dI (aD ak) (aR aE hr rfl (ae (ah (wpv 0)) (ae (aD ak) av)))))))
   (aw (eP (bu sX D1 (aP gq gk rfl B.len PySem.boot_len (ae (ah (wpv 6)) av)) (aD ak) (aT _)) (aI (bI (ah (wpv 1)))) cy)
   (aw (sR (Nc:=["k","some"]) (tn:=["k"]) (capN:=["some"]) (caps:=[6]) rfl (bJ rfl B.range (ae (aP gq gk rfl B.len PySem.boot_len (ae (ah (wpv 6)) av)) av)) (fun _ _ _=>(aS (aA (i:=0) (show(["k","some"]:List Str).Nodup by decide +kernel) rfl (by trivial)))) (fun _ _ _=>(cg (ae (eK hu (ah (wpv 1)) (d5 qV yW (ah (wpv 0)) (aD ak)) (fun _ _=>rfl) (fun _ _=>rfl)) (ae (eK hu (ah (wpv 1)) (ah (wpv 0)) (fun _ _=>rfl) (fun _ _=>rfl)) av)))) rfl rfl (by decide +kernel) (by decide +kernel) ⟨rfl,trivial⟩ rfl (.cons ⟨rfl,rfl,rfl,_,rfl⟩ .nil) rfl rfl nd rfl rfl rfl)
   (aI (bI (cg (ae (ah (wpv 2)) (ae (bz bD gh rfl B.tuple OG.b8 (ae (jK rfl hr.units rfl B.sorted rfl B.set (d5 dJ dI (bz cN nN rfl B.list OG.bW (ae (ah (wpv 3)) av)) (ah (wpv 7)))) av)) (ae (ah (wpv 4)) (ae (ah (wpv 5)) av))))))))))))
theorem Av:br ["script","k","well","tale","again","found","chain","word","some"] ["script"] (aF Ce):=⟨rfl,rfl,rfl,by decide +kernel,rfl,by decide +kernel,by decide +kernel⟩
def mX(bL bM ao bh aJ bw:Fn):CS:=
 (bo (cG 5 (cCB aJ (ag (au 3) aB)))
  (bo (kG (DN (aN (cCB bw (ag (au 3) (ag (au 5) aB))))) (iL (cC (.bl false))) dM)
  (fP (cBM lD (cOp fIx (au 5) (cC (.int 1))) aB))))
def qd(bL bM ao bh aJ bw:Fn):CS:=
 (bo (cG 2 (cCB bL (ag (au 0) (ag (au 1) aB))))
  (bo (cG 3 (cCB bM (ag (au 2) (ag (cC (.int 9)) aB))))
  (bo (kG (aN (cOp fEq (cCB ao (ag (au 2) (ag (cC (.int 4)) aB))) (cC (.int 0)))) (cG 3 (cCB bh (ag (au 2) (ag (au 3) aB)))) dM)
  (lI (bj (ag (cC (.int 2)) aB)) (gNm 4) (mX bL bM ao bh aJ bw)))))
def zT(bL bM ao bh aJ bw:Fn):CS:=
 (bo (lI (bj (ag (cCB Hi (ag (cC (.int 3)) (ag (cCB Hh (ag (cC (.int 12)) (ag (cCB jn (ag (au 0) aB)) aB))) aB))) aB)) (gNm 1) (qd bL bM ao bh aJ bw))
  (bo (cG 6 (cCB eO (ag (iI (bj (ag (cC (.int 29)) aB)) (gNm 0) (fk (ag (au 0) (ag (cOp dS (au 0) (cC (.int 1))) aB))) 1 []) aB)))
  (bo (kG (aN (cOp (lC true) (cCB aJ (ag (fk (ag (cC (.int 30)) (ag (au 6) (ag (fk (ag (fk aB) aB)) (ag (fk aB) aB))))) aB)) (fk (ag (cC (.str "order")) (ag (bS (ag (cC (.int 30)) aB)) aB))))) (iL (cC (.bl false))) dM)
  (bo (D5 (cCB aJ (ag (fk (ag (cC (.int 30)) (ag (cCB eO (ag (cCB fh (ag (cOp dS (au 6) (fk (ag (fk (ag (cC (.int 29)) (ag (cC (.int 0)) aB))) aB))) aB)) aB)) (ag (fk (ag (fk aB) aB)) (ag (fk aB) aB))))) aB)) (gTp [7,8]))
  (bo (kG (cOr (aN (cOp fNe (au 7) (cC (.str "ring")))) (aN (cOp (lC true) (cCB fj (ag (au 8) aB)) (bS (ag (cC (.int 30)) aB))))) (iL (cC (.bl false))) dM)
  (iL (cOp (lC false) (cCB aJ (ag (fk (ag (cC (.int 1)) (ag (fk aB) (ag (fk (ag (fk aB) aB)) (ag (fk aB) aB))))) aB)) (fk (ag (cC (.str "order")) (ag (ki (ag (cC (.int 0)) aB)) aB))))))))))
theorem Jd{k:Nat}{bL bM ao bh aJ bw:Fn}{fa:Addr}{fd:FuncData}(F:Fun K "law" "law" Ce fa fd)(B:qk mg)(gH:gG P w K mg base "_law_well" (k) ["script","k"] bL)(gI:gG P w K mg base "_law_tale" (k) ["well","most"] bM)(aE:gG P w K mg base "_law_sip" (k) ["well","many"] ao)(eD:gG P w K mg base "_law_ringed" (k) ["well","tale"] bh)(bq:gG P w K mg base "order_or_ring" (k) ["tale"] aJ)(fC:gG P w K mg base "_law_right" (k) ["tale","found"] bw)
  (ok:∀(ns:List Int),ns.length<=63->∃ρ' S',zT bL bM ao bh aJ bw [some (.kl ns),none,none,none,none,none,none,none,none] []=some (.rt (.bl true),ρ',S')):o8 P w K mg base CX0 (k+1) fa fd ["script"] (qC K):=by
 refine Fun.okW F Av (fun vs H Q E h=>(by obtain⟨a,ns,rfl,_⟩:=h;rfl)) fun cdv A outer s H vs Q E hr h=>?_;obtain⟨a,ns,rfl,hS,hlen,q⟩:=h;have hu:=iE hr;have nd:=Av.nd;exact⟨_,(aw (eJ PassesOwn.never rfl (bJ rfl B.range (ae (aP (wZ rfl) IG rfl B.max OG.zZ (ae (aD ak) (ae (aP (wY rfl) IF rfl B.min OG.zY (ae (aD ak) (ae (aP gq gk rfl B.len PySem.boot_len (ae (ah (wpv 0)) av)) av))) av))) av)) (aS (aA (i:=1) nd rfl (by trivial))) (aw (aL (i:=2) nd rfl (by trivial) (aR gH hr rfl (ae (ah (wpv 0)) (ae (ah (wpv 1)) av))))
   (aw (aL (i:=3) nd rfl (by trivial) (aR gI hr rfl (ae (ah (wpv 2)) (ae (aD ak) av))))
   (aw (eP (bu pJ CY (aR aE hr rfl (ae (ah (wpv 2)) (ae (aD ak) av))) (aD ak) (aT _)) (aI (aL (i:=3) nd rfl (by trivial) (aR eD hr rfl (ae (ah (wpv 2)) (ae (ah (wpv 3)) av))))) cy)
   (aI (eJ PassesOwn.never rfl (bJ rfl B.range (ae (aD ak) av)) (aS (aA (i:=4) nd rfl (by trivial))) (aw (aL (i:=5) nd rfl (by trivial) (aR bq hr rfl (ae (ah (wpv 3)) av)))
   (aw (eP (nJ (kR (aR fC hr rfl (ae (ah (wpv 3)) (ae (ah (wpv 5)) av))))) (aI (bI (AF i8))) cy)
   (aI (cD (Ct (eK hu (ah (wpv 5)) (aD ak) (fun _ _=>rfl) (fun _ _=>rfl)))))))))))))
   (aw (aL (i:=6) nd rfl (by trivial) (bz bD gh rfl B.tuple OG.b8 (ae (kS (Nc:=["a"]) (tn:=["a"]) (capN:=[]) (caps:=[]) rfl (bJ rfl B.range (ae (aD ak) av)) (fun _ _ _=>(aS (aA (i:=0) (show(["a"]:List Str).Nodup by decide +kernel) rfl (by trivial)))) (fun _ _ _=>(cg (ae (ah (wpv 0)) (ae (d5 dJ dI (ah (wpv 0)) (aD ak)) av)))) rfl rfl (by decide +kernel) (by decide +kernel) trivial rfl .nil rfl rfl) av)))
   (aw (eP (bu (qW hr.units) vx (aR bq hr rfl (ae (cg (ae (aD ak) (ae (ah (wpv 6)) (ae (cg (ae (cg av) av)) (ae (cg av) av))))) av)) (cg (ae (pH fX) (ae (ej rfl rfl B.list rfl B.range (ae (aD ak) av) rfl rfl) av))) (aT _)) (aI (bI (AF i8))) cy)
   (aw (u6 (aR bq hr rfl (ae (cg (ae (aD ak) (ae (bz bD gh rfl B.tuple OG.b8 (ae (aP sZ sW rfl B.sorted OG.cH (ae (d5 dJ dI (ah (wpv 6)) (cg (ae (cg (ae (aD ak) (ae (aD ak) av))) av))) av)) av)) (ae (cg (ae (cg av) av)) (ae (cg av) av))))) av)) (kQ rfl (a8 (aA (i:=7) nd rfl (by trivial)) (a8 (aA (i:=8) nd rfl (by trivial)) iQ))))
   (aw (eP (Cp (D0 (bu nQ AJ (ah (wpv 7)) (pH fX) (aT _)) (u7 (bu (qW hr.units) vx (aP (q0 rfl) qU rfl B.sorted OG.cH (ae (ah (wpv 8)) av)) (ej rfl rfl B.list rfl B.range (ae (aD ak) av) rfl rfl) (aT _))))) (aI (bI (AF i8))) cy)
   (aI (bI (sS (FV hr.units) vx (aR bq hr rfl (ae (cg (ae (aD ak) (ae (cg av) (ae (cg (ae (cg av) av)) (ae (cg av) av))))) av)) (cg (ae (pH fX) (ae (g6 (ae (aD ak) av)) av))) (aT _))))))))),zm hS (ok ns hlen) q⟩
end
end OL
local macro_rules
 | `(tactic| rwa $s:rwRuleSeq) => do
  let ts : Array (Lean.TSyntax `term) := s.raw[1].getSepArgs.map fun r => ⟨r[1]⟩
  let us : Array (Lean.TSyntax `term) := (("Bm tY x_c Hy Bp Bo qo pd HU EE ED J1 Hx Hw Em El EC BB BA Ek Bq Br qp ph pf Ho Ed HC En G8 Bz HG Eu Ak tZ ng Ei Eh Eg Ex By Hv Ej Bx ub ua sx kH HR EB EA HI HH EG EF J0 Hu Ht Hs Hr HD Et HE Bw Ef Ee Am Ep Er Eo BC Hq HB J2 J3 HM HA HL Hz HK HJ at0 at1 at2 at3 ix0 ix1 ix2 Option.bind_some List.getElem?_cons_zero List.getElem?_cons_succ List.set_cons_zero List.set_cons_succ List.length_cons List.length_nil List.map_cons List.map_nil decide_true decide_false Bool.not_true Bool.not_false Es J4 HQ HP HN HS Ey Ea Eb Ec Bt Bu Bv Ew ga ga0 gs gs0 Option.join_some Nat.add_zero List.cons_append List.nil_append List.append_assoc" : String).splitOn " ").toArray.map fun x => ⟨(Lean.mkIdent ((x.splitOn ".").foldl Lean.Name.str Lean.Name.anonymous)).raw⟩
  let vs:=ts++us
  `(tactic| simp only [$[$vs:term],*])
namespace OQ
open PySem PySem.Spec PyProof.Rows L2 OG OP
theorem l9{m:Int}(h0:0<=m)(h:m<2^60):m.natAbs.log2<9000:=vS h0 h
theorem rq{κ α:Type}[DecidableEq κ](ps:List (κ×α))(b:κ)(v:α):(jc ps b v).length<=ps.length+1:=by
 unfold jc;split<;>simp
theorem vL{α:Type}{l:List α}{k:Nat}{x:α}(h:l[k]?=some x):k<l.length:=(Q7.mp h).1
theorem ax{α:Type}{l r:List α}{k:Nat}{x:α}(h:l[k]?=some x):(l++r)[k]?=some x:=by rw[QD (vL h)];exact h
theorem inI(b:Int):∀l:List Int,inU (.int b) (l.map U.int)=decide (b∈l)
 |[]=>by simp[inU]
 |x::r=>by
  have ih:=inI b r;unfold inU at ih ⊢;rw[Qx,XH,ih,show eqF (.int x) (.int b)=(x == b)from rfl];by_cases e:x=b
  ·subst e;simp
  ·have:(x == b)=false:=by simpa using e
   rw[this];simp[Ne.symm e]
theorem Jf(l:List Int):(l.map U.int).all iX=true:=by
 induction l with
 |nil=>rfl
 |cons x r ih=>rw[Qx,List.all_cons,ih];rfl
theorem lF{ok:Sto->Prop}{g:CG}{ct:CT}{ce:CE}{l:Nat}{ρ:Rho}{S:Sto}(h:ok S):bO ok g ct ce l [] ρ S=some S:=by rw[bO,if_pos h]
theorem oI{ok:Sto->Prop}{g:CG}{ct:CT}{ce:CE}{l:Nat}{ρ ρ0:Rho}{S S0 S1:Sto}{u:U}{us:List U}(h:ok S)(hg:g u ρ S=some (ρ0,S0))(ht:ct ρ0 S0=some (false,S1)):bO ok g ct ce l (u::us) ρ S=bO ok g ct ce l us ρ0 S1:=by
 rw[bO,if_pos h,hg,QQ,ht,QQ,if_neg Qq]
theorem lE{ok:Sto->Prop}{g:CG}{ct:CT}{ce:CE}{l:Nat}{ρ ρ0:Rho}{S S0 S1 S2:Sto}{u x:U}{us ys:List U}(h:ok S)(hg:g u ρ S=some (ρ0,S0))(ht:ct ρ0 S0=some (true,S1))(he:ce ρ0 S1=some (x,S2))(hl:S2[l]?=some (.lst ys))(hn:ys.length<LIM) :
  bO ok g ct ce l (u::us) ρ S=bO ok g ct ce l us ρ0 (S2.set l (.lst (ys++[x]))):=by
 rw[bO,if_pos h,hg,QQ,ht,QQ,if_pos rfl,he,QQ];simp only[hl,hn,if_true]
def Lay(k:Nat)(S:Sto)(u:U):Prop:=∃d,Dt S u d/\d.canLay0=true/\d.depth<=k
def ft(k:Nat)(S:Sto)(u v:U):Prop:=∃d,Dt S u d/\Dt S v d/\d.canLay0=true/\d.depth<=k
def fq(k:Nat)(S:Sto)(us vs:List U):Prop:=∃ds,DtL S us ds/\DtL S vs ds/\PyData.canLayAll0 ds=true/\PyData.depthAll ds<=k
variable{S:Sto}{u:U}{us vs:List U}
section
variable{k:Nat}{v:U}
theorem Lay.int{i:Int}:Lay k S (.int i):=⟨_,.int i,rfl,Qi _⟩
theorem Lay.str{x:Str}(h:PyData.strOk x=true):Lay k S (.str x):=⟨_,.str x,h,Qi _⟩
theorem ft.refl(h:Lay k S u):ft k S u u:=by obtain⟨d,a,b,c⟩:=h;exact⟨d,a,a,b,c⟩
theorem fq.nil:fq k S [] []:=⟨[],.nil,.nil,rfl,Qi _⟩
theorem fq.cons(h:ft k S u v)(t:fq k S us vs):fq k S (u::us) (v::vs):=by
 obtain⟨d,a,b,c,e⟩:=h;obtain⟨ds,a',b',c',e'⟩:=t;refine⟨d::ds,.cons a a',.cons b b',by unfold PyData.canLayAll0;rw[c,c'];rfl,?_⟩;unfold PyData.depthAll;exact Nat.max_le.mpr ⟨e,e'⟩
theorem fq.all:∀{us:List U},(∀u∈us,Lay k S u)->fq k S us us
 |[],_=>.nil
 |u::us,h=>.cons (.refl (h u QB)) (fq.all fun x hx=>h x (QF _ hx))
theorem ft.tup(h:fq k S us vs):ft (k+1) S (.tup us) (.tup vs):=by
 obtain⟨ds,a,b,c,e⟩:=h;refine⟨.tuple ds,.tup a,.tup b,by unfold PyData.canLay0;exact c,?_⟩;unfold PyData.depth;omega
theorem ft.lst{l l':Nat}(h1:S[l]?=some (.lst us))(h2:S[l']?=some (.lst vs))(h:fq k S us vs):ft (k+1) S (.ref l) (.ref l'):=by
 obtain⟨ds,a,b,c,e⟩:=h;refine⟨.list ds,.lst h1 a,.lst h2 b,by unfold PyData.canLay0;exact c,?_⟩;unfold PyData.depth;omega
theorem ft.eq(h:ft k S u v)(hk:k<=60):lC false u v S=some (.bl true,S):=by
 obtain⟨d,a,b,c,e⟩:=h;exact j6 false (.inl ⟨d,d,a,b,⟨c,Qu e hk⟩,⟨c,Qu e hk⟩,(SeqAt.eqv_refl d c).symm⟩)
theorem ft.ne(h:ft k S u v)(hk:k<=60):lC true u v S=some (.bl false,S):=by
 obtain⟨d,a,b,c,e⟩:=h;exact j6 true (.inl ⟨d,d,a,b,⟨c,Qu e hk⟩,⟨c,Qu e hk⟩,(SeqAt.eqv_refl d c).symm⟩)
end
variable{l:Nat}
section
variable{l':Nat}{i:Int}
def rE(l:Nat)(i:Int)(S:Sto):Option O->Option (U×Sto)
 |some (.lst us)=>if 0<=i/\i<us.length/\us.length<=LIM then(us[i.toNat]?).bind fun u=>some (u,S.set l (.lst (us.eraseIdx i.toNat)))else none
 |_=>none
theorem Bn:lA (.ref l) [.int i] S=rE l i S S[l]?:=by
 unfold lA rE;rfl
theorem xS(h0:0<=i)(h1:i<us.length)(hL:us.length<=LIM)(hu:us[i.toNat]?=some u):rE l i S (some (.lst us))=some (u,S.set l (.lst (us.eraseIdx i.toNat))):=by
 simp only[rE];rw[if_pos ⟨h0,h1,hL⟩,hu,QQ]
def kNg:U×Sto->Option (U×Sto)
 |(.int i,S)=>some (.int (-i),S)
 |_=>none
theorem t4{ca:CE}{ρ:Rho}:xI ca ρ S=(ca ρ S).bind kNg:=by
 unfold xI;congr 1;funext p;obtain⟨x,S⟩:=p;cases x<;>rfl
theorem nh:kNg (.int i,S)=some (.int (-i),S):=rfl
theorem xn{vs:List U}:atI (vs++[u]) (-1)=some u:=by
 unfold atI ixN;rw[if_neg (by omega),if_pos (by rw[QZ,Qo];omega)];simp only[QQ];have e:((-1:Int)+((vs++[u]).length:Int)).toNat=vs.length:=by rw[QZ,Qo];omega
 rw[e];simp
theorem F1(neg:Bool)(h:S[l]?=some (.lst us))(h':S[l']?=some (.lst [])):lC neg (.ref l) (.ref l') S=some (.bl (if neg then !decide (us=[])else decide (us=[])),S):=by
 by_cases e:us=[]
 ·subst e;have k:=(ft.lst (k:=0) h h' .nil);obtain⟨d,a,b,c,e⟩:=k;rw[decide_eq_true rfl];exact j6 neg (.inl ⟨d,d,a,b,⟨c,Qu e (by omega)⟩,⟨c,Qu e (by omega)⟩,(SeqAt.eqv_refl d c).symm⟩)
 ·rw[decide_eq_false e];exact j6 neg (.inr ⟨l,l',us,[],rfl,rfl,h,h',by simpa using e,rfl⟩)
end
theorem vJ{α β:Type}(f:α->β)(l:List α)(k:Nat):(l.eraseIdx k).map f=(l.map f).eraseIdx k:=by
 rw[List.eraseIdx_eq_take_drop_succ,List.eraseIdx_eq_take_drop_succ,Qt,List.map_take,List.map_drop]
theorem jJ(n:Nat):bH 0 n=((Qz n).map fun i:Nat=>(i:Int)).map U.int:=by
 unfold bH;rw[Qe];refine XE fun i _=>?_;simp
inductive Ev where
 |beg (a:Int)|look (a b x:Int)|put (a b x:Int)|fin (d:Bool) (a:Int)
structure Att where
 en:Option Bool
 lk:List (Int×Int)
 nd:List (Int×Int)
 ps:List (Int×Int)
 bf:List Int
abbrev St:=List (Int×Att)
theorem yG{κ α:Type}[DecidableEq κ]{ps:List (κ×α)}{k:κ}{v:α}(h:k∉ps.map (·.1)):jc ps k v=ps++[(k,v)]:=by
 unfold jc;rw[if_neg];simp only[List.any_eq_true,decide_eq_true_eq,not_exists,not_and];intro p hp e;exact h (Qc.mpr ⟨p,hp,e⟩)
theorem dX{α:Type}{ok:Sto->Prop}{gg:CG}{ct:CT}{ce:CE}{S:Sto}{f:α->U}{p:α->Bool}{v:α->U}{Rel:Rho->Prop}(hok:∀ys G,ok (S++(.lst ys::G))) :
  ∀(xs:List α) (ys:List U) (G:Sto) (ρ:Rho),Rel ρ->ys.length+xs.length<=9999->
  (∀x∈xs,∀ys G ρ,Rel ρ->∃ρ0 G1,Rel ρ0/\gg (f x) ρ (S++(.lst ys::G))=some (ρ0,S++(.lst ys::G))/\ct ρ0 (S++(.lst ys::G))=some (p x,S++(.lst ys::(G++G1)))/\
   (p x=true->∃G2,ce ρ0 (S++(.lst ys::(G++G1)))=some (v x,S++(.lst ys::(G++G1++G2)))))->
  ∃G',bO ok gg ct ce S.length (xs.map f) ρ (S++(.lst ys::G))=some (S++(.lst (ys++(xs.filter p).map v)::(G++G')))
 |[],ys,G,ρ,_,_,_=>⟨[],by simp only[XU,List.filter_nil,Qn];exact lF (hok ys G)⟩
 |x::xs,ys,G,ρ,hr,hl,hb=>by
  rw[QH]at hl;obtain⟨ρ0,G1,r0,h1,h2,h3⟩:=hb x QB ys G ρ hr;have hb':=fun x (hx:x∈xs)=>hb x (QF _ hx);cases hp:p x with
  |false=>
   rw[hp]at h2;obtain⟨G',h⟩:=dX hok xs ys (G++G1) ρ0 r0 (by omega) hb';refine⟨G1++G',?_⟩;rw[Qx,List.filter_cons_of_neg (by simp[hp])];refine(oI (hok ys G) h1 h2).trans ?_;rw[h,Q8]
  |true=>
   rw[hp]at h2;obtain⟨G2,h4⟩:=h3 hp;obtain⟨G',h⟩:=dX hok xs (ys++[v x]) (G++G1++G2) ρ0 r0 (by simp;omega) hb';refine⟨G1++(G2++G'),?_⟩;rw[Qx,List.filter_cons_of_pos hp];refine(lE (hok ys G) h1 h2 h4 (by rw[ga0];rfl) (by unfold LIM;omega)).trans ?_;rw[gs0];simp only[XT];rw[h];simp only[Qx,Q8,Qv,ZZ]
theorem mO{α:Type}{ok:Sto->Prop}{gg:CG}{ce:CE}{S:Sto}{f:α->U}{v:α->U}{Rel:Rho->Prop}(hok:∀ys G,ok (S++(.lst ys::G))) :
  ∀(xs:List α) (ys:List U) (G:Sto) (ρ:Rho),Rel ρ->ys.length+xs.length<=9999->
  (∀x∈xs,∀ys G ρ,Rel ρ->∃ρ0 G1,Rel ρ0/\gg (f x) ρ (S++(.lst ys::G))=some (ρ0,S++(.lst ys::G))/\ce ρ0 (S++(.lst ys::G))=some (v x,S++(.lst ys::(G++G1))))->
  ∃G',iG ok gg ce S.length (xs.map f) ρ (S++(.lst ys::G))=some (S++(.lst (ys++xs.map v)::(G++G')))
 |[],ys,G,ρ,_,_,_=>⟨[],by simp only[XU,Qn];exact rQ (hok ys G)⟩
 |x::xs,ys,G,ρ,hr,hl,hb=>by
  rw[QH]at hl;obtain⟨ρ0,G1,r0,h1,h2⟩:=hb x QB ys G ρ hr;obtain⟨G',h⟩:=mO hok xs (ys++[v x]) (G++G1) ρ0 r0 (by simp;omega) (fun x hx=>hb x (QF _ hx));refine⟨G1++G',?_⟩;rw[Qx];refine(oG (hok ys G) h1 h2 (by rw[ga0];rfl) (by unfold LIM;omega)).trans ?_;rw[gs0];simp only[XT];rw[h];simp only[Qx,Q8,Qv,ZZ]
theorem yo{Z:Sto}{r:Nat}{o o':O}(h:Z[r]?=some o):(Z.set r o').set r o=Z:=by
 rw[List.set_set];refine Zw fun i=>?_;rw[Zz];split
 ·subst i;obtain⟨h1,h2⟩:=Q7.mp h;simp[h1,h2]
 ·rfl
theorem rO:∀ns ms:List Int,PyData.eqv (.list (ns.map PyData.int)) (.list (ms.map PyData.int))=decide (ns=ms)
 |[],[]=>rfl
 |[],_::_=>rfl
 |_::_,[]=>rfl
 |n::ns,m::ms=>by
  have e:PyData.eqv (.list ((n::ns).map PyData.int)) (.list ((m::ms).map PyData.int))=((n == m)&&PyData.eqv (.list (ns.map PyData.int)) (.list (ms.map PyData.int))):=rfl;rw[e,rO ns ms,Zi];simp
theorem mN{S:Sto}:∀ns:List Int,DtL S (ns.map U.int) (ns.map PyData.int)
 |[]=>.nil
 |n::ns=>.cons (.int n) (mN ns)
theorem rz(ns:List Int):qi (.list (ns.map PyData.int)):=by
 have h:∀ns:List Int,PyData.canLayAll0 (ns.map PyData.int)=true/\PyData.depthAll (ns.map PyData.int)<=0:=fun ns=>by
  induction ns with
  |nil=>exact⟨rfl,QJ _⟩
  |cons n r ih=>
   refine⟨by unfold PyData.canLayAll0;rw[Qx];exact ih.1,?_⟩;rw[Qx];unfold PyData.depthAll;exact Nat.max_le.mpr ⟨QJ _,ih.2⟩
 refine⟨by unfold PyData.canLay0;exact(h ns).1,?_⟩;unfold PyData.depth;have:=(h ns).2;omega
theorem rJ(neg:Bool){S:Sto}{l l':Nat}{ns ms:List Int}(h:S[l]?=some (.lst (ns.map U.int)))(h':S[l']?=some (.lst (ms.map U.int))):lC neg (.ref l) (.ref l') S=some (.bl (if neg then !decide (ns=ms)else decide (ns=ms)),S):=
 j6 neg (.inl ⟨_,_,.lst h (mN ns),.lst h' (mN ms),rz ns,rz ms,(rO ns ms).symm⟩)
theorem j7{α:Type}:∀{l:List α} {i:Nat} (h:i<l.length),(l[i]::l.eraseIdx i).Perm l
 |[],_,h=>absurd h (Nat.not_lt_zero _)
 |a::l,0,_=>List.Perm.refl _
 |a::l,i+1,h=>(List.Perm.swap a _ _).trans (List.Perm.cons a (j7 (l:=l) (i:=i) (by simpa using h)))
structure Wl(lw:Nat)(T T':Sto):Prop where
 len:T.length<=T'.length
 keep:∀j,j<T.length->j≠lw->T'[j]?=T[j]?
 well:∃z,T'[lw]?=some (.lst [.int z])
variable{lw j:Nat}{T T1 T2:Sto}{m:Int}
section
variable{o:O}
theorem Wl.get(w:Wl lw T T1)(h:T[j]?=some o)(n:j≠lw):T1[j]?=some o:=by rw[w.keep j (Q7.mp h).1 n];exact h
theorem Wl.trans(a:Wl lw T T1)(b:Wl lw T1 T2):Wl lw T T2:=⟨Qu a.len b.len,fun j hj n=>by rw[b.keep j (Qw hj a.len) n,a.keep j hj n],b.well⟩
theorem Wl.refl(h:∃z,T[lw]?=some (.lst [.int z])):Wl lw T T:=⟨QJ _,fun _ _ _=>rfl,h⟩
theorem Wl.app(h:∃z,T[lw]?=some (.lst [.int z]))(X:Sto):Wl lw T (T++X):=⟨by simp,fun j hj _=>QD hj,by obtain⟨z,h⟩:=h;exact⟨z,ax h⟩⟩
def fv:Fn:=fnU 3 2 dY
theorem cM(h:∃z,T[lw]?=some (.lst [.int z]))(hm:0<m)(hb:m<2^60):∃d T1,fv [.ref lw,.int m] T=some (.int d,T1)/\Wl lw T T1/\T1.length=T.length/\0<=d/\d<m:=by
 obtain⟨z,h⟩:=h;have hl:=(Q7.mp h).1;refine⟨z % m,T.set lw (.lst [.int (z / m)]),?_,⟨by simp,fun j hj n=>Qa n.symm,⟨_,by rw[Zz,if_pos rfl,if_pos hl]⟩⟩,by simp,Int.emod_nonneg _ (by omega),Int.emod_lt_of_pos _ hm⟩;unfold fv;rw[tK];have dv:∀(j:Int) (S:Sto),A1 (.int j) (.int m) S=some (.int (j / m),S):=fun j S=>Ez ⟨hm,l9 (by omega) hb⟩;have md:∀(j:Int) (S:Sto),tJ (.int j) (.int m) S=some (.int (j % m),S):=fun j S=>xT hm;rwa[dY,h,dv,md]
def xE:Fn:=fnU 6 2 cE
theorem nr{r0 r1 r2:Option U}:∀(ts:List Int) (a f:Int) (r5:Option U),0<=a->a<2147483563->∃a' f' r5',cU (fun _=>True) (gNm 5) cZ (ts.map U.int) [r0,r1,r2,some (.int a),some (.int f),r5] S=some (.nx,[r0,r1,r2,some (.int a'),some (.int f'),r5'],S)
 |[],a,f,r5,_,_=>⟨a,f,r5,fK trivial⟩
 |t::ts,a,f,r5,h0,h1=>by
  obtain⟨a',f',r5',ih⟩:=nr (r0:=r0) (r1:=r1) (r2:=r2) ts ((a*a+50021*a+19*t+7) % 2147483563) (f*2147483563+(a*a+50021*a+19*t+7) % 2147483563) (some (.int t)) (Int.emod_nonneg _ (by decide)) (Int.emod_lt_of_pos _ (by decide));refine⟨a',f',r5',(iU trivial rfl ?_).trans ih⟩;have m1:jZ (.int a) (.int a) S=some (.int (a*a),S):=lK (.inl ⟨by omega,by omega⟩);have m2:jZ (.int 50021) (.int a) S=some (.int (50021*a),S):=lK (.inl (by decide));have m3:jZ (.int 19) (.int t) S=some (.int (19*t),S):=lK (.inl (by decide));have m4:jZ (.int f) (.int 2147483563) S=some (.int (f*2147483563),S):=lK (.inr (by decide));have m5:∀j:Int,tJ (.int j) (.int 2147483563) S=some (.int (j % 2147483563),S):=fun j=>xT (by decide);rwa[cZ,m1,m2,m3,m4,m5]
theorem BW(ns:List Int){k:Int}(k0:0<=k):∃z,xE [.kl ns,.int k] S=some (.ref S.length,S++[.lst [.int z]]):=by
 unfold xE;rw[pS];have m1:jZ (.int 5) (.int k) S=some (.int (5*k),S):=lK (.inl (by decide));have m2:∀j:Int,tJ (.int j) (.int 2) S=some (.int (j % 2),S):=fun j=>xT (by decide);have m3:∀j:Int,A1 (.int j) (.int 2) S=some (.int (j / 2),S):=fun j=>Ez ⟨by decide,by decide +kernel⟩;have m4:∀j:Int,jZ (.int j) (.int 30011) S=some (.int (j*30011),S):=fun j=>lK (.inr (by decide));have m5:jZ (.int 977) (.int k) S=some (.int (977*k),S):=lK (.inl (by decide));have m6:∀j:Int,tJ (.int j) (.int 2147483563) S=some (.int (j % 2147483563),S):=fun j=>xT (by decide);have r60:bj (ag (cC (.int 60)) aB)=fun ρ S=>some (bH 0 60,fun _=>True,S):=rfl;have er:bH 0 60=((Qz 60).map fun i:Nat=>(i:Int)).map U.int:=by rw[jJ,Qe]
 have key:∀num:Int,∃z,((bo (kG (aN (cOp fEq (cOp tJ (au 2) (cC (.int 2))) (cC (.int 0)))) (iL (ki (ag (cOp A1 (au 2) (cC (.int 2))) aB))) dM)
  (bo (cG 3 (cOp tJ (cOp dS (cOp dS (cOp jZ (au 2) (cC (.int 30011))) (cOp jZ (cC (.int 977)) (au 1))) (cC (.int 41))) (cC (.int 2147483563))))
  (bo (cG 4 (cC (.int 0)))
  (bo (lI (bj (ag (cC (.int 60)) aB)) (gNm 5) cZ)
  (iL (ki (ag (au 4) aB))))))) [some (.kl ns),some (.int k),some (.int num),none,none,none] S).bind kFn=some (.ref S.length,S++[.lst [.int z]]):=fun num=>by
  by_cases e:num % 2=0
  ·refine⟨num / 2,?_⟩;have e':decide (num % 2=0)=true:=decide_eq_true e;rwa[m2,m3,e']
  ·have e':decide (num % 2=0)=false:=decide_eq_false e;obtain⟨a',f',r5',h⟩:=nr (S:=S) (r0:=some (.kl ns)) (r1:=some (.int k)) (r2:=some (.int num)) ((Qz 60).map fun i:Nat=>(i:Int)) ((num*30011+977*k+41) % 2147483563) 0 none (Int.emod_nonneg _ (by decide)) (Int.emod_lt_of_pos _ (by decide));rw[<-er]at h;refine⟨f',?_⟩;rwa[m2,e',m4,m5,m6,lI,r60,h]
 by_cases hk:k<(ns.length:Int)
 ·have hk':decide (k<(ns.length:Int))=true:=decide_eq_true hk;have hi:k.toNat<ns.length:=by omega
  have ha:atI (ns.map U.int) k=some (.int ns[k.toNat]):=by
   have:=eC (xs:=ns.map U.int) (j:=k.toNat) (v:=.int ns[k.toNat]) (by rw[Qb,Q4 hi];rfl);rw[show((k.toNat:Nat):Int)=k from by omega]at this;exact this
  obtain⟨z,h⟩:=key ns[k.toNat];refine⟨z,?_⟩;rw[<-h];simp only[cE,m1,t7,HF,hk',ha,tZ,ng,sx,kH,Hy,Bp,Bo,Bm,tY,x_c,BC,Bx,ub,ua,qo,pd,HB,G8,Bz,qp,ph,pf,Br,QQ,ZH,Qd,XT,List.set_cons_succ,Option.join_some]
 ·have hk':decide (k<(ns.length:Int))=false:=decide_eq_false hk;obtain⟨z,h⟩:=key (5*k+3);refine⟨z,?_⟩;rw[<-h];simp only[cE,m1,t7,hk',tZ,ng,sx,kH,Hy,Bp,Bo,Bm,tY,x_c,BC,Bx,ub,ua,qo,pd,HB,G8,Bz,qp,ph,pf,Br,Ak,QQ,ZH,Qd,XT,List.set_cons_succ,Option.join_some]
def dz:Fn:=fnU 5 2 (cT fv 100)
theorem kY{r1:Option U}{jl jf:Nat}(n1:jl≠lw)(n2:jf≠lw)(n3:jl≠jf):∀(fuel:Nat) (left found:List Int) (T:Sto) (r4:Option U),left.length<fuel->T[jl]?=some (.lst (left.map U.int))->T[jf]?=some (.lst (found.map U.int))->(∃z,T[lw]?=some (.lst [.int z]))->left.length+found.length<=900->
  ∃(os:List Int) (T':Sto) (r4':Option U),ck (aN (cOp (lC true) (au 2) (ki aB))) (dQ fv 100) fuel [some (.ref lw),r1,some (.ref jl),some (.ref jf),r4] T=some (.nx,[some (.ref lw),r1,some (.ref jl),some (.ref jf),r4'],T')
   /\T'[jf]?=some (.lst (os.map U.int))/\os.Perm (found++left)/\T.length<=T'.length/\(∀j,j<T.length->j≠lw->j≠jl->j≠jf->T'[j]?=T[j]?)/\∃z,T'[lw]?=some (.lst [.int z])
 |0,left,found,T,r4,hf,_,_,_,_=>absurd hf (by omega)
 |fuel+1,left,found,T,r4,hf,h1,h2,h3,hl=>by
  have q:=F1 true (S:=T++[.lst []]) (l:=jl) (l':=T.length) (us:=left.map U.int) (ax h1) (by rw[ga0];rfl);have ww:∃z,(T++[O.lst []])[lw]?=some (.lst [.int z]):=by obtain⟨z,h⟩:=h3;exact⟨z,ax h⟩
  by_cases e:left=[]
  ·subst e;have q':lC true (.ref jl) (.ref T.length) (T++[.lst []])=some (.bl false,T++[.lst []]):=by rw[q];rfl
   refine⟨found,T++[.lst []],r4,nq ?_,ax h2,by rw[Qn],by simp,fun j hj _ _ _=>QD hj,ww⟩;rwa[q']
  ·have q':lC true (.ref jl) (.ref T.length) (T++[.lst []])=some (.bl true,T++[.lst []]):=by rw[q];simp[e]
   have lp:=List.length_pos_iff.mpr e;obtain⟨d,T2,e2,w2,l2,d0,d1⟩:=cM (T:=T++[.lst []]) (lw:=lw) (m:=left.length) ww (by omega) (by omega);have hin:d.toNat<left.length:=by omega
   obtain⟨z,hz⟩:∃z,left[d.toNat]?=some z:=⟨_,Q4 hin⟩;have hz':(left.map U.int)[d.toNat]?=some (.int z):=by rw[Qb,hz];rfl
   have hL1:(left.map U.int).length<=LIM:=by unfold LIM;rw[QX];omega
   have hL2:(found.map U.int).length<LIM:=by unfold LIM;rw[QX];omega
   have k1:((left.map U.int).length:Int)=left.length:=by rw[QX]
   have g1:T2[jl]?=some (.lst (left.map U.int)):=w2.get (ax h1) n1;have g2:T2[jf]?=some (.lst (found.map U.int)):=w2.get (ax h2) n2;have g0:(T++[O.lst []])[jl]?=some (.lst (left.map U.int)):=ax h1;have lj:jl<T2.length:=(Q7.mp g1).1;have lf:jf<T2.length:=(Q7.mp g2).1;have em:(left.map U.int).eraseIdx d.toNat=(left.eraseIdx d.toNat).map U.int:=(vJ ..).symm;have g3:(T2.set jl (.lst ((left.eraseIdx d.toNat).map U.int)))[jf]?=some (.lst (found.map U.int)):=by rw[Qa n3];exact g2
   have ef:found.map U.int++[.int z]=(found++[z]).map U.int:=by rw[Qt];rfl
   obtain⟨T4,hT4⟩:∃T4,T4=(T2.set jl (.lst ((left.eraseIdx d.toNat).map U.int))).set jf (.lst ((found++[z]).map U.int)):=⟨_,rfl⟩;obtain⟨zz,hzz⟩:=w2.well;obtain⟨os,T',r4',ih,k2,k3,k4,k5,k6⟩:=kY (r1:=r1) n1 n2 n3 fuel (left.eraseIdx d.toNat) (found++[z]) T4 (some (.int d)) (by rw[List.length_eraseIdx,if_pos hin];omega)
    (by rw[hT4,Qa n3.symm,Zz,if_pos rfl,if_pos lj])
    (by rw[hT4,Zz,if_pos rfl,if_pos (by rw[XY];exact lf)])
    ⟨zz,by rw[hT4,Qa n2,Qa n1];exact hzz⟩
    (by rw[List.length_eraseIdx,if_pos hin,QZ,Qo];omega)
   have l4:T4.length=T.length+1:=by rw[hT4,XY,XY,l2,QZ];rfl
   refine⟨os,T',r4',(qw (S0:=T++[.lst []]) ?_ ?_).trans ih,k2,?_,by omega,fun j hj a1 a2 a3=>?_,k6⟩
   ·rwa[q']
   ·rw[hT4];rwa[dQ,g0,QX,e2,g1,g2,g3,Bn,xS d0 (by rw[k1];exact d1) hL1 hz',em,fR hL2,ef]
   ·refine k3.trans ?_;rw[Q8];refine List.Perm.append_left found ?_;have hz2:left[d.toNat]=z:=by rw[Q4 hin]at hz;exact Option.some.inj hz
    have:=j7 hin;rw[hz2]at this;exact this
   ·rw[k5 j (by omega) a1 a2 a3,hT4,Qa (Ne.symm a3),Qa (Ne.symm a2),w2.keep j (by simp;omega) a1,QD hj]
theorem rm{many:Int}(h:∃z,T[lw]?=some (.lst [.int z]))(m0:0<=many)(m1:many<=90):∃(os:List Int) (T':Sto) (l:Nat),dz [.ref lw,.int many] T=some (.ref l,T')/\T'[l]?=some (.lst (os.map U.int))/\T.length<=l/\Wl lw T T'/\os.length=many.toNat/\os.Nodup/\∀a,a∈os↔0<=a/\a<many:=by
 have hl:lw<T.length:=by obtain⟨z,h⟩:=h;exact(Q7.mp h).1
 obtain⟨rs,hrs⟩:∃rs,rs=(Qz many.toNat).map fun i:Nat=>(i:Int):=⟨_,rfl⟩;have er:bH 0 many.toNat=rs.map U.int:=by rw[hrs,jJ,Qe]
 have lr:rs.length=many.toNat:=by rw[hrs];simp
 obtain⟨os,T',r4',e,k2,k3,k4,k5,k6⟩:=kY (lw:=lw) (r1:=some (.int many)) (jl:=T.length) (jf:=T.length+1) (by omega) (by omega) (by omega) 100 rs [] (T++[.lst (rs.map U.int),.lst []]) none (by omega) (by rw[ga0];rfl) (by rw[ga];rfl) (by obtain⟨z,h⟩:=h;exact⟨z,ax h⟩) (by simp;omega);rw[ZZ]at k3;have nd:rs.Nodup:=by
  rw[hrs];exact List.Pairwise.map _ (fun a b h e=>h (by omega)) Zh
 refine⟨os,T',T.length+1,?_,k2,by omega,⟨by simp at k4;omega,fun j hj n=>?_,k6⟩,by rw[k3.length_eq,lr],k3.nodup_iff.mpr nd,fun a=>?_⟩
 ·unfold dz;rw[oD];have hc:0<=many/\many<=1000:=⟨m0,by omega⟩;have ln:(T++[O.lst (rs.map U.int)]).length=T.length+1:=by rw[QZ];rfl
  rwa[cT,bS,hc,and_self,if_true,er,ln,e]
 ·rw[k5 j (by simp;omega) n (by omega) (by omega),QD hj]
 ·rw[k3.mem_iff,hrs,Qc];constructor
  ·rintro⟨i,hi,rfl⟩;have:=Qy.mp hi;omega
  ·rintro⟨a0,a1⟩;exact⟨a.toNat,Qy.mpr (by omega),by omega⟩
end
noncomputable def inR(row:List Int)(b:Int):Bool:=decide (b∈row)
theorem flI{b:Int}{l:List Int}:iX (.int b)=true/\(l.map U.int).all iX=true:=⟨rfl,Jf l⟩
theorem Gw{b:Int}{row:List Int}{S:Sto}:fIn false (.int b) (.tup (row.map U.int)) S=some (.bl (inR row b),S):=by
 unfold fIn;dsimp only;rw[if_pos flI,if_neg Qq,inI];rfl
variable{os:List Int}{a:Int}{wr:List (List Int)}
section
variable{jo:Nat}
theorem cY(h:S[jo]?=some (.lst (os.map U.int)))(ha:a∈os)(hl:os.length<=900):bx (.ref jo) [.int a] S=some (.int (os.idxOf a:Nat),S):=by
 have hL:os.length<=LIM:=by unfold LIM;omega
 simp only[bx,h,dW,QQ,ha,hL,and_self,if_true]
def bZ(many:Int)(tm:U)(wr lk:List (List Int)):U:=.tup [.int many,tm,.tup (wr.map rwU),.tup (lk.map rwU)]
theorem xm{b:Int}(b0:0<=b)(b1:b<wr.length):atI (wr.map rwU) b=some (.tup ((wr.getD b.toNat []).map U.int)):=by
 have hi:b.toNat<wr.length:=by omega
 have:=eC (xs:=wr.map rwU) (j:=b.toNat) (v:=rwU wr[b.toNat]) (by rw[Qb,Q4 hi];rfl);rw[show((b.toNat:Nat):Int)=b from by omega]at this;rw[this,Q9,Q4 hi];rfl
theorem A8{l k:Nat}{us vs:List U}(h1:S[l]?=some (.lst us))(h2:S[k]?=some (.lst vs))(hz:us.length+vs.length<=LIM):dS (.ref l) (.ref k) S=some (.ref S.length,S++[.lst (us++vs)]):=by
 simp only[dS,iZ,h1,h2,hz,if_true]
theorem GV(e:List Int):atI ((-1::e).map U.int) (-1)=some (.int (e.getLast?.getD (-1))):=by
 rcases List.eq_nil_or_concat e with rfl|⟨r,x,rfl⟩
 ·rfl
 ·rw[List.concat_eq_append,<-Qv,Qt,List.getLast?_append];exact xn
end
variable{G:Sto}
section
variable{x:List Int}{L:Nat}
theorem xw(p:Int×Int):∀L:List (Int×Int),L.Pairwise (fun a b=>ltP a b=true)->∃M:List (Int×Int),M.Pairwise (fun a b=>ltP a b=true)/\∀q,q∈M↔q=p\/q∈L
 |[],_=>⟨[p],X5 _ _,fun q=>by simp⟩
 |y::L,h=>by
  obtain⟨h1,h2⟩:=Zg.mp h;by_cases e:p=y
  ·subst e;exact⟨p::L,h,fun q=>by simp⟩
  ·cases hp:ltP p y with
   |true=>
    refine⟨p::y::L,Zg.mpr ⟨fun z hz=>?_,h⟩,fun q=>by simp⟩;rcases Qk.mp hz with rfl|m
    ·exact hp
    ·have:=h1 z m;simp only[ltP,decide_eq_true_eq]at this hp ⊢;omega
   |false=>
    obtain⟨M,m1,m2⟩:=xw p L h2;refine⟨y::M,Zg.mpr ⟨fun z hz=>?_,m1⟩,fun q=>?_⟩
    ·rcases(m2 z).mp hz with rfl|m
     ·have e':¬(z.1=y.1/\z.2=y.2):=fun k=>e (Prod.ext k.1 k.2);simp only[ltP,decide_eq_true_eq,decide_eq_false_iff_not]at hp ⊢;omega
     ·exact h1 z m
    ·rw[Qk,m2 q,Qk];constructor
     ·rintro(k|k|k)
      ·exact .inr (.inl k)
      ·exact .inl k
      ·exact .inr (.inr k)
     ·rintro(k|k|k)
      ·exact .inr (.inl k)
      ·exact .inl k
      ·exact .inr (.inr k)
theorem Bb:∀ps:List (Int×Int),∃M:List (Int×Int),M.Pairwise (fun a b=>ltP a b=true)/\∀q,q∈M↔q∈ps
 |[]=>⟨[],List.Pairwise.nil,fun q=>Iff.rfl⟩
 |p::ps=>by
  obtain⟨L,h1,h2⟩:=Bb ps;obtain⟨M,m1,m2⟩:=xw p L h1;exact⟨M,m1,fun q=>by rw[m2,h2,Qk]⟩
theorem bE{ps:List (Int×Int)}{q:Int×Int}:q∈bt ps↔q∈ps:=by
 obtain⟨M,m1,m2⟩:=Bb ps;rw[ju m1 m2,m2]
theorem oE{α:Type}{ok:Sto->Prop}{gg:CG}{ce:CE}{S:Sto}{f:α->U}{v:α->U}{Rel:Rho->Prop}(hok:∀ys G,ok (S++(.lst ys::G))) :
  ∀(xs:List α) (ys:List U) (G:Sto) (ρ:Rho),Rel ρ->ys.length+xs.length<=9999->
  (∀x∈xs,∀ys G ρ,Rel ρ->∃ρ0,Rel ρ0/\gg (f x) ρ (S++(.lst ys::G))=some (ρ0,S++(.lst ys::G))/\ce ρ0 (S++(.lst ys::G))=some (v x,S++(.lst ys::G)))->
  iG ok gg ce S.length (xs.map f) ρ (S++(.lst ys::G))=some (S++(.lst (ys++xs.map v)::G))
 |[],ys,G,ρ,_,_,_=>by simp only[XU,Qn];exact rQ (hok ys G)
 |x::xs,ys,G,ρ,hr,hl,hb=>by
  rw[QH]at hl;obtain⟨ρ0,r0,h1,h2⟩:=hb x QB ys G ρ hr;have h:=oE hok xs (ys++[v x]) G ρ0 r0 (by simp;omega) (fun x hx=>hb x (QF _ hx));rw[Qx];refine(oG (hok ys G) h1 h2 (by rw[ga0];rfl) (by unfold LIM;omega)).trans ?_;rw[gs0];simp only[XT];rw[h];simp only[Qx,Q8,Qv,ZZ]
end
structure Fw(lw jw:Nat)(T T':Sto):Prop where
 len:T.length<=T'.length
 keep:∀j,j<T.length->j≠lw->j≠jw->T'[j]?=T[j]?
 well:∃z,T'[lw]?=some (.lst [.int z])
variable{jw jh:Nat}{most many:Int}{r5 r6 r7 r8 r9 r10 r11 r12:Option U}
section
variable{o:O}
theorem Fw.of(w:Wl lw T T1):Fw lw jw T T1:=⟨w.len,fun j h n _=>w.keep j h n,w.well⟩
theorem Fw.trans(a:Fw lw jw T T1)(b:Fw lw jw T1 T2):Fw lw jw T T2:=⟨Qu a.len b.len,fun j hj n n'=>by rw[b.keep j (Qw hj a.len) n n',a.keep j hj n n'],b.well⟩
theorem Fw.get(w:Fw lw jw T T1)(h:T[j]?=some o)(n:j≠lw)(n':j≠jw):T1[j]?=some o:=by rw[w.keep j (Q7.mp h).1 n n'];exact h
theorem Fw.set(h:∃z,T[lw]?=some (.lst [.int z]))(n:jw≠lw)(o:O):Fw lw jw T (T.set jw o):=⟨by simp,fun j _ _ n'=>Qa n'.symm,by obtain⟨z,h⟩:=h;exact⟨z,by rw[Qa n];exact h⟩⟩
def Ff:CT:=aN (cOp fLt (cCB fv (ag (au 1) (ag (cC (.int 5)) aB))) (cC (.int 2)))
theorem jH{us:List U}{n:Nat}(n1:n≠lw)(n2:jh≠lw)(n3:jh≠n):∀(as ys:List Int) (Y:Sto) (r0:Option U),Y[jh]?=some (.lst us)->Y[n]?=some (.lst (ys.map U.int))->(∃z,Y[lw]?=some (.lst [.int z]))->ys.length+as.length<=900->
  ∃(ys':List Int) (Y':Sto),bO (fun S=>S[jh]?=some (.lst us)) (gNm 0) Ff (au 0) n (as.map U.int) [r0,some (.ref lw)] Y=some Y'/\Y'[n]?=some (.lst (ys'.map U.int))/\Fw lw n Y Y'/\(∃q,ys'=ys++q/\q.Sublist as)/\ys'.length<=ys.length+as.length
 |[],ys,Y,r0,h1,h2,h3,_=>⟨ys,Y,lF h1,h2,.of (.refl h3),⟨[],(Qn _).symm,.slnil⟩,by simp⟩
 |a::as,ys,Y,r0,h1,h2,h3,hl=>by
  rw[QH]at hl;obtain⟨d,Y1,e1,w1,l1,d0,d1⟩:=cM (m:=5) h3 (by omega) (by omega);have g1:Y1[jh]?=some (.lst us):=w1.get h1 n2;have g2:Y1[n]?=some (.lst (ys.map U.int)):=w1.get h2 n1;by_cases hd:d<2
  ·have hd':decide (d<2)=true:=decide_eq_true hd;have lt:n<Y1.length:=(Q7.mp g2).1;have ey:ys.map U.int++[.int a]=(ys++[a]).map U.int:=by rw[Qt];rfl
   obtain⟨ys',Y',e,k1,k2,k3,k4⟩:=jH (us:=us) n1 n2 n3 as (ys++[a]) (Y1.set n (.lst ((ys++[a]).map U.int))) (some (.int a)) (by rw[Qa n3.symm];exact g1) (by rw[Zz,if_pos rfl,if_pos lt]) (by obtain⟨z,h⟩:=w1.well;exact⟨z,by rw[Qa n1];exact h⟩) (by simp;omega);obtain⟨q,k5,k6⟩:=k3;refine⟨ys',Y',?_,k1,((Fw.of w1).trans (.set w1.well n1 _)).trans k2,⟨a::q,by rw[k5,Q8];rfl,k6.cons₂ a⟩,by simp at k4 ⊢;omega⟩
   ·refine(lE (S0:=Y) (ρ0:=[some (.int a),some (.ref lw)]) (S1:=Y1) (S2:=Y1) (x:=.int a) (ys:=ys.map U.int) h1 rfl ?_ rfl g2 (by unfold LIM;rw[QX];omega)).trans ?_
    ·rwa[Ff,e1,hd']
    ·rw[ey];exact e
  ·have hd':decide (d<2)=false:=decide_eq_false hd;obtain⟨ys',Y',e,k1,k2,k3,k4⟩:=jH (us:=us) n1 n2 n3 as ys Y1 (some (.int a)) g1 g2 w1.well (by omega);obtain⟨q,k5,k6⟩:=k3;refine⟨ys',Y',?_,k1,(Fw.of w1).trans k2,⟨q,k5,k6.cons a⟩,by simp;omega⟩
   ·refine(oI (S0:=Y) (ρ0:=[some (.int a),some (.ref lw)]) (S1:=Y1) h1 rfl ?_).trans e;rwa[Ff,e1,hd']
abbrev rT(lw:Nat)(most many:Int)(jh jw:Nat)(r5 r6 r7 r8 r9 r10 r11 r12:Option U):Rho:=[some (.ref lw),some (.int most),some (.int many),some (.ref jh),some (.ref jw),r5,r6,r7,r8,r9,r10,r11,r12]
theorem E5{n:Nat}{ys:List Int}(h:S[n]?=some (.lst (ys.map U.int)))(b:Bool):∃zs:List Int,D2 (.ref n) (.int (1-2*(if b then 1 else 0))) S=some (.ref S.length,S++[.lst (zs.map U.int)])/\(∀z,z∈zs->z∈ys)/\zs.length=ys.length/\(ys.Nodup->zs.Nodup):=by
 cases b with
 |true=>
  refine⟨ys.reverse,?_,fun z hz=>List.mem_reverse.mp hz,List.length_reverse,fun hn=>List.pairwise_reverse.mpr (hn.imp fun hne=>Ne.symm hne)⟩;have e:(1-2*(if true then 1 else 0):Int)=-1:=rfl;have n1:¬((-1:Int)=1):=by decide
  rw[e];simp only[D2,h,n1,if_false,if_true,List.map_reverse]
 |false=>
  refine⟨ys,?_,fun z hz=>hz,rfl,id⟩;have e:(1-2*(if false then 1 else 0):Int)=1:=rfl;rw[e];simp only[D2,h,if_true]
theorem BD{Y:Sto}{wr:List (List Int)}(n1:jw≠lw)(n2:jh≠lw)(n3:jh≠jw)(hh:Y[jh]?=some (.lst (os.map U.int)))(hw:Y[jw]?=some (.lst (wr.map rwU)))(wl:∃z,Y[lw]?=some (.lst [.int z]))(ho:os.length<=90)(on:os.Nodup)(hl:wr.length<=90) :
  ∃(zs:List Int) (Y':Sto) (r6':Option U),c6 fv dz (rT lw most many jh jw r5 r6 r7 r8 r9 r10 r11 r12) Y=some (.nx,rT lw most many jh jw r5 r6' r7 r8 r9 r10 r11 r12,Y')/\Y'[jw]?=some (.lst ((wr++[zs]).map rwU))/\Fw lw jw Y Y'/\(∀z∈zs,z∈os)/\zs.length<=90/\zs.Nodup:=by
 have lj:jw<Y.length:=(Q7.mp hw).1;have lh:jh<Y.length:=(Q7.mp hh).1;have ll:lw<Y.length:=by obtain⟨z,h⟩:=wl;exact(Q7.mp h).1
 obtain⟨ys,Y1,e1,k1,k2,k3,k4⟩:=jH (lw:=lw) (jh:=jh) (n:=Y.length) (us:=os.map U.int) (by omega) n2 (by omega) os [] (Y++[.lst []]) none (ax hh) (by rw[ga0];rfl) (by obtain⟨z,h⟩:=wl;exact⟨z,ax h⟩) (by simp;omega);have hc:a6 (iTp (au 3)) (gNm 0) Ff (au 0) 1 [0] (rT lw most many jh jw r5 r6 r7 r8 r9 r10 r11 r12) Y=some (.ref Y.length,Y1):=by
  have hv:au 3 (rT lw most many jh jw r5 r6 r7 r8 r9 r10 r11 r12) Y=some (.ref jh,Y):=rfl;unfold a6 iTp;rw[hv,QQ];simp only[hh,QQ,me,rT,Za,Qx,XU,ZH,ZX,Qv,ZZ,e1]
 have l1:=k2.len;rw[QZ]at l1;have w1:Y1[jw]?=some (.lst (wr.map rwU)):=k2.get (ax hw) n1 (by omega);obtain⟨d,Y2,e2,q2,l2,d0,d1⟩:=cM (m:=7) k2.well (by omega) (by omega);have g2:Y2[Y.length]?=some (.lst (ys.map U.int)):=q2.get k1 (by omega);obtain⟨qs,k5,k6⟩:=k3;rw[ZZ]at k5;subst k5;obtain⟨zs,e3,z1,z2,z3⟩:=E5 g2 (decide (d=0));have w2:(Y2++[O.lst (zs.map U.int)])[jw]?=some (.lst (wr.map rwU)):=ax (q2.get w1 n1);have lj2:jw<(Y2++[O.lst (zs.map U.int)]).length:=(Q7.mp w2).1;have gn:(Y2++[O.lst (zs.map U.int)])[Y2.length]?=some (.lst (zs.map U.int)):=by rw[ga0];rfl
 have wl2:∃z,(Y2++[O.lst (zs.map U.int)])[lw]?=some (.lst [.int z]):=by obtain⟨z,h⟩:=q2.well;exact⟨z,ax h⟩
 have m2:∀k:Int,jZ (.int 2) (.int k) Y2=some (.int (2*k),Y2):=fun k=>lK (.inl (by decide));have hA:(wr.map rwU).length<LIM:=by unfold LIM;rw[QX];omega
 have em:wr.map rwU++[.tup (zs.map U.int)]=(wr++[zs]).map rwU:=by rw[Qt];rfl
 have yl:ys.length<=90:=by simp at k4;omega
 refine⟨zs,(Y2++[O.lst (zs.map U.int)]).set jw (.lst ((wr++[zs]).map rwU)),some (.ref Y.length),?_,by rw[Zz,if_pos rfl,if_pos lj2],?_,fun z hz=>k6.subset (z1 z hz),by omega,z3 (k6.nodup on)⟩
 ·unfold c6;rw[tZ,sx];show((a6 (iTp (au 3)) (gNm 0) Ff (au 0) 1 [0] (rT lw most many jh jw r5 r6 r7 r8 r9 r10 r11 r12) Y).bind _).bind _=_;rw[hc,QQ,kH,QQ,ng];rwa[rT,w1,e2,m2,e3,gn,w2,fR hA,em]
 ·refine Fw.trans ?_ (.set wl2 n1 _);refine Fw.trans ?_ (.of (.app q2.well _));refine Fw.trans ?_ (.of q2);exact⟨by omega,fun j hj a1 a2=>by rw[k2.keep j (by simp;omega) a1 (by omega),QD hj],k2.well⟩
theorem ud(n1:jw≠lw)(n2:jh≠lw)(n3:jh≠jw)(ho:os.length<=90)(on:os.Nodup):∀(us:List U) (wr:List (List Int)) (Y:Sto) (r5 r6:Option U),Y[jh]?=some (.lst (os.map U.int))->Y[jw]?=some (.lst (wr.map rwU))->(∃z,Y[lw]?=some (.lst [.int z]))->wr.length+us.length<=90->(∀r∈wr,(∀z∈r,z∈os)/\r.length<=90/\r.Nodup)->
  ∃(wr':List (List Int)) (Y':Sto) (r5' r6':Option U),cU (fun _=>True) (gNm 5) (c6 fv dz) us (rT lw most many jh jw r5 r6 r7 r8 r9 r10 r11 r12) Y=some (.nx,rT lw most many jh jw r5' r6' r7 r8 r9 r10 r11 r12,Y')/\Y'[jw]?=some (.lst (wr'.map rwU))/\Fw lw jw Y Y'/\(∀r∈wr',(∀z∈r,z∈os)/\r.length<=90/\r.Nodup)/\wr'.length=wr.length+us.length
 |[],wr,Y,r5,r6,h1,h2,h3,_,h5=>⟨wr,Y,r5,r6,fK trivial,h2,.of (.refl h3),h5,rfl⟩
 |u::us,wr,Y,r5,r6,h1,h2,h3,h4,h5=>by
  rw[QH]at h4;obtain⟨zs,Y1,r6',e,k1,k2,k3,k4,k5⟩:=BD (most:=most) (many:=many) (r5:=some u) (r6:=r6) (r7:=r7) (r8:=r8) (r9:=r9) (r10:=r10) (r11:=r11) (r12:=r12) n1 n2 n3 h1 h2 h3 ho on (by omega);obtain⟨wr',Y',r5'',r6'',ih,i1,i2,i3,i4⟩:=ud n1 n2 n3 ho on us (wr++[zs]) Y1 (some u) r6' (k2.get h1 n2 n3) k1 k2.well (by simp;omega) (fun r hr=>by
   rcases QN.mp hr with h|h
   ·exact h5 r h
   ·rw[Qg.mp h];exact⟨k3,k4,k5⟩)
  exact⟨wr',Y',r5'',r6'',(iU trivial rfl e).trans ih,i1,k2.trans i2,i3,by rw[i4];simp;omega⟩
end
variable{Y:Sto}{b:Int}{rf ef:List Int}
section
variable{jr je:Nat}
theorem E6{us:List U}{l:Nat}(hl:S[l]?=some (.lst us))(h:1<=us.length):fSl (.ref l) (some 1) none S=some (.ref S.length,S++[.lst (us.drop 1)]):=by
 have e:HT.sIx us.length 0 (some (1:Int))=1:=by
  have:=HT.sIx_nat (n:=us.length) (d:=0) (k:=1);rw[show((1:Nat):Int)=1 from rfl]at this;rw[this];omega
 simp only[fSl,hl,HT.sIx_none,e,o7];rw[ZI (by simp)]
def Ia:CE:=cOp dS (ki (ag (xI (cC (.int 1))) aB)) (a6 (iTp (cOp fIx (au 4) (au 5))) (gNm 0) (aN (cOp fNe (au 0) (au 1))) (au 0) 1 [9])
def Jg:CE:=cOp dS (ki (ag (xI (cC (.int 1))) aB)) (a6 (iTp (cSl (au 6) (some (cC (.int 1))) none)) (gNm 0) (aN (cOp fLt (cBM bx (au 2) (ag (au 0) aB)) (cBM bx (au 2) (ag (au 1) aB)))) (au 0) 1 [9,3])
def G9:CE:=cOp fIx (ki (ag (cOp fIx (au 10) (xI (cC (.int 1)))) (ag (cOp fIx (au 6) (cCB fv (ag (au 0) (ag (cCB jn (ag (au 6) aB)) aB)))) aB))) (cCB GI (ag (cOp fEq (cCB fv (ag (au 0) (ag (cC (.int 5)) aB))) (cC (.int 0))) aB))
theorem DM{G:Sto}{vs:List Int}(hl:vs.length<=900):dS (.ref Y.length) (.ref (Y.length+1)) (Y++(.lst [.int (-1)]::.lst (vs.map U.int)::G))=some (.ref (Y.length+(2+G.length)),Y++(.lst [.int (-1)]::.lst (vs.map U.int)::(G++[.lst ((-1::vs).map U.int)]))):=by
 rw[A8 (us:=[.int (-1)]) (vs:=vs.map U.int) (by rw[ga0];rfl) (by rw[ga];rfl) (by unfold LIM;simp;omega)];have ln:(Y++(O.lst [.int (-1)]::.lst (vs.map U.int)::G)).length=Y.length+(2+G.length):=by simp;omega
 rw[ln,Q8];rfl
theorem Ci(hw:Y[jw]?=some (.lst (wr.map rwU)))(b0:0<=b)(b1:b<wr.length)(hl:(wr.getD b.toNat []).length<=900) :
  ∃G n,Ia (rT lw most many jh jw (some (.int b)) r6 r7 r8 (some (.int a)) r10 r11 r12) Y=some (.ref (Y.length+n),Y++G)/\G[n]?=some (.lst ((-1::(wr.getD b.toNat []).filter (fun c=>!decide (c=a))).map U.int)):=by
 obtain⟨row,hrow⟩:∃row,row=wr.getD b.toNat []:=⟨_,rfl⟩;have ar:=xm (wr:=wr) b0 b1;rw[<-hrow]at ar hl ⊢;obtain⟨G,e⟩:=dX (S:=Y++[.lst [.int (-1)]]) (ok:=fun _=>True) (gg:=gNm 0) (ct:=aN (cOp fNe (au 0) (au 1))) (ce:=au 0) (f:=U.int) (p:=fun c=>!decide (c=a)) (v:=U.int) (Rel:=fun ρ=>∃r0,ρ=[r0,some (.int a)]) (fun _ _=>trivial) row [] [] [none,some (.int a)] ⟨_,rfl⟩ (by simp;omega) (fun c hc ys G ρ hρ=>by
  obtain⟨r0,rfl⟩:=hρ;refine⟨[some (.int c),some (.int a)],[],⟨_,rfl⟩,rfl,?_,fun _=>⟨[],?_⟩⟩
  ·rwa[Qn]
  ·rwa[Qn])
 simp only[ZZ]at e;have ln:(Y++[O.lst [.int (-1)]]).length=Y.length+1:=by rw[QZ];rfl
 rw[ln]at e;simp only[Q8,Qv,ZZ]at e;obtain⟨vs,hvs⟩:∃vs,vs=row.filter (fun c=>!decide (c=a)):=⟨_,rfl⟩;rw[<-hvs]at e ⊢;have hv:vs.length<=900:=by rw[hvs];exact Qu (XJ ..) hl
 have hw1:(Y++[O.lst [.int (-1)]])[jw]?=some (.lst (wr.map rwU)):=ax hw;have hi:cOp fIx (au 4) (au 5) (rT lw most many jh jw (some (.int b)) r6 r7 r8 (some (.int a)) r10 r11 r12) (Y++[.lst [.int (-1)]])=some (.tup (row.map U.int),Y++[.lst [.int (-1)]]):=by
  rwa[rT,hw1,ar]
 have hc:a6 (iTp (cOp fIx (au 4) (au 5))) (gNm 0) (aN (cOp fNe (au 0) (au 1))) (au 0) 1 [9] (rT lw most many jh jw (some (.int b)) r6 r7 r8 (some (.int a)) r10 r11 r12) (Y++[.lst [.int (-1)]])=some (.ref (Y.length+1),Y++(.lst [.int (-1)]::.lst (vs.map U.int)::G)):=by
  unfold a6 iTp;rw[hi,QQ];simp only[QQ,me,rT,Za,Qx,XU,ZH,Qd,ZX,Qv,ZZ,ln,e,Q8]
 refine⟨.lst [.int (-1)]::.lst (vs.map U.int)::(G++[.lst ((-1::vs).map U.int)]),2+G.length,?_,?_⟩
 ·have hcat:=DM (Y:=Y) (G:=G) hv;obtain⟨ev,hev⟩:∃ev,ev=(-1::vs).map U.int:=⟨_,rfl⟩;rw[<-hev]at hcat ⊢;unfold Ia;rwa[t4,nh,hc,hcat]
 ·rw[show 2+G.length=G.length+1+1 from by omega,Qd,Qd,ga0];rfl
theorem DC(hr:Y[jr]?=some (.lst ((-1::rf).map U.int)))(hh:Y[jh]?=some (.lst (os.map U.int)))(ha:a∈os)(hm:∀c∈rf,c∈os)(hl:rf.length<=900)(ho:os.length<=900) :
  ∃G n ef,Jg (rT lw most many jh jw r5 (some (.ref jr)) r7 r8 (some (.int a)) r10 r11 r12) Y=some (.ref (Y.length+n),Y++G)/\G[n]?=some (.lst ((-1::ef).map U.int))/\∀c∈ef,c∈rf:=by
 have hsl:cSl (au 6) (some (cC (.int 1))) none (rT lw most many jh jw r5 (some (.ref jr)) r7 r8 (some (.int a)) r10 r11 r12) (Y++[.lst [.int (-1)]])=some (.ref (Y.length+1),Y++[.lst [.int (-1)],.lst (rf.map U.int)]):=by
  have hv:au 6 (rT lw most many jh jw r5 (some (.ref jr)) r7 r8 (some (.int a)) r10 r11 r12) (Y++[.lst [.int (-1)]])=some (.ref jr,Y++[.lst [.int (-1)]]):=rfl;have h1:cC (.int 1) (rT lw most many jh jw r5 (some (.ref jr)) r7 r8 (some (.int a)) r10 r11 r12) (Y++[.lst [.int (-1)]])=some (.int 1,Y++[.lst [.int (-1)]]):=rfl;have ln:(Y++[O.lst [.int (-1)]]).length=Y.length+1:=by rw[QZ];rfl
  have hs:=E6 (S:=Y++[.lst [.int (-1)]]) (us:=(-1::rf).map U.int) (ax hr) (by simp);rw[ln,Q8]at hs;simp only[cSl,iH,hv,h1,QQ];exact hs
 obtain⟨G,e⟩:=dX (S:=Y++[.lst [.int (-1)],.lst (rf.map U.int)]) (ok:=fun S=>S[Y.length+1]?=some (.lst (rf.map U.int))) (gg:=gNm 0) (ct:=aN (cOp fLt (cBM bx (au 2) (ag (au 0) aB)) (cBM bx (au 2) (ag (au 1) aB)))) (ce:=au 0) (f:=U.int) (p:=fun c=>decide (((os.idxOf c:Nat):Int)<((os.idxOf a:Nat):Int))) (v:=U.int) (Rel:=fun ρ=>∃r0,ρ=[r0,some (.int a),some (.ref jh)]) (fun ys G=>by rw[Q8,ga];rfl) rf [] [] [none,some (.int a),some (.ref jh)] ⟨_,rfl⟩ (by simp;omega) (fun c hc ys G ρ hρ=>by
  obtain⟨r0,rfl⟩:=hρ;have hh':∀X,(Y++X)[jh]?=some (.lst (os.map U.int)):=fun X=>ax hh;have i1:∀X,bx (.ref jh) [.int c] (Y++X)=some (.int (os.idxOf c:Nat),Y++X):=fun X=>cY (hh' X) (hm c hc) ho;have i2:∀X,bx (.ref jh) [.int a] (Y++X)=some (.int (os.idxOf a:Nat),Y++X):=fun X=>cY (hh' X) ha ho;refine⟨[some (.int c),some (.int a),some (.ref jh)],[],⟨_,rfl⟩,rfl,?_,fun _=>⟨[],?_⟩⟩
  ·rwa[hh',i1,i2,Qn]
  ·rwa[Qn])
 simp only[ZZ]at e;have ln:(Y++[O.lst [.int (-1)],.lst (rf.map U.int)]).length=Y.length+2:=by rw[QZ];rfl
 have gz:(Y++[O.lst [.int (-1)],.lst (rf.map U.int)])[Y.length+1]?=some (.lst (rf.map U.int)):=by rw[ga];rfl
 rw[ln]at e;simp only[Q8,Qv,ZZ]at e;obtain⟨vs,hvs⟩:∃vs,vs=rf.filter (fun c=>decide (((os.idxOf c:Nat):Int)<((os.idxOf a:Nat):Int))):=⟨_,rfl⟩;rw[<-hvs]at e;have hv:vs.length<=900:=by rw[hvs];exact Qu (XJ ..) hl
 have hc:a6 (iTp (cSl (au 6) (some (cC (.int 1))) none)) (gNm 0) (aN (cOp fLt (cBM bx (au 2) (ag (au 0) aB)) (cBM bx (au 2) (ag (au 1) aB)))) (au 0) 1 [9,3] (rT lw most many jh jw r5 (some (.ref jr)) r7 r8 (some (.int a)) r10 r11 r12) (Y++[.lst [.int (-1)]])=some (.ref (Y.length+2),Y++(.lst [.int (-1)]::.lst (rf.map U.int)::.lst (vs.map U.int)::G)):=by
  unfold a6 iTp;rw[hsl,QQ];simp only[gz,QQ,me,rT,Za,Qx,XU,ZH,Qd,ZX,Qv,ZZ,ln,e,Q8]
 have hcat:dS (.ref Y.length) (.ref (Y.length+2)) (Y++(.lst [.int (-1)]::.lst (rf.map U.int)::.lst (vs.map U.int)::G))=some (.ref (Y.length+(3+G.length)),Y++(.lst [.int (-1)]::.lst (rf.map U.int)::.lst (vs.map U.int)::(G++[.lst ((-1::vs).map U.int)]))):=by
  rw[A8 (us:=[.int (-1)]) (vs:=vs.map U.int) (by rw[ga0];rfl) (by rw[ga];rfl) (by unfold LIM;simp;omega)];have ln:(Y++(O.lst [.int (-1)]::.lst (rf.map U.int)::.lst (vs.map U.int)::G)).length=Y.length+(3+G.length):=by simp;omega
  rw[ln,Q8];rfl
 refine⟨.lst [.int (-1)]::.lst (rf.map U.int)::.lst (vs.map U.int)::(G++[.lst ((-1::vs).map U.int)]),3+G.length,vs,?_,?_,fun c hc=>by rw[hvs]at hc;exact(Zv.mp hc).1⟩
 ·obtain⟨ev,hev⟩:∃ev,ev=(-1::vs).map U.int:=⟨_,rfl⟩;rw[<-hev]at hcat ⊢;unfold Jg;rwa[t4,nh,hc,hcat]
 ·rw[show 3+G.length=G.length+1+1+1 from by omega,Qd,Qd,Qd,ga0];rfl
theorem BY(he:Y[je]?=some (.lst ((-1::ef).map U.int)))(hr:Y[jr]?=some (.lst ((-1::rf).map U.int)))(wl:∃z,Y[lw]?=some (.lst [.int z]))(n1:jr≠lw)(hl:rf.length<=900)(hef:∀c∈ef,c∈rf) :
  ∃v Y',G9 (rT lw most many jh jw r5 (some (.ref jr)) r7 r8 r9 (some (.ref je)) r11 r12) Y=some (.int v,Y')/\Wl lw Y Y'/\(v=-1\/v∈rf):=by
 obtain⟨v1,hv1⟩:∃v1,v1=ef.getLast?.getD (-1):=⟨_,rfl⟩;have m1:v1=-1\/v1∈rf:=by
  rw[hv1];cases hg:ef.getLast? with
  |none=>exact .inl rfl
  |some x=>exact .inr (hef x (List.mem_of_getLast? hg))
 have a1:atI ((-1::ef).map U.int) (-1)=some (.int v1):=by rw[hv1];exact GV ef
 obtain⟨eu,heu⟩:∃eu,eu=(-1::ef).map U.int:=⟨_,rfl⟩;obtain⟨ru,hru⟩:∃ru,ru=(-1::rf).map U.int:=⟨_,rfl⟩;have lru:ru.length=rf.length+1:=by rw[hru];simp
 rw[<-heu]at he a1;rw[<-hru]at hr;obtain⟨d,Y1,e1,w1,l1,d0,d1⟩:=cM (m:=((ru.length:Nat):Int)) wl (by omega) (by omega);have hr1:Y1[jr]?=some (.lst ru):=w1.get hr n1;obtain⟨v2,a2,m2⟩:∃v2,atI ru d=some (.int v2)/\(v2=-1\/v2∈rf):=by
  have hi:d.toNat<(-1::rf).length:=by simp;omega
  have:=eC (xs:=ru) (j:=d.toNat) (v:=.int (-1::rf)[d.toNat]) (by rw[hru,Qb,Q4 hi];rfl);rw[show((d.toNat:Nat):Int)=d from by omega]at this;exact⟨_,this,Qk.mp (ZR hi)⟩
 obtain⟨d2,Y2,e2,w2,l2,_,_⟩:=cM (T:=Y1++[.lst [.int v1,.int v2]]) (lw:=lw) (m:=5) (by obtain⟨z,h⟩:=w1.well;exact⟨z,ax h⟩) (by omega) (by omega);have ll:lw<Y1.length:=by obtain⟨z,h⟩:=w1.well;exact(Q7.mp h).1
 have g2:Y2[Y1.length]?=some (.lst [.int v1,.int v2]):=w2.get (by rw[ga0];rfl) (by omega);have W:Wl lw Y Y2:=(w1.trans (.app w1.well _)).trans w2;by_cases h0:d2=0
 ·have h0':decide (d2=0)=true:=decide_eq_true h0;refine⟨v2,Y2,?_,W,m2⟩;unfold G9;rwa[rT,t4,nh,he,a1,hr,e1,hr1,a2,e2,h0',if_true,g2]
 ·have h0':decide (d2=0)=false:=decide_eq_false h0;refine⟨v1,Y2,?_,W,m1⟩;unfold G9;rwa[rT,t4,nh,he,a1,hr,e1,hr1,a2,e2,h0',Qr,if_false,g2]
end
variable{α β:Type}
section
variable{κ κ':Type}[DecidableEq κ][DecidableEq κ']
theorem qO(kf:κ->κ')(vf:α->β)(inj:∀a b,kf a=kf b->a=b)(ps:List (κ×α))(k:κ)(v:α):jc (ps.map fun p=>(kf p.1,vf p.2)) (kf k) (vf v)=(jc ps k v).map fun p=>(kf p.1,vf p.2):=by
 have hd:∀a,decide (kf a=kf k)=decide (a=k):=fun a=>by
  rw[Zi,decide_eq_true_eq,decide_eq_true_eq];exact⟨inj a k,fun h=>by rw[h]⟩
 have ha:((ps.map fun p=>(kf p.1,vf p.2)).any fun kv=>decide (kv.1=kf k))=ps.any fun kv=>decide (kv.1=k):=by
  rw[List.any_map];congr 1;funext p;exact hd p.1
 unfold jc;rw[ha];by_cases h:(ps.any fun kv=>decide (kv.1=k))=true
 ·rw[if_pos h,if_pos h,Qe,Qe];refine XE fun p _=>?_;show(if kf p.1=kf k then(kf p.1,vf v)else(kf p.1,vf p.2))=_;by_cases e:p.1=k
  ·simp[e]
  ·have e':¬kf p.1=kf k:=fun z=>e (inj _ _ z);simp[e,e']
 ·rw[if_neg h,if_neg h,Qt];rfl
theorem vd{ps:List (κ×α)}{k:κ}{v:α}(h:(ps.map (·.1)).Nodup):((jc ps k v).map (·.1)).Nodup:=by
 unfold jc;by_cases e:(ps.any fun kv=>decide (kv.1=k))=true
 ·rw[if_pos e,Qe];have:((fun x:κ×α=>x.1) ∘ fun kv=>if kv.1=k then(kv.1,v)else kv)=fun x=>x.1:=by
   funext p;show(if p.1=k then(p.1,v)else p).1=p.1;split<;>rfl
  rw[this];exact h
 ·rw[if_neg e,Qt,XS];refine⟨h,by simp,fun a ha b hb z=>?_⟩;rw[List.map_singleton,Qg]at hb;obtain⟨p,hp,hp2⟩:=Qc.mp ha;exact e (List.any_eq_true.mpr ⟨p,hp,decide_eq_true (by rw[hp2,z,hb])⟩)
theorem nK{ps:List (κ×α)}{k:κ}{v:α}{q:κ×α}(h:q∈jc ps k v):q=(k,v)\/q∈ps:=by
 unfold jc at h;split at h
 ·obtain⟨p,hp,e⟩:=Qc.mp h;by_cases z:p.1=k
  ·rw[if_pos z]at e;rw[<-e,z];exact .inl rfl
  ·rw[if_neg z]at e;rw[<-e];exact .inr hp
 ·rcases QN.mp h with z|z
  ·exact .inr z
  ·rw[Qg.mp z];exact .inl rfl
theorem qy{ps:List (κ×α)}{p:κ×α}(nd:(ps.map (·.1)).Nodup)(h:p∈ps):kI ps p.1=some p.2:=by
 unfold kI;induction ps with
 |nil=>cases h
 |cons q r ih=>
  rw[Qx,Zb]at nd;rcases Qk.mp h with z|z
  ·subst z;simp
  ·have:q.1≠p.1:=fun e=>nd.1 (Qc.mpr ⟨p,z,e.symm⟩);rw[Zl,decide_eq_false this];exact ih nd.2 z
end
def kT(p:Int×Int):List Key:=[.inl p.1,.inl p.2]
theorem v7:∀a b:Int×Int,kT a=kT b->a=b:=fun a b h=>by
 unfold kT at h;injection h with h1 h2;injection h2 with h3 _;exact Prod.ext (Sum.inl.inj h1) (Sum.inl.inj h3)
def i7(ps:List ((Int×Int)×Int)):List (List Key×U):=ps.map fun p=>(kT p.1,.int p.2)
def o6(ps:List ((Int×Int)×Unit)):List (List Key×U):=ps.map fun p=>(kT p.1,.bl true)
theorem yF(ps:List ((Int×Int)×Int))(k:Int×Int)(v:Int):jc (i7 ps) (kT k) (.int v)=i7 (jc ps k v):=qO kT U.int v7 ps k v
theorem yE(ps:List ((Int×Int)×Unit))(k:Int×Int):jc (o6 ps) (kT k) (.bl true)=o6 (jc ps k ()):=qO kT (fun _=>U.bl true) v7 ps k ()
theorem E9{ca cb:CS}{ρ ρ':Rho}{S S':Sto}(h:ca ρ S=some (.nx,ρ',S')):bo ca cb ρ S=cb ρ' S':=by rw[tZ,h,QQ,ng]
variable{jk:Nat}
def InB(many:Int)(wr:List (List Int))(ps:List ((Int×Int)×Int)):Prop:=∀p∈ps,(0<=p.1.1/\p.1.1<many)/\0<=p.1.2/\p.1.2<wr.length/\(p.2=-1\/(p.2∈wr.getD p.1.2.toNat []/\p.2≠p.1.1))
theorem Dc{ps:List ((Int×Int)×Int)}(n1:jw≠lw)(n2:jh≠lw)(n3:jk≠lw)(n4:jw≠jk)(n5:jh≠jk)(m0:1<=many)(m1:many<=90)(w0:1<=wr.length)(wl1:wr.length<=90)
  (hh:Y[jh]?=some (.lst (os.map U.int))) (hw:Y[jw]?=some (.lst (wr.map rwU))) (hk:Y[jk]?=some (.dit (i7 ps))) (wl:∃z,Y[lw]?=some (.lst [.int z])) (ho:os.length<=90) (hm:∀a,0<=a->a<many->a∈os) (hr:∀r∈wr,(∀z∈r,z∈os)/\r.length<=90/\r.Nodup) (hp:ps.length<=90) (ib:InB many wr ps) (nd:(ps.map (·.1)).Nodup) :
  ∃(ps':List ((Int×Int)×Int)) (Y':Sto) (r5' r6' r9' r10':Option U),c0 fv dz (rT lw most many jh jw r5 r6 (some (.ref jk)) r8 r9 r10 r11 r12) Y=some (.nx,rT lw most many jh jw r5' r6' (some (.ref jk)) r8 r9' r10' r11 r12,Y')/\Y'[jk]?=some (.dit (i7 ps'))/\Fw lw jk Y Y'/\InB many wr ps'/\(ps'.map (·.1)).Nodup/\ps'.length<=ps.length+1:=by
 obtain⟨a,Y1,e1,w1,l1,a0,a1⟩:=cM (m:=many) wl (by omega) (by omega);have hw1:Y1[jw]?=some (.lst (wr.map rwU)):=w1.get hw n1;obtain⟨b,Y2,e2,w2,l2,b0,b1⟩:=cM (m:=(wr.length:Int)) w1.well (by omega) (by omega);have hw2:Y2[jw]?=some (.lst (wr.map rwU)):=w2.get hw1 n1;have hb:b.toNat<wr.length:=by omega
 have hrow:wr.getD b.toNat []∈wr:=by rw[Q9,Q4 hb];exact ZR hb
 obtain⟨q1,q2,_⟩:=hr _ hrow;obtain⟨G3,k3,e3,g3⟩:=Ci (lw:=lw) (most:=most) (many:=many) (jh:=jh) (r6:=r6) (r7:=some (.ref jk)) (r8:=r8) (a:=a) (r10:=r10) (r11:=r11) (r12:=r12) hw2 b0 b1 (by omega);obtain⟨rf,hrf⟩:∃rf,rf=(wr.getD b.toNat []).filter (fun c=>!decide (c=a)):=⟨_,rfl⟩;rw[<-hrf]at g3;have lrf:rf.length<=90:=by rw[hrf];exact Qu (XJ ..) q2
 have hrm:∀c∈rf,c∈os:=fun c hc=>by rw[hrf]at hc;exact q1 c (Zv.mp hc).1
 have gr:(Y2++G3)[Y2.length+k3]?=some (.lst ((-1::rf).map U.int)):=by rw[ga];exact g3
 have hh2:(Y2++G3)[jh]?=some (.lst (os.map U.int)):=ax (w2.get (w1.get hh n2) n2);obtain⟨G4,k4,ef,e4,g4,hef⟩:=DC (lw:=lw) (most:=most) (many:=many) (jw:=jw) (r5:=some (.int b)) (r7:=some (.ref jk)) (r8:=r8) (a:=a) (r10:=r10) (r11:=r11) (r12:=r12) gr hh2 (hm a a0 a1) hrm (by omega) (by omega);have ge:(Y2++G3++G4)[(Y2++G3).length+k4]?=some (.lst ((-1::ef).map U.int)):=by rw[ga];exact g4
 have ll:lw<Y2.length:=by obtain⟨z,h⟩:=w2.well;exact(Q7.mp h).1
 have wl4:∃z,(Y2++G3++G4)[lw]?=some (.lst [.int z]):=by obtain⟨z,h⟩:=w2.well;exact⟨z,ax (ax h)⟩
 obtain⟨v,Y5,e5,w5,hv⟩:=BY (most:=most) (many:=many) (jh:=jh) (jw:=jw) (r5:=some (.int b)) (r7:=some (.ref jk)) (r8:=r8) (r9:=some (.int a)) (r11:=r11) (r12:=r12) ge (ax gr) wl4 (by omega) (by omega) hef;have W:Wl lw Y Y5:=((w1.trans w2).trans ((Wl.app w2.well G3).trans (.app (by obtain⟨z,h⟩:=w2.well;exact⟨z,ax h⟩) G4))).trans w5;have hk5:Y5[jk]?=some (.dit (i7 ps)):=W.get hk n3;have lk5:jk<Y5.length:=(Q7.mp hk5).1;have hlim:(i7 ps).length<LIM/\[U.int a,U.int b].length<=LIM:=by unfold LIM i7;rw[QX];exact⟨by omega,by simp⟩
 have htk:B2 [U.int a,U.int b]=some (kT (a,b)):=rfl;refine⟨jc ps (a,b) v,Y5.set jk (.dit (i7 (jc ps (a,b) v))),some (.int b),some (.ref (Y2.length+k3)),some (.int a),some (.ref ((Y2++G3).length+k4)),?_,by rw[Zz,if_pos rfl,if_pos lk5],(Fw.of W).trans (.set W.well n3 _),fun p hp=>?_,vd nd,rq ..⟩
 ·unfold c0;refine(E9 (ρ':=rT lw most many jh jw r5 r6 (some (.ref jk)) r8 (some (.int a)) r10 r11 r12) (S':=Y1) ?_).trans ?_
  ·rwa[rT,e1]
  refine(E9 (ρ':=rT lw most many jh jw (some (.int b)) r6 (some (.ref jk)) r8 (some (.int a)) r10 r11 r12) (S':=Y2) ?_).trans ?_
  ·rwa[rT,hw1,QX,e2]
  refine(E9 (ρ':=rT lw most many jh jw (some (.int b)) (some (.ref (Y2.length+k3))) (some (.ref jk)) r8 (some (.int a)) r10 r11 r12) (S':=Y2++G3) ?_).trans ?_
  ·show cG 6 Ia _ _=_;rw[sx,e3,QQ,kH];rfl
  refine(E9 (ρ':=rT lw most many jh jw (some (.int b)) (some (.ref (Y2.length+k3))) (some (.ref jk)) r8 (some (.int a)) (some (.ref ((Y2++G3).length+k4))) r11 r12) (S':=Y2++G3++G4) ?_).trans ?_
  ·show cG 10 Jg _ _=_;rw[sx,e4,QQ,kH];rfl
  ·show gE (au 7) (ag (au 9) (ag (au 5) aB)) G9 _ _=_;unfold gE;rw[e5,QQ];have hc7:au 7 (rT lw most many jh jw (some (.int b)) (some (.ref (Y2.length+k3))) (some (.ref jk)) r8 (some (.int a)) (some (.ref ((Y2++G3).length+k4))) r11 r12) Y5=some (.ref jk,Y5):=rfl;have hca:ag (au 9) (ag (au 5) aB) (rT lw most many jh jw (some (.int b)) (some (.ref (Y2.length+k3))) (some (.ref jk)) r8 (some (.int a)) (some (.ref ((Y2++G3).length+k4))) r11 r12) Y5=some ([.int a,.int b],Y5):=rfl;dsimp only;rw[hc7,QQ];dsimp only;rw[hca,QQ];dsimp only;rw[hk5];dsimp only;rw[htk,QQ,if_pos hlim,yF]
 ·rcases nK hp with h|h
  ·rw[h];refine⟨⟨a0,a1⟩,b0,b1,hv.imp id fun z=>?_⟩;rw[hrf]at z;obtain⟨z1,z2⟩:=Zv.mp z;exact⟨z1,by simpa using z2⟩
  ·exact ib p h
theorem vU(n1:jw≠lw)(n2:jh≠lw)(n3:jk≠lw)(n4:jw≠jk)(n5:jh≠jk)(m0:1<=many)(m1:many<=90)(w0:1<=wr.length)(wl1:wr.length<=90)(ho:os.length<=90)(hm:∀a,0<=a->a<many->a∈os)(hr:∀r∈wr,(∀z∈r,z∈os)/\r.length<=90/\r.Nodup) :
  ∀(us:List U) (ps:List ((Int×Int)×Int)) (Y:Sto) (r5 r6 r8 r9 r10:Option U),Y[jh]?=some (.lst (os.map U.int))->Y[jw]?=some (.lst (wr.map rwU))->Y[jk]?=some (.dit (i7 ps))->(∃z,Y[lw]?=some (.lst [.int z]))->ps.length+us.length<=90->InB many wr ps->(ps.map (·.1)).Nodup->
  ∃(ps':List ((Int×Int)×Int)) (Y':Sto) (r5' r6' r8' r9' r10':Option U),cU (fun _=>True) (gNm 8) (c0 fv dz) us (rT lw most many jh jw r5 r6 (some (.ref jk)) r8 r9 r10 r11 r12) Y=some (.nx,rT lw most many jh jw r5' r6' (some (.ref jk)) r8' r9' r10' r11 r12,Y')/\Y'[jk]?=some (.dit (i7 ps'))/\Fw lw jk Y Y'/\InB many wr ps'/\(ps'.map (·.1)).Nodup/\ps'.length<=ps.length+us.length
 |[],ps,Y,r5,r6,r8,r9,r10,h1,h2,h3,h4,_,h6,h7=>⟨ps,Y,r5,r6,r8,r9,r10,fK trivial,h3,.of (.refl h4),h6,h7,by simp⟩
 |u::us,ps,Y,r5,r6,r8,r9,r10,h1,h2,h3,h4,h5,h6,h7=>by
  rw[QH]at h5;obtain⟨ps1,Y1,s5,s6,s9,s10,e,k1,k2,k3,k4,k5⟩:=Dc (most:=most) (r5:=r5) (r6:=r6) (r8:=some u) (r9:=r9) (r10:=r10) (r11:=r11) (r12:=r12) n1 n2 n3 n4 n5 m0 m1 w0 wl1 h1 h2 h3 h4 ho hm hr (by omega) h6 h7;obtain⟨ps',Y',t5,t6,t8,t9,t10,ih,i1,i2,i3,i4,i5⟩:=vU n1 n2 n3 n4 n5 m0 m1 w0 wl1 ho hm hr us ps1 Y1 s5 s6 (some u) s9 s10 (k2.get h1 n2 n5) (k2.get h2 n1 n4) k1 k2.well (by omega) k3 k4;exact⟨ps',Y',t5,t6,t8,t9,t10,(iU trivial rfl e).trans ih,i1,k2.trans i2,i3,i4,by rw[QH];omega⟩
def Wp{α:Type}(x:Option α)(Q:α->Prop):Prop:=∃r,x=some r/\Q r
section
variable{x:Option α}{Q P:α->Prop}
theorem ay{r:α}:Wp (some r) Q=Q r:=propext ⟨fun⟨_,e,h⟩=>by cases e;exact h,fun h=>⟨r,rfl,h⟩⟩
theorem Wp.bind{k:α->Option β}{Q:β->Prop}(h:Wp x fun r=>Wp (k r) Q):Wp (x.bind k) Q:=by
 obtain⟨r,rfl,s,e,q⟩:=h;exact⟨s,e,q⟩
theorem Wp.mono(h:Wp x P)(i:∀r,P r->Q r):Wp x Q:=let ⟨r,e,p⟩:=h;⟨r,e,i r p⟩
theorem Wp.of{r:α}(h:x=some r)(q:Q r):Wp x Q:=⟨r,h,q⟩
end
section
variable{ci:CI}{ca:CE}{gg:CG}{ct t:CT}{ce:CE}{cb:CS}{caps:List Nat}{ρ:Rho}{cs:Rho}{S1:Sto}{ok:Sto->Prop}{xs:List α}{f v g:α->U}{p:α->Bool}{Q:U×Sto->Prop}{R:Out×Rho×Sto->Prop}
theorem oa(h:ca ρ S=some (.ref l,S1))(hl:S1[l]?=some (.lst us)):iTp ca ρ S=some (us,fun S=>S[l]?=some (.lst us),S1):=by
 unfold iTp;rw[h,QQ];simp only[hl]
theorem zA(h:ca ρ S=some (.tup us,S1)):iTp ca ρ S=some (us,fun _=>True,S1):=by
 unfold iTp;rw[h,QQ]
theorem iW{cr:CA}{n:Int}(h:cr ρ S=some ([.int n],S1))(n0:0<=n)(n1:n<=1000):bj cr ρ S=some (bH 0 n.toNat,fun _=>True,S1):=by
 have hb:-(2^62)<=n/\n<2^62:=by omega
 unfold bj;rw[h,QQ];simp only[hb,and_self,if_true]
theorem kO(n:Nat):bH 0 n=(Qz n).map fun i:Nat=>U.int (i:Int):=by rw[jJ,Qe];rfl
theorem lM(hi:ci ρ S=some (xs.map f,ok,S1))(hok:∀G,ok (S1++G))(hn:xs.length<=9000)(hr:me 1 caps ρ=none::cs)
  (hb:∀x∈xs,∀G,Wp (ct (some (f x)::cs) (S1++G)) fun s=>s.1=p x/\∃G1,s.2=S1++G++G1/\(p x=true->Wp (ce (some (f x)::cs) (S1++G++G1)) fun t=>t.1=v x/\∃G2,t.2=S1++G++G1++G2))
  (hQ:∀G,Q (.ref S1.length,S1++(.lst ((xs.filter p).map v)::G))):Wp (a6 ci (gNm 0) ct ce 1 caps ρ S) Q:=by
 obtain⟨G,e⟩:=dX (S:=S1) (ok:=ok) (gg:=gNm 0) (ct:=ct) (ce:=ce) (f:=f) (p:=p) (v:=v) (Rel:=fun ρ=>∃r0,ρ=r0::cs) (fun ys G=>hok _) xs [] [] (none::cs) ⟨_,rfl⟩ (by simp;omega) (fun x hx ys G ρ hρ=>by
  obtain⟨r0,rfl⟩:=hρ;obtain⟨⟨b,S2⟩,e1,e2,G1,e3,h⟩:=hb x hx (.lst ys::G);dsimp only at e2 e3;subst e2 e3;refine⟨some (f x)::cs,G1,⟨_,rfl⟩,rfl,by rw[e1,Q8,Qv],fun hp=>?_⟩;obtain⟨⟨b,S2⟩,e4,e5,G2,e6⟩:=h hp;dsimp only at e5 e6;subst e5 e6;refine⟨G2,?_⟩;simp only[Q8,Qv]at e4 ⊢;exact e4)
 refine⟨_,?_,hQ G⟩;unfold a6;rw[hi,QQ,hr];dsimp only;rw[e];rfl
theorem sF(hi:ci ρ S=some (xs.map f,ok,S1))(hok:∀G,ok (S1++G))(hn:xs.length<=9000)(hr:me 1 caps ρ=none::cs)
  (hb:∀x∈xs,∀G,Wp (ce (some (f x)::cs) (S1++G)) fun t=>t.1=v x/\∃G2,t.2=S1++G++G2)
  (hQ:∀G,Q (.ref S1.length,S1++(.lst (xs.map v)::G))):Wp (iI ci (gNm 0) ce 1 caps ρ S) Q:=by
 obtain⟨G,e⟩:=mO (S:=S1) (ok:=ok) (gg:=gNm 0) (ce:=ce) (f:=f) (v:=v) (Rel:=fun ρ=>∃r0,ρ=r0::cs) (fun ys G=>hok _) xs [] [] (none::cs) ⟨_,rfl⟩ (by simp;omega) (fun x hx ys G ρ hρ=>by
  obtain⟨r0,rfl⟩:=hρ;obtain⟨⟨b,S2⟩,e1,e2,G1,e3⟩:=hb x hx (.lst ys::G);dsimp only at e2 e3;subst e2 e3;exact⟨some (f x)::cs,G1,⟨_,rfl⟩,rfl,by rw[e1,Q8,Qv]⟩)
 refine⟨_,?_,hQ G⟩;unfold iI;rw[hi,QQ,hr];dsimp only;rw[e];rfl
theorem EN(hf:∀x,f x=.tup [g x,v x]){w:α->U}(hi:ci ρ S=some (xs.map f,ok,S1))(hok:∀G,ok (S1++G))(hn:xs.length<=9000)(hr:me 2 caps ρ=none::none::cs)
  (hb:∀x∈xs,∀G,Wp (ce (some (g x)::some (v x)::cs) (S1++G)) fun t=>t.1=w x/\∃G2,t.2=S1++G++G2)
  (hQ:∀G,Q (.ref S1.length,S1++(.lst (xs.map w)::G))):Wp (iI ci (gTp [0,1]) ce 2 caps ρ S) Q:=by
 obtain⟨G,e⟩:=mO (S:=S1) (ok:=ok) (gg:=gTp [0,1]) (ce:=ce) (f:=f) (v:=w) (Rel:=fun ρ=>∃r0 r1,ρ=r0::r1::cs) (fun ys G=>hok _) xs [] [] (none::none::cs) ⟨_,_,rfl⟩ (by simp;omega) (fun x hx ys G ρ hρ=>by
  obtain⟨r0,r1,rfl⟩:=hρ;obtain⟨⟨b,S2⟩,e1,e2,G1,e3⟩:=hb x hx (.lst ys::G);dsimp only at e2 e3;subst e2 e3;exact⟨some (g x)::some (v x)::cs,G1,⟨_,_,rfl⟩,by rw[hf];rfl,by rw[e1,Q8,Qv]⟩)
 refine⟨_,?_,hQ G⟩;unfold iI;rw[hi,QQ,hr];dsimp only;rw[e];rfl
theorem J7{F:Fn}(h:Wp (ce ρ S) fun r=>Wp (F [r.1] r.2) Q):Wp (cCB F (ag ce aB) ρ S) Q:=by
 obtain⟨⟨u,S2⟩,e,r,e2,q⟩:=h;refine⟨r,?_,q⟩;rw[G8,qp,e];exact e2
theorem J8{bs:List Bool}(hl:S[l]?=some (.lst (bs.map U.bl)))(q:Q (.bl (bs.any id),S)):Wp (GJ [.ref l] S) Q:=
 .of (by simp only[GJ,hl,iJ,QQ]) q
theorem ux(hi:ci ρ S=some (us,ok,S1))(h:Wp (cU ok gg cb us ρ S1) R):Wp (lI ci gg cb ρ S) R:=by
 unfold lI;rw[hi];exact h
theorem nv(I:List α->Rho->Sto->Prop)(h0:∀ρ S,I [] ρ S->ok S/\R (.nx,ρ,S))
  (h1:∀x xs ρ S,I (x::xs) ρ S->ok S/\Wp (gg (f x) ρ S) fun r=>Wp (cb r.1 r.2) fun s=>(s.1=.nx/\I xs s.2.1 s.2.2)\/∃v,s.1=.rt v/\R s) :
  ∀(xs:List α) (ρ:Rho) (S:Sto),I xs ρ S->Wp (cU ok gg cb (xs.map f) ρ S) R
 |[],ρ,S,h=>by
  obtain⟨a,b⟩:=h0 ρ S h;exact .of (fK a) b
 |x::xs,ρ,S,h=>by
  obtain⟨a,⟨ρ0,S0⟩,e1,⟨o,ρ1,S1⟩,e2,c⟩:=h1 x xs ρ S h;rcases c with⟨c,i⟩|⟨v,c,q⟩
  ·cases c;obtain⟨r,e3,q⟩:=nv I h0 h1 xs ρ1 S1 i;exact⟨r,(iU a e1 e2).trans e3,q⟩
  ·cases c;exact⟨_,C9 a e1 e2,q⟩
theorem uw(I:Nat->Rho->Sto->Prop)(h:∀n ρ S,I n ρ S->Wp (t ρ S) fun p=>(p.1=false->R (.nx,ρ,p.2))/\(p.1=true->Wp (cb ρ p.2) fun s=>(s.1=.nx/\∃m,m<n/\I m s.2.1 s.2.2)\/∃v,s.1=.rt v/\R s)) :
  ∀(fuel n:Nat) (ρ:Rho) (S:Sto),n<fuel->I n ρ S->Wp (ck t cb fuel ρ S) R
 |0,n,ρ,S,hn,_=>by omega
 |fuel+1,n,ρ,S,hn,i=>by
  obtain⟨⟨b,S0⟩,e1,h0,h1⟩:=h n ρ S i;cases b with
  |false=>exact⟨_,nq e1,h0 rfl⟩
  |true=>
   obtain⟨⟨o,ρ1,S1⟩,e2,c⟩:=h1 rfl;rcases c with⟨c,m,hm,j⟩|⟨v,c,q⟩
   ·cases c;obtain⟨r,e3,q⟩:=uw I h fuel m ρ1 S1 (by omega) j;exact⟨r,(qw e1 e2).trans e3,q⟩
   ·cases c;exact⟨_,ya e1 e2,q⟩
theorem Wp.gj{x:Option (U×Sto)}(h:Wp x fun r=>∃j G,r.1=.ref j/\r.2=S++G/\r.2[j]?=some (.lst us)/\S.length<=j):∃G j,x=some (.ref j,S++G)/\(S++G)[j]?=some (.lst us)/\S.length<=j:=by
 obtain⟨⟨u,Y⟩,e,j,G,e1,e2,g,l⟩:=h;dsimp only at e1 e2 g;subst e1 e2;exact⟨G,j,e,g,l⟩
end
section
variable{jt:Nat}
def TmB(many:Int)(ts:List ((Int×Int)×Unit)):Prop:=∀p∈ts,(0<=p.1.1/\p.1.1<many)/\(0<=p.1.2/\p.1.2<many)/\p.1.1≠p.1.2
theorem B1{ts:List ((Int×Int)×Unit)}(n2:jh≠lw)(n3:jt≠lw)(m0:1<=many)(m1:many<=90)
  (hh:Y[jh]?=some (.lst (os.map U.int))) (hk:Y[jt]?=some (.dit (o6 ts))) (wl:∃z,Y[lw]?=some (.lst [.int z])) (ho:os.length<=90) (hm:∀a,0<=a->a<many->a∈os) (hp:ts.length<=90) (nd:(ts.map (·.1)).Nodup) (tb:TmB many ts) :
  ∃(ts':List ((Int×Int)×Unit)) (Y':Sto) (r9' r12':Option U),cx fv dz (rT lw most many jh jw r5 r6 r7 r8 r9 r10 (some (.ref jt)) r12) Y=some (.nx,rT lw most many jh jw r5 r6 r7 r8 r9' r10 (some (.ref jt)) r12',Y')/\Y'[jt]?=some (.dit (o6 ts'))/\Fw lw jt Y Y'/\(ts'.map (·.1)).Nodup/\ts'.length<=ts.length+1/\TmB many ts':=by
 obtain⟨a,Y1,e1,w1,l1,a0,a1⟩:=cM (m:=many) wl (by omega) (by omega);obtain⟨b,Y2,e2,w2,l2,b0,b1⟩:=cM (m:=many) w1.well (by omega) (by omega);have W:=w1.trans w2;have hh2:Y2[jh]?=some (.lst (os.map U.int)):=W.get hh n2;have hk2:Y2[jt]?=some (.dit (o6 ts)):=W.get hk n3;have i1:bx (.ref jh) [.int a] Y2=some (.int (os.idxOf a:Nat),Y2):=cY hh2 (hm a a0 a1) (by omega);have i2:bx (.ref jh) [.int b] Y2=some (.int (os.idxOf b:Nat),Y2):=cY hh2 (hm b b0 b1) (by omega);suffices h:Wp (cx fv dz (rT lw most many jh jw r5 r6 r7 r8 r9 r10 (some (.ref jt)) r12) Y) fun s=>s.1=.nx/\∃ts' r9' r12',s.2.1=rT lw most many jh jw r5 r6 r7 r8 r9' r10 (some (.ref jt)) r12'/\s.2.2[jt]?=some (.dit (o6 ts'))/\Fw lw jt Y s.2.2/\(ts'.map (·.1)).Nodup/\ts'.length<=ts.length+1/\TmB many ts' by
  obtain⟨⟨o,ρ,Y'⟩,e,rfl,ts',s9,s12,rfl,k⟩:=h;exact⟨ts',Y',s9,s12,e,k⟩
 have hlim:(o6 ts).length<LIM/\[U.int a,U.int b].length<=LIM:=by unfold LIM o6;rw[QX];exact⟨by omega,by simp⟩
 have hput:a≠b->∀Y3 (co:CE) (ca:CA) (cv:CE) ρ,Wl lw Y Y3->cv ρ Y3=some (.bl true,Y3)->co ρ Y3=some (.ref jt,Y3)->ca ρ Y3=some ([.int a,.int b],Y3)->ρ=rT lw most many jh jw r5 r6 r7 r8 (some (.int a)) r10 (some (.ref jt)) (some (.int b))->Wp (gE co ca cv ρ Y3) fun s=>s.1=.nx/\∃ts' r9' r12',s.2.1=rT lw most many jh jw r5 r6 r7 r8 r9' r10 (some (.ref jt)) r12'/\s.2.2[jt]?=some (.dit (o6 ts'))/\Fw lw jt Y s.2.2/\(ts'.map (·.1)).Nodup/\ts'.length<=ts.length+1/\TmB many ts':=fun nab Y3 co ca cv ρ W3 h1 h2 h3 hρ=>by
  have hk3:Y3[jt]?=some (.dit (o6 ts)):=W3.get hk n3;have htk:B2 [U.int a,U.int b]=some (kT (a,b)):=rfl;refine .of (r:=(.nx,ρ,Y3.set jt (.dit (o6 (jc ts (a,b) ()))))) ?_ ⟨rfl,jc ts (a,b) (),_,_,hρ,?_,(Fw.of W3).trans (.set W3.well n3 _),vd nd,rq ..,fun p hp=>(nK hp).elim (fun e=>by rw[e];exact⟨⟨a0,a1⟩,⟨b0,b1⟩,nab⟩) (tb p)⟩
  ·simp only[gE,h1,h2,h3,hk3,htk,QQ];rw[if_pos hlim,yE]
  ·rw[Zz,if_pos rfl,if_pos (Q7.mp hk3).1]
 unfold cx;obtain⟨ou,hou⟩:∃ou,ou=os.map U.int:=⟨_,rfl⟩;rw[<-hou]at hh2;by_cases h1:a=b
 ·have h1':decide (a=b)=true:=decide_eq_true h1;rwa[rT,e1,e2,h1',ay];exact⟨trivial,ts,_,_,rfl,hk2,.of W,nd,by omega,tb⟩
 ·have h1':decide (a=b)=false:=decide_eq_false h1;cases h2:decide (((os.idxOf a:Nat):Int)<((os.idxOf b:Nat):Int))with
  |true=>
   rwa[rT,e1,e2,h1',hh2,i1,i2,h2,ay];exact hput h1 Y2 _ _ _ _ W rfl rfl rfl rfl
  |false=>
   obtain⟨d,Y3,e3,w3,l3,d0,d1⟩:=cM (m:=6) w2.well (by omega) (by omega);cases h3:decide (d=0)with
   |true=>
    rwa[rT,e1,e2,h1',hh2,i1,i2,h2,e3,h3,ay];exact hput h1 Y3 _ _ _ _ (W.trans w3) rfl rfl rfl rfl
   |false=>
    rwa[rT,e1,e2,h1',hh2,i1,i2,h2,e3,h3,ay];exact⟨trivial,ts,_,_,rfl,w3.get hk2 n3,.of (W.trans w3),nd,by omega,tb⟩
theorem uB(n2:jh≠lw)(n3:jt≠lw)(n5:jh≠jt)(m0:1<=many)(m1:many<=90)(ho:os.length<=90)(hm:∀a,0<=a->a<many->a∈os) :
  ∀(us:List U) (ts:List ((Int×Int)×Unit)) (Y:Sto) (r8 r9 r12:Option U),Y[jh]?=some (.lst (os.map U.int))->Y[jt]?=some (.dit (o6 ts))->(∃z,Y[lw]?=some (.lst [.int z]))->ts.length+us.length<=90->(ts.map (·.1)).Nodup->TmB many ts->
  ∃(ts':List ((Int×Int)×Unit)) (Y':Sto) (r8' r9' r12':Option U),cU (fun _=>True) (gNm 8) (cx fv dz) us (rT lw most many jh jw r5 r6 r7 r8 r9 r10 (some (.ref jt)) r12) Y=some (.nx,rT lw most many jh jw r5 r6 r7 r8' r9' r10 (some (.ref jt)) r12',Y')/\Y'[jt]?=some (.dit (o6 ts'))/\Fw lw jt Y Y'/\(ts'.map (·.1)).Nodup/\ts'.length<=ts.length+us.length/\TmB many ts'
 |[],ts,Y,r8,r9,r12,h1,h3,h4,_,h7,h8=>⟨ts,Y,r8,r9,r12,fK trivial,h3,.of (.refl h4),h7,by simp,h8⟩
 |u::us,ts,Y,r8,r9,r12,h1,h3,h4,h5,h7,h8=>by
  rw[QH]at h5;obtain⟨ts1,Y1,s9,s12,e,k1,k2,k4,k5,k6⟩:=B1 (most:=most) (jw:=jw) (r5:=r5) (r6:=r6) (r7:=r7) (r8:=some u) (r9:=r9) (r10:=r10) (r12:=r12) n2 n3 m0 m1 h1 h3 h4 ho hm (by omega) h7 h8;obtain⟨ts',Y',t8,t9,t12,ih,i1,i2,i4,i5,i6⟩:=uB n2 n3 n5 m0 m1 ho hm us ts1 Y1 (some u) s9 s12 (k2.get h1 n2 n5) k1 k2.well (by omega) k4 k6;exact⟨ts',Y',t8,t9,t12,(iU trivial rfl e).trans ih,i1,k2.trans i2,i4,by rw[QH];omega,i6⟩
def oZ(p:(Int×Int)×Int):List Int:=[p.1.1,p.1.2,p.2]
def DY(p:(Int×Int)×Unit):List Int:=[p.1.1,p.1.2]
theorem kN:∀ts:List ((Int×Int)×Unit),sP (o6 ts)=some (ts.map DY)
 |[]=>rfl
 |p::ts=>by
  have ih:=kN ts;unfold o6 at ih ⊢;rw[Qx,sP,ih];rfl
theorem Ck{ts:List ((Int×Int)×Unit)}(h:(ts.map (·.1)).Nodup):(ts.map DY).Nodup:=by
 rw[Zc,Zy]at h ⊢;refine h.imp fun{p q} hn e=>hn ?_;unfold DY at e;injection e with e1 e2;injection e2 with e3 _;exact Prod.ext e1 e3
theorem Cj{ps:List ((Int×Int)×Int)}(h:(ps.map (·.1)).Nodup):(ps.map oZ).Nodup:=by
 rw[Zc,Zy]at h ⊢;refine h.imp fun{p q} hn e=>hn ?_;unfold oZ at e;injection e with e1 e2;injection e2 with e3 _;exact Prod.ext e1 e3
theorem iA{ps:List (List Int)}{r:List Int}(h:r∈fO ps):r∈ps:=by
 unfold fO at h;split at h
 ·rename_i hx;exact(hx.choose_spec.2 r).mp h
 ·cases h
theorem nB{ps:List (List Int)}:(fO ps).length<=ps.length:=by
 have nd:(fO ps).Nodup:=by
  unfold fO;split
  ·rename_i hx;exact hx.choose_spec.1.imp fun{a b} h e=>by subst e;rw[jP]at h;cases h
  ·exact List.nodup_nil
 exact List.Nodup.length_le_of_subset nd fun r hr=>iA hr
theorem sL{ts:List ((Int×Int)×Unit)}(h:S[jt]?=some (.dit (o6 ts)))(nd:(ts.map (·.1)).Nodup)(hl:ts.length<64):dE [.ref jt] S=some (.ref S.length,S++[.lst ((fO (ts.map DY)).map rwU)]):=by
 simp only[dE,h,kN,QQ];rw[if_pos ⟨fun p hp=>by obtain⟨q,_,rfl⟩:=Qc.mp hp;exact List.cons_ne_nil _ _,Ck nd,by rw[QX];exact hl⟩]
theorem sM{ps:List ((Int×Int)×Int)}{l:Nat}(h:S[l]?=some (.lst ((ps.map oZ).map rwU)))(nd:(ps.map (·.1)).Nodup)(hl:ps.length<64):dE [.ref l] S=some (.ref S.length,S++[.lst ((fO (ps.map oZ)).map rwU)]):=by
 simp only[dE,h,nF,QQ];rw[if_pos ⟨fun p hp=>by obtain⟨q,_,rfl⟩:=Qc.mp hp;exact List.cons_ne_nil _ _,Cj nd,by rw[QX];exact hl⟩]
def HV:CE:=rX (au 7) (gNm 0) (cOp dS (au 0) (fk (ag (cOp Dw (au 1) (au 0)) aB))) 1 [7]
theorem B0{ps:List ((Int×Int)×Int)}{ρ:Rho}(h7:ρ[7]?=some (some (.ref jk)))(hk:S[jk]?=some (.dit (i7 ps)))(nd:(ps.map (·.1)).Nodup)(hl:ps.length<=900):HV ρ S=some (.ref S.length,S++[.lst ((ps.map oZ).map rwU)]):=by
 have hv:au 7 ρ S=some (.ref jk,S):=by unfold au;rw[h7]
 have lk:jk<S.length:=(Q7.mp hk).1;unfold HV rX xc;rw[hv,QQ];simp only[hk];refine EO fun ep=>?_;have ek:∀X:Sto,(S.set jk (.fdt ep (i7 ps))++X)[jk]?=some (.fdt ep (i7 ps)):=fun X=>ax (by rw[Zz,if_pos rfl,if_pos lk]);have key:=oE (S:=S.set jk (.fdt ep (i7 ps))) (ok:=fun S'=>S'[jk]?=some (.fdt ep (i7 ps))) (gg:=gNm 0) (ce:=cOp dS (au 0) (fk (ag (cOp Dw (au 1) (au 0)) aB))) (f:=fun p:(Int×Int)×Int=>.tup [.int p.1.1,.int p.1.2]) (v:=fun p=>rwU (oZ p)) (Rel:=fun ρ=>∃r0,ρ=[r0,some (.ref jk)]) (fun ys G=>ek _) ps [] [] [none,some (.ref jk)] ⟨_,rfl⟩ (by simp;omega) (fun p hp ys G ρ hρ=>by
  obtain⟨r0,rfl⟩:=hρ;refine⟨[some (.tup [.int p.1.1,.int p.1.2]),some (.ref jk)],⟨_,rfl⟩,rfl,?_⟩;have hva:kI (i7 ps) (kT p.1)=some (.int p.2):=by
   have nd':((i7 ps).map (·.1)).Nodup:=by
    unfold i7;rw[Qe,Zc,Zy];rw[Zc,Zy]at nd;exact nd.imp fun{a b} hn e=>hn (v7 _ _ e)
   exact qy (p:=(kT p.1,.int p.2)) nd' (Qc.mpr ⟨p,hp,rfl⟩)
  have hx:Dw (.ref jk) (.tup [.int p.1.1,.int p.1.2]) (S.set jk (.fdt ep (i7 ps))++(.lst ys::G))=some (.int p.2,S.set jk (.fdt ep (i7 ps))++(.lst ys::G)):=by
   have ht:B2 [U.int p.1.1,U.int p.1.2]=some (kT p.1):=rfl;simp only[Dw,ht,QQ,ek,hva]
  have ha:dS (.tup [.int p.1.1,.int p.1.2]) (.tup [.int p.2]) (S.set jk (.fdt ep (i7 ps))++(.lst ys::G))=some (rwU (oZ p),S.set jk (.fdt ep (i7 ps))++(.lst ys::G)):=by
   unfold dS;simp only;rw[if_pos (by unfold LIM;simp)];rfl
  rwa[hx,ha])
 rw[XY]at key;have ef:(i7 ps).map (fun q=>U.tup (q.1.map kU))=ps.map fun p:(Int×Int)×Int=>.tup [.int p.1.1,.int p.1.2]:=by unfold i7;rw[Qe];rfl
 have er:me 1 [7] ρ=[none,some (.ref jk)]:=by simp only[me,Za,Qx,XU,h7,ZX,Qv,ZZ]
 simp only[ZZ]at key;rw[ef,er,key,QQ];have em:(ps.map fun p=>rwU (oZ p))=(ps.map oZ).map rwU:=by rw[Qe];rfl
 have e2:(S.set jk (.fdt ep (i7 ps))++[O.lst (ps.map fun p=>rwU (oZ p))]).set jk (.dit (i7 ps))=S++[.lst ((ps.map oZ).map rwU)]:=by
  rw[List.set_append_left _ _ (by rw[XY];exact lk),yo hk,em]
 simp only[ek,e2]
theorem Km{cr:CA}{ρ:Rho}{S S1:Sto}{n:Int}{g:CG}{b:CS}(h:cr ρ S=some ([.int n],S1))(n0:0<=n)(n1:n<=1000):lI (bj cr) g b ρ S=cU (fun _=>True) g b (bH 0 n.toNat) ρ S1:=by
 have hb:-(2^62)<=n/\n<2^62:=by omega
 unfold lI bj;rw[h,QQ];simp only[hb,and_self,if_true,QQ]
def sj:Fn:=fnU 13 2 (du fv dz)
structure dC(many:Int)(tms:List (Int×Int))(wr lk:List (List Int)):Prop where
 htm:∀p∈tms,(0<=p.1/\p.1<many)/\(0<=p.2/\p.2<many)/\p.1≠p.2
 htl:tms.length<=60
 hwr:∀r∈wr,(∀x∈r,0<=x/\x<many)/\r.Nodup
 hwl:1<=wr.length/\wr.length<=6
 hlk:∀r∈lk,∃a b v,r=[a,b,v]/\(0<=a/\a<many)/\(0<=b/\b<wr.length)/\(v=-1\/(v∈wr.getD b.toNat []/\v≠a))
 hll:lk.length<=60
theorem kM:∀{rs:List (List Int)},(∀r∈rs,∃a b,r=[a,b])->∃ps:List (Int×Int),rs=ps.map fun p=>[p.1,p.2]
 |[],_=>⟨[],rfl⟩
 |r::rs,h=>by
  obtain⟨a,b,rfl⟩:=h r QB;obtain⟨ps,e⟩:=kM (rs:=rs) fun x hx=>h x (QF _ hx);exact⟨(a,b)::ps,by rw[e];rfl⟩
theorem uc{ρ:Rho}{S:Sto}:rW ρ S=some (.ref S.length,S++[.dit []]):=rfl
theorem yi(wl:∃z,Y[lw]?=some (.lst [.int z]))(m0:1<=most)(m1:most<=30):∃(many:Int) (tms:List (Int×Int)) (wr lk:List (List Int)) (Y':Sto),sj [.ref lw,.int most] Y=some (bZ many (.tup (tms.map pP)) wr lk,Y')/\Wl lw Y Y'/\(1<=many/\many<=most/\tms.length<=30)/\dC many tms wr lk:=by
 have hl0:lw<Y.length:=by obtain⟨z,h⟩:=wl;exact(Q7.mp h).1
 obtain⟨d,Y1,e1,w1,l1,d0,d1⟩:=cM (m:=most) wl (by omega) (by omega);obtain⟨many,hmany⟩:∃many:Int,many=1+d:=⟨_,rfl⟩;obtain⟨os,Y2,jh,e2,h2,j2,w2,lo,on,mo⟩:=rm (many:=many) w1.well (by omega) (by omega);have ho:os.length<=90:=by omega
 have hm:∀a,0<=a->a<many->a∈os:=fun a a0 a1=>(mo a).mpr ⟨a0,a1⟩;have lh:jh<Y2.length:=(Q7.mp h2).1;have hl2:lw<Y2.length:=Qw (by omega) w2.len;obtain⟨d3,Y3,e3,w3,l3,d30,d31⟩:=cM (T:=Y2++[.lst [],.lst [.int 3,.int 3,.int 6]]) (lw:=lw) (m:=3) (by obtain⟨z,h⟩:=w2.well;exact⟨z,ax h⟩) (by omega) (by omega);have g3:Y3[Y2.length+1]?=some (.lst [.int 3,.int 3,.int 6]):=w3.get (by rw[ga];rfl) (by omega);obtain⟨v,a3,v0,v1⟩:∃v:Int,atI [U.int 3,.int 3,.int 6] d3=some (.int v)/\0<v/\v<=6:=by
  have:d3=0\/d3=1\/d3=2:=by omega
  rcases this with rfl|rfl|rfl
  ·exact⟨3,rfl,by decide,by decide⟩
  ·exact⟨3,rfl,by decide,by decide⟩
  ·exact⟨6,rfl,by decide,by decide⟩
 obtain⟨d4,Y4,e4,w4,l4,d40,d41⟩:=cM (m:=v) w3.well v0 (by omega);have W4:Wl lw (Y2++[.lst [],.lst [.int 3,.int 3,.int 6]]) Y4:=w3.trans w4;have h4:Y4[jh]?=some (.lst (os.map U.int)):=W4.get (ax h2) (by omega);have k4:Y4[Y2.length]?=some (.lst (([]:List (List Int)).map rwU)):=W4.get (by rw[ga0];rfl) (by omega);have nlen:(bH 0 (1+d4).toNat).length=(1+d4).toNat:=by simp[bH]
 obtain⟨wr,Y5,s5,s6,e5,k5,f5,c5,lw5⟩:=ud (lw:=lw) (jh:=jh) (jw:=Y2.length) (most:=most) (many:=many) (r7:=none) (r8:=none) (r9:=none) (r10:=none) (r11:=none) (r12:=none) (by omega) (by omega) (by omega) ho on (bH 0 (1+d4).toNat) [] Y4 none none h4 k4 W4.well (by rw[nlen];simp;omega) (fun r hr=>by cases hr);have wlen:wr.length=(1+d4).toNat:=by rw[lw5,nlen];simp
 have h5:Y5[jh]?=some (.lst (os.map U.int)):=f5.get h4 (by omega) (by omega);obtain⟨d6,Y6,e6,w6,l6,d60,d61⟩:=cM (T:=Y5++[.dit []]) (lw:=lw) (m:=2*many+1) (by obtain⟨z,h⟩:=f5.well;exact⟨z,ax h⟩) (by omega) (by omega);have l5:Y2.length<Y5.length:=(Q7.mp k5).1;have l5h:jh<Y5.length:=(Q7.mp h5).1;have hl5:lw<Y5.length:=by obtain⟨z,h⟩:=f5.well;exact(Q7.mp h).1
 have nl6:(bH 0 d6.toNat).length=d6.toNat:=by simp[bH]
 obtain⟨ps,Y7,t5,t6,t8,t9,t10,e7,k7,f7,ib,nd7,lp⟩:=vU (lw:=lw) (jh:=jh) (jw:=Y2.length) (jk:=Y5.length) (most:=most) (many:=many) (wr:=wr) (r11:=none) (r12:=none) (by omega) (by omega) (by omega) (by omega) (by omega) (by omega) (by omega) (by omega) (by omega) ho hm c5 (bH 0 d6.toNat) [] Y6 s5 s6 none none none (w6.get (ax h5) (by omega)) (w6.get (ax k5) (by omega)) (w6.get (by rw[ga0];rfl) (by omega)) w6.well (by rw[nl6];simp;omega) (fun p hp=>by cases hp) List.nodup_nil;have hps:ps.length<64:=by rw[nl6]at lp;simp at lp;omega
 have h7:Y7[jh]?=some (.lst (os.map U.int)):=f7.get (w6.get (ax h5) (by omega)) (by omega) (by omega);have b7:Y7[Y2.length]?=some (.lst (wr.map rwU)):=f7.get (w6.get (ax k5) (by omega)) (by omega) (by omega);obtain⟨d8,Y8,e8,w8,l8,d80,d81⟩:=cM (T:=Y7++[.dit []]) (lw:=lw) (m:=many+1) (by obtain⟨z,h⟩:=f7.well;exact⟨z,ax h⟩) (by omega) (by omega);have l7:Y5.length<Y7.length:=(Q7.mp k7).1;have nl8:(bH 0 d8.toNat).length=d8.toNat:=by simp[bH]
 obtain⟨ts,Y9,u8,u9,u12,e9,k9,f9,nd9,lt9,tb9⟩:=uB (lw:=lw) (jh:=jh) (jw:=Y2.length) (jt:=Y7.length) (most:=most) (many:=many) (r5:=t5) (r6:=t6) (r7:=some (.ref Y5.length)) (r10:=t10) (by omega) (by omega) (by omega) (by omega) (by omega) ho hm (bH 0 d8.toNat) [] Y8 t8 t9 none (w8.get (ax h7) (by omega)) (w8.get (by rw[ga0];rfl) (by omega)) w8.well (by rw[nl8];simp;omega) List.nodup_nil (fun p hp=>by cases hp);have hts:ts.length<64:=by rw[nl8]at lt9;simp at lt9;omega
 have b9:Y9[Y2.length]?=some (.lst (wr.map rwU)):=f9.get (w8.get (ax b7) (by omega)) (by omega) (by omega);have q9:Y9[Y5.length]?=some (.dit (i7 ps)):=f9.get (w8.get (ax k7) (by omega)) (by omega) (by omega);obtain⟨tms,htms⟩:∃tms,tms=fO (ts.map DY):=⟨_,rfl⟩;obtain⟨lk,hlk⟩:∃lk,lk=fO (ps.map oZ):=⟨_,rfl⟩;have x1:=sL (S:=Y9) k9 nd9 hts;have x2:=B0 (S:=Y9++[.lst (tms.map rwU)]) (ρ:=rT lw most many jh Y2.length t5 t6 (some (.ref Y5.length)) u8 u9 t10 (some (.ref Y7.length)) u12) rfl (ax q9) nd7 (by omega);have x3:=sM (S:=Y9++[.lst (tms.map rwU)]++[.lst ((ps.map oZ).map rwU)]) (l:=(Y9++[O.lst (tms.map rwU)]).length) (by rw[ga0];rfl) nd7 hps;rw[<-htms]at x1;rw[<-hlk]at x3;have W9:Wl lw Y Y9:=by
  have A:Wl lw Y Y4:=((w1.trans w2).trans (Wl.app w2.well _)).trans W4;have B:Wl lw Y Y5:=⟨Qu A.len f5.len,fun j hj n=>by rw[f5.keep j (Qw hj A.len) n (by have:=w1.len;have:=w2.len;omega),A.keep j hj n],f5.well⟩;have C:Wl lw Y Y6:=(B.trans (.app f5.well _)).trans w6;have D:Wl lw Y Y7:=⟨Qu C.len f7.len,fun j hj n=>by rw[f7.keep j (Qw hj C.len) n (by have:=B.len;omega),C.keep j hj n],f7.well⟩;have E:Wl lw Y Y8:=(D.trans (.app f7.well _)).trans w8;exact⟨Qu E.len f9.len,fun j hj n=>by rw[f9.keep j (Qw hj E.len) n (by have:=D.len;omega),E.keep j hj n],f9.well⟩
 obtain⟨pms,hpms⟩:=kM (rs:=tms) fun r hr=>by
  rw[htms]at hr;obtain⟨p,_,rfl⟩:=Qc.mp (iA hr);exact⟨_,_,rfl⟩
 have etm:tms.map rwU=pms.map pP:=by rw[hpms,Qe];rfl
 have hpl:pms.length<=30:=by
  have h1:tms.length=pms.length:=by rw[hpms,QX]
  have h2:tms.length<=ts.length:=by rw[htms];exact Qu nB (by rw[QX];exact QJ _)
  rw[nl8]at lt9;simp at lt9;omega
 refine⟨many,pms,wr,lk,Y9++[.lst (tms.map rwU)]++[.lst ((ps.map oZ).map rwU)]++[.lst (lk.map rwU)],?_,?_,⟨by omega,by omega,hpl⟩,⟨fun p hp=>?_,by omega,fun r hr=>?_,⟨by omega,by omega⟩,fun r hr=>?_,?_⟩⟩
 ·rw[<-etm];obtain⟨V,hV⟩:∃V,V=Y9++[.lst (tms.map rwU)]++[.lst ((ps.map oZ).map rwU)]++[.lst (lk.map rwU)]:=⟨_,rfl⟩;rw[<-hV];suffices h:Wp (sj [.ref lw,.int most] Y) fun r=>r=(bZ many (.tup (tms.map rwU)) wr lk,V)by obtain⟨r,e,rfl⟩:=h;exact e
  unfold sj;rw[pT];unfold du;have L2n:(Y2++[O.lst []]).length=Y2.length+1:=by rw[QZ];rfl
  have t2:∀S:Sto,jZ (.int 2) (.int many) S=some (.int (2*many),S):=fun S=>lK (.inl (by decide));rwa[e1,hmany.symm,e2,ay];repeat with_reducible refine Wp.bind ?_
  refine ux (iW (n:=1+d4) (S1:=Y4) (by rwa[L2n,e3,g3,a3,e4]) (by omega) (by omega)) ?_;refine .of e5 ?_;rwa[rT,uc,ay];repeat with_reducible refine Wp.bind ?_
  refine ux (iW (n:=d6) (S1:=Y6) (by rwa[t2,e6]) (by omega) (by omega)) ?_;refine .of e7 ?_;rwa[rT,uc,ay];repeat with_reducible refine Wp.bind ?_
  refine ux (iW (n:=d8) (S1:=Y8) (by rwa[e8]) (by omega) (by omega)) ?_;refine .of e9 ?_;have b9':(Y9++[O.lst (tms.map rwU)])[Y2.length]?=some (.lst (wr.map rwU)):=ax b9;have c9:(Y9++[O.lst (tms.map rwU)])[Y9.length]?=some (.lst (tms.map rwU)):=by rw[ga0];rfl
  obtain⟨Z,hZ⟩:∃Z,Z=Y9++[O.lst (tms.map rwU)]++[.lst ((ps.map oZ).map rwU)]:=⟨_,rfl⟩;rw[<-hZ]at x2 x3 hV;rw[<-hV]at x3;have gV:V[Z.length]?=some (.lst (lk.map rwU)):=by rw[hV,ga0];rfl
  obtain⟨X,hX⟩:∃X,X=Y9++[O.lst (tms.map rwU)]:=⟨_,rfl⟩;rw[<-hX]at x1 x2 x3 b9' c9;simp only[rT,HV]at x2;rwa[rT,x1,c9,b9',x2,x3,gV,bZ,ay]
 ·have A:=W9.well;refine((W9.trans (.app A _)).trans (.app ?_ _)).trans (.app ?_ _)
  ·obtain⟨z,h⟩:=A;exact⟨z,ax h⟩
  ·obtain⟨z,h⟩:=A;exact⟨z,ax (ax h)⟩
 ·have hm:[p.1,p.2]∈tms:=by rw[hpms];exact Qc.mpr ⟨p,hp,rfl⟩
  rw[htms]at hm;obtain⟨q,hq,e⟩:=Qc.mp (iA hm);unfold DY at e;injection e with e1 e2;injection e2 with e3 _;have:=tb9 q hq;rw[e1,e3]at this;exact this
 ·obtain⟨q1,_,q3⟩:=c5 r hr;exact⟨fun x hx=>(mo x).mp (q1 x hx),q3⟩
 ·rw[hlk]at hr;obtain⟨p,hp,rfl⟩:=Qc.mp (iA hr);obtain⟨p1,p2,p3,p4⟩:=ib p hp;exact⟨p.1.1,p.1.2,p.2,rfl,p1,⟨p2,p3⟩,p4⟩
 ·have h2:lk.length<=ps.length:=by rw[hlk];exact Qu nB (by rw[QX];exact QJ _)
  rw[nl6]at lp;simp at lp;omega
end
def tx(row:List Int)(v:Int):List Int:=if inR row v then row.drop (row.idxOf v+1)else row
def hdP(a:Int):List Int->List (Int×Int)
 |[]=>[]
 |l::_=>if l=a then[]else[(a,l)]
def sJ(row:List Int)(a v:Int):List (Int×Int):=if inR row v then[(v,a)]else[]
def gv(row:List Int)(a v:Int):List (Int×Int):=sJ row a v++hdP a (tx row v)
def dU(row:List Int):List (Int×Int):=row.zip (row.drop 1)
def mlk(wr:List (List Int))(r:List Int):List (Int×Int):=gv (wr.getD (r.getD 1 0).toNat []) (r.getD 0 0) (r.getD 2 0)
def gB(tms:List (Int×Int))(wr lk:List (List Int)):List (Int×Int):=tms++wr.flatMap dU++lk.flatMap (mlk wr)
theorem wt(a:Int)(l:List Int):(hdP a l).length<=1:=by
 cases l with
 |nil=>exact Qi _
 |cons x l=>
  show(if x=a then[]else[(a,x)]).length<=1;split
  ·exact Qi _
  ·exact QJ _
theorem nT(row:List Int)(a v:Int):(gv row a v).length<=2:=by
 unfold gv sJ;rw[QZ];have:=wt a (tx row v);split<;>simp<;>omega
theorem my(row:List Int):(dU row).length<=row.length:=by unfold dU;rw[List.length_zip];omega
theorem A2{l b:Nat}{us vs:List U}{Y:Sto}(h1:Y[l]?=some (.lst us))(h2:Y[b]?=some (.lst vs))(hL:us.length+vs.length<=LIM):cV (.ref l) [.ref b] Y=some (.non,Y.set l (.lst (us++vs))):=by
 simp only[cV,h1,h2];rw[if_pos hL]
theorem pF{us:List U}{k l:Nat}{S:Sto}(hl:S[l]?=some (.lst us))(h:k<=us.length):fSl (.ref l) (some (k:Int)) none S=some (.ref S.length,S++[.lst (us.drop k)]):=by
 have e:HT.sIx us.length 0 (some (k:Int))=k:=by rw[HT.sIx_nat];omega
 simp only[fSl,hl,HT.sIx_none,e,o7];rw[ZI (by simp)]
theorem jU{row:List Int}{v:Int}(h:inR row v=true):v∈row:=by
 first|exact List.elem_iff.mp h|simpa [inR] using h
def DU:Fn:=fnU 5 3 bQ
section
variable{row:List Int}{v:Int}
theorem zK(h:(S++(.lst us::G))[j]?=some (.lst vs))(hL:us.length+vs.length<=LIM):cV (.ref S.length) [.ref j] (S++(.lst us::G))=some (.non,S++(.lst (us++vs)::G)):=by
 rw[A2 (by rw[ga0];rfl) h hL,gs0];rfl
theorem F2(hl:row.length<=900):∃G j,DU [.tup (row.map U.int),.int a,.int v] S=some (.ref j,S++G)/\(S++G)[j]?=some (.lst ((gv row a v).map pP))/\S.length<=j:=by
 refine Wp.gj ?_;have hin:∀T:Sto,fIn false (.int v) (.tup (row.map U.int)) T=some (.bl (inR row v),T):=fun T=>Gw;have ix:inR row v=true->∀T:Sto,T[S.length]?=some (.lst (row.map U.int))->bx (.ref S.length) [.int v] T=some (.int (row.idxOf v:Nat),T)/\fSl (.ref S.length) (some ((row.idxOf v:Nat)+1:Int)) none T=some (.ref T.length,T++[.lst ((tx row v).map U.int)]):=fun hb T h=>by
  refine⟨cY h (jU hb) hl,?_⟩;have:=pF (k:=row.idxOf v+1) h (by rw[QX];exact Zq (jU hb));rw[<-List.map_drop]at this;unfold tx;rw[if_pos hb];exact this
 have lf:inR row v=false->tx row v=row:=fun hb=>by unfold tx;rw[if_neg (by rw[hb];decide)]
 unfold DU gv sJ;rw[j9];unfold bQ;obtain⟨ru,hru⟩:∃ru,ru=row.map U.int:=⟨_,rfl⟩;rw[<-hru]at hin ix ⊢;have h0:([]:List U).length<LIM:=by unfold LIM;simp
 have d0:decide ((0:Int)<((0:Nat):Int))=false:=by decide
 generalize tx row v=lt at ix lf ⊢;cases hb:inR row v with
 |true=>
  obtain⟨i1,i2⟩:=ix hb (S++[.lst ru,.lst []]) (by rw[ga0];rfl);cases lt with
  |nil=>
   rwa[hin,hb,i1,i2,cSl,iH,fR h0,d0,QZ,ay];exact⟨S.length+1,_,rfl,rfl,by rw[ga];rfl,by omega⟩
  |cons x r=>
   obtain⟨lu,hlu⟩:∃lu,lu=(x::r).map U.int:=⟨_,rfl⟩;have a0:atI lu 0=some (.int x):=by rw[hlu,Qx];exact at0
   have d1:decide ((lu.length:Int)>0)=true:=decide_eq_true (by rw[hlu];simp);have h1:[U.tup [.int v,.int a]].length<LIM:=by unfold LIM;simp
   rw[<-hlu]at i2;by_cases e:x=a
   ·have de:decide (x=a)=true:=decide_eq_true e;rwa[hin,hb,i1,i2,cSl,iH,fR h0,a0,d1,de,QZ,ay];exact⟨S.length+1,_,rfl,rfl,by rw[ga];simp only[hdP,if_pos e];try rfl,by omega⟩
   ·have de:decide (x=a)=false:=decide_eq_false e;rwa[hin,hb,i1,i2,cSl,iH,fR h0,fR h1,a0,d1,de,QZ,ay];exact⟨S.length+1,_,rfl,rfl,by rw[ga];simp only[hdP,if_neg e];try rfl,by omega⟩
 |false=>
  have:=lf hb;subst this;cases lt with
  |nil=>
   rw[hru];rw[hru]at hin;simp only[XU]at hin;rwa[hin,hb,d0,QZ,ay];exact⟨S.length+1,_,rfl,rfl,by rw[ga];rfl,by omega⟩
  |cons x r=>
   have a0:atI ru 0=some (.int x):=by rw[hru,Qx];exact at0
   have d1:decide ((ru.length:Int)>0)=true:=decide_eq_true (by rw[hru];simp);by_cases e:x=a
   ·have de:decide (x=a)=true:=decide_eq_true e;rwa[hin,hb,a0,d1,de,QZ,ay];exact⟨S.length+1,_,rfl,rfl,by rw[ga];simp only[hdP,if_pos e];try rfl,by omega⟩
   ·have de:decide (x=a)=false:=decide_eq_false e;rwa[hin,hb,fR h0,a0,d1,de,QZ,ay];exact⟨S.length+1,_,rfl,rfl,by rw[ga];simp only[hdP,if_neg e];try rfl,by omega⟩
end
def kq:Fn:=fnU 4 1 (kh DU)
theorem yS(row:List Int):sV (row.map U.int) ((row.drop 1).map U.int)=(dU row).map pP:=by
 unfold sV dU;rw[List.zip_map,Qe];rfl
theorem Kq(us:List U):o7 us (some 1) none=us.drop 1:=by
 unfold o7;have e:HT.sIx us.length 0 (some (1:Int))=min 1 us.length:=by
  have:=HT.sIx_nat (n:=us.length) (d:=0) (k:=1);rw[show((1:Nat):Int)=1 from rfl]at this;exact this
 rw[e,HT.sIx_none];cases us with
 |nil=>rfl
 |cons u us=>
  have:min 1 (u::us).length=1:=by simp
  rw[this,ZI (by simp)]
theorem rM:∀{wr:List (List Int)},(∀r∈wr,r.length<=30)->(wr.flatMap dU).length<=30*wr.length
 |[],_=>by simp
 |r::wr,h=>by
  rw[XB,QZ,QH];have:=rM (wr:=wr) fun x hx=>h x (QF _ hx);have:=h r QB;have:=my r;omega
theorem dC.row_len{many:Int}{tms:List (Int×Int)}{wr lk:List (List Int)}(T:dC many tms wr lk)(hm:many<=30){r:List Int}(hr:r∈wr):r.length<=30:=by
 obtain⟨h1,h2⟩:=T.hwr r hr;have:=List.Nodup.length_le_of_subset h2 (l₂:=(Qz many.toNat).map fun i:Nat=>(i:Int)) fun b hb=>by
  obtain⟨z1,z2⟩:=h1 b hb;exact Qc.mpr ⟨b.toNat,Qy.mpr (by omega),by omega⟩
 simp at this;omega
theorem rk(wr:List (List Int)):∀lk:List (List Int),(lk.flatMap (mlk wr)).length<=2*lk.length
 |[]=>by simp
 |r::lk=>by
  rw[XB,QZ,QH];have:=nT (wr.getD (r.getD 1 0).toNat []) (r.getD 0 0) (r.getD 2 0);have e:mlk wr r=gv (wr.getD (r.getD 1 0).toNat []) (r.getD 0 0) (r.getD 2 0):=rfl;rw[e];have:=rk wr lk;omega
theorem dC.all_len{many:Int}{tms:List (Int×Int)}{wr lk:List (List Int)}(T:dC many tms wr lk)(hm:many<=30):(gB tms wr lk).length<=1000:=by
 unfold gB;have h1:=rM fun r hr=>T.row_len hm (r:=r) hr;have h2:=rk wr lk;have htl:=T.htl;have hwl:=T.hwl;have hll:=T.hll;rw[QZ,QZ];omega
variable{x0 r3:Option U}{lk:List (List Int)}
section
variable{lf:Nat}{r2:Option U}
theorem Bl{row:List Int}(hl:row.length<=900):jB (au 2) (GR (au 2) (some (cC (.int 1))) none) [x0,some (.ref lf),some (.tup (row.map U.int)),r3] Y=some (.ref Y.length,Y++[.lst ((dU row).map pP)]):=by
 have hv:au 2 [x0,some (.ref lf),some (.tup (row.map U.int)),r3] Y=some (.tup (row.map U.int),Y):=rfl;have hs:GR (au 2) (some (cC (.int 1))) none [x0,some (.ref lf),some (.tup (row.map U.int)),r3] Y=some (.tup ((row.drop 1).map U.int),Y):=by
  have h1:cC (.int 1) [x0,some (.ref lf),some (.tup (row.map U.int)),r3] Y=some (.int 1,Y):=rfl;simp only[GR,iH,hv,h1,QQ,GH,Kq,List.map_drop]
 unfold jB;rw[hv,QQ];dsimp only;rw[hs,QQ];simp only[yp,QQ];rw[if_pos (by rw[QX];omega),yS]
theorem qE{ce:CE}{ρ:Rho}{S:Sto}{l:Nat}{ps:List (Int×Int)}(h:ce ρ S=some (.ref l,S))(hl:S[l]?=some (.lst (ps.map pP)))(hn:ps.length<=1200):dF ce ρ S=some (.ref S.length,S++[.lst ((bt ps).map pP)]):=by
 unfold dF;rw[h,QQ];simp only[hl,fJ,QQ];rw[if_pos hn]
theorem Ay{b:Int}(b0:0<=b)(b1:b<wr.length):wr.getD b.toNat []∈wr:=by
 have hb:b.toNat<wr.length:=by omega
 rw[Q9,Q4 hb];exact ZR hb
theorem y6{tms:List (Int×Int)}{S:Sto}(T:dC many tms wr lk)(hm:many<=30):∃G j,kq [bZ many (.tup (tms.map pP)) wr lk] S=some (.ref j,S++G)/\(S++G)[j]?=some (.lst ((bt (gB tms wr lk)).map pP))/\S.length<=j:=by
 refine Wp.gj ?_;have rl:∀r∈wr,r.length<=30:=fun r hr=>T.row_len hm hr;have ml:=T.all_len hm;obtain⟨M,hM⟩:∃M,M=gB tms wr lk:=⟨_,rfl⟩;rw[<-hM]at ml ⊢;unfold gB at hM;have x1:∀Y,fIx (bZ many (.tup (tms.map pP)) wr lk) (.int 1) Y=some (.tup (tms.map pP),Y):=fun _=>rfl;have x2:∀Y,fIx (bZ many (.tup (tms.map pP)) wr lk) (.int 2) Y=some (.tup (wr.map rwU),Y):=fun _=>rfl;have x3:∀Y,fIx (bZ many (.tup (tms.map pP)) wr lk) (.int 3) Y=some (.tup (lk.map rwU),Y):=fun _=>rfl;generalize bZ many (.tup (tms.map pP)) wr lk=tu at x1 x2 x3 ⊢;unfold kq;rw[DD];unfold kh;rwa[x1,ay];repeat with_reducible refine Wp.bind ?_
 refine ux (S1:=S++[.lst (tms.map pP)]) (zA (us:=wr.map rwU) (by rwa[x2])) (nv (fun rest ρ Y=>∃dn r2 G,wr=dn++rest/\ρ=[some tu,some (.ref S.length),r2,none]/\Y=S++(.lst ((tms++dn.flatMap dU).map pP)::G)) (fun ρ Y h=>⟨trivial,?_⟩) (fun row rest ρ Y h=>⟨trivial,?_⟩) wr _ _ ⟨[],none,[],rfl,rfl,by simp⟩)
 ·obtain⟨dn,r2,G,hd,rfl,rfl⟩:=h;rw[Qn]at hd;subst hd;rwa[ay];repeat with_reducible refine Wp.bind ?_
  refine ux (zA (us:=lk.map rwU) (by rwa[x3];rfl)) (nv (fun rest ρ Y=>∃dn r3 G,lk=dn++rest/\ρ=[some tu,some (.ref S.length),r2,r3]/\Y=S++(.lst ((tms++wr.flatMap dU++dn.flatMap (mlk wr)).map pP)::G)) (fun ρ Y h=>⟨trivial,?_⟩) (fun look rest ρ Y h=>⟨trivial,?_⟩) lk _ _ ⟨[],none,G,rfl,rfl,by simp⟩)
  ·obtain⟨dn,r3,G,hd,rfl,rfl⟩:=h;rw[Qn]at hd;subst hd;rw[<-hM];have hs:=qE (ce:=au 1) (ρ:=[some tu,some (.ref S.length),r2,r3]) (S:=S++(.lst (M.map pP)::G)) (l:=S.length) rfl (by rw[ga0];rfl) (by omega);rwa[hs,ay];exact⟨_,_,rfl,rfl,by rw[<-Qv,<-Q8,ga0];rfl,by simp⟩
  ·obtain⟨dn,r3,G,hd,rfl,rfl⟩:=h;obtain⟨a,b,v,rfl,_,h2,_⟩:=T.hlk look (by rw[hd];simp);obtain⟨G1,j,e,g,lj⟩:=F2 (S:=S++(.lst ((tms++wr.flatMap dU++dn.flatMap (mlk wr)).map pP)::G)) (row:=wr.getD b.toNat []) (a:=a) (v:=v) (Qu (rl _ (Ay h2.1 h2.2)) (by omega));have ar:=xm (wr:=wr) h2.1 h2.2;have m2:=nT (wr.getD b.toNat []) a v;have ml':(tms++wr.flatMap dU++dn.flatMap (mlk wr)).length<=1000:=by
    rw[hM,hd,Zk]at ml;simp only[QZ]at ml ⊢;omega
   rw[Q8 S,Qv]at e g;have ex:=zK g (by unfold LIM;rw[QX,QX];omega);rw[<-Qt]at ex;refine .of (r:=([some tu,some (.ref S.length),r2,some (.tup [.int a,.int b,.int v])],_)) rfl ?_;unfold oS;generalize hN:(tms++wr.flatMap dU++dn.flatMap (mlk wr))=N at *;rwa[x2,ar,e,ex,ay];exact .inl ⟨trivial,dn++[[a,b,v]],_,_,by simp[hd],rfl,by rw[<-hN,Zk,List.flatMap_singleton];simp only[Q8];rfl⟩
 ·obtain⟨dn,r2,G,hd,rfl,rfl⟩:=h;have hr:row∈wr:=by rw[hd];simp
  have z:=Bl (x0:=some tu) (lf:=S.length) (r3:=none) (Y:=S++(.lst ((tms++dn.flatMap dU).map pP)::G)) (Qu (rl row hr) (by omega));have ml':(tms++dn.flatMap dU).length<=1000:=by
   rw[hM,hd,Zk]at ml;simp only[QZ]at ml ⊢;omega
  have m2:=my row;have:=rl row hr;have ex:=zK (S:=S) (us:=(tms++dn.flatMap dU).map pP) (G:=G++[.lst ((dU row).map pP)]) (j:=(S++(.lst ((tms++dn.flatMap dU).map pP)::G)).length) (vs:=(dU row).map pP) (by rw[<-Qv,<-Q8,ga0];rfl) (by unfold LIM;rw[QX,QX];omega);rw[<-Qt]at ex;rw[Q8 S,Qv]at z;refine .of (r:=([some tu,some (.ref S.length),some (.tup (row.map U.int)),none],_)) rfl ?_;unfold oT;generalize hN:(tms++dn.flatMap dU)=N at *;generalize row.map U.int=ru at *;rwa[z,ex,ay];exact .inl ⟨trivial,dn++[row],_,_,by simp[hd],rfl,by rw[Zk,List.flatMap_singleton,<-Q8,hN]⟩
end
def m9:Fn:=fnU 11 1 cS
theorem C7(row:List Int):(Qz (row.length-1)).map (fun i=>pP (row.getD i 0,row.getD (i+1) 0))=(dU row).map pP:=by
 have:(Qz (row.length-1)).map (fun i=>(row.getD i 0,row.getD (i+1) 0))=dU row:=by
  unfold dU;refine Zw fun i=>?_;rw[Qb];by_cases h:i<row.length-1
  ·rw[XD h];symm
   show _=some (row.getD i 0,row.getD (i+1) 0);rw[Zo];refine⟨?_,?_⟩
   ·rw[Q4 (by omega),Q9,Q4 (by omega)];rfl
   ·show _=some (row.getD (i+1) 0);rw[XQ,Nat.add_comm 1 i,Q4 (by omega),Q9,Q4 (by omega)];rfl
  ·rw[ZU (by simp;omega),ZU (by simp;omega)];rfl
 rw[<-this,Qe];rfl
theorem wq(a:Int)(l:List Int):(((l.take 1).filter fun c=>!decide (c=a)).map fun c=>(a,c))=hdP a l:=by
 cases l with
 |nil=>rfl
 |cons x r=>
  rw[List.take_succ_cons,List.take_zero];unfold hdP;by_cases e:x=a
  ·simp[e]
  ·simp[e]
theorem sl1{S:Sto}{l:Nat}{lt:List Int}(h:S[l]?=some (.lst (lt.map U.int))):fSl (.ref l) none (some 1) S=some (.ref S.length,S++[.lst ((lt.take 1).map U.int)]):=by
 have e:HT.sIx (lt.map U.int).length (lt.map U.int).length (some (1:Int))=min 1 (lt.map U.int).length:=by
  have:=HT.sIx_nat (n:=(lt.map U.int).length) (d:=(lt.map U.int).length) (k:=1);rw[show((1:Nat):Int)=1 from rfl]at this;exact this
 simp only[fSl,h,HT.sIx_none,e,o7,XZ,Nat.sub_zero];rw[List.map_take];congr 5;cases lt<;>simp
theorem vT{tms:List (Int×Int)}(T:dC many tms wr lk)(hm:many<=30):∃G j,m9 [bZ many (.tup (tms.map pP)) wr lk] S=some (.ref j,S++G)/\(S++G)[j]?=some (.lst ((bt (gB tms wr lk)).map pP))/\S.length<=j:=by
 refine Wp.gj ?_;have rl:∀r∈wr,r.length<=30:=fun r hr=>T.row_len hm hr;have ml:=T.all_len hm;obtain⟨M,hM⟩:∃M,M=gB tms wr lk:=⟨_,rfl⟩;rw[<-hM]at ml ⊢;unfold gB at hM;obtain⟨tp,htp⟩:∃tp,tp=tms.map pP:=⟨_,rfl⟩;obtain⟨wu,hwu⟩:∃wu,wu=wr.map rwU:=⟨_,rfl⟩;obtain⟨lu,hlu⟩:∃lu,lu=lk.map rwU:=⟨_,rfl⟩;unfold m9;rw[oC];unfold cS bZ;rw[<-htp,<-hwu,<-hlu];rwa[ay];repeat with_reducible refine Wp.bind ?_
 obtain⟨ρ0,hρ0⟩:∃ρ0:List (Option U),ρ0=[some (.tup [.int many,.tup tp,.tup wu,.tup lu]),some (.int many),some (.tup tp),some (.tup wu),some (.tup lu),some (.ref S.length)]:=⟨_,rfl⟩;refine ux (S1:=S++[.lst tp]) (zA (us:=wr.map rwU) (by rw[<-hwu];rfl)) (nv (fun rest ρ Y=>∃dn r6 G,wr=dn++rest/\ρ=ρ0++[r6,none,none,none,none]/\Y=S++(.lst ((tms++dn.flatMap dU).map pP)::G)) (fun ρ Y h=>⟨trivial,?_⟩) (fun row rest ρ Y h=>⟨trivial,?_⟩) wr _ _ ⟨[],none,[],rfl,by rw[hρ0];rfl,by rw[htp];simp⟩)
 ·obtain⟨dn,r6,G,hd,rfl,rfl⟩:=h;rw[Qn]at hd;subst hd;rw[hρ0];rwa[ay];repeat with_reducible refine Wp.bind ?_
  refine ux (zA (us:=lk.map rwU) (by rw[<-hlu];rfl)) (nv (fun rest ρ Y=>∃dn r7 r8 r9 r10 G,lk=dn++rest/\ρ=ρ0++[r6,r7,r8,r9,r10]/\Y=S++(.lst ((tms++wr.flatMap dU++dn.flatMap (mlk wr)).map pP)::G)) (fun ρ Y h=>⟨trivial,?_⟩) (fun look rest ρ Y h=>⟨trivial,?_⟩) lk _ _ ⟨[],none,none,none,none,G,rfl,by rw[hρ0];rfl,by simp⟩)
  ·obtain⟨dn,r7,r8,r9,r10,G,hd,rfl,rfl⟩:=h;rw[Qn]at hd;subst hd;rw[<-hM,hρ0];have hs:=qE (ce:=au 5) (ρ:=ρ0++[r6,r7,r8,r9,r10]) (S:=S++(.lst (M.map pP)::G)) (l:=S.length) (by rw[hρ0];rfl) (by rw[ga0];rfl) (by omega);rw[hρ0]at hs;simp only[Qv,ZZ]at hs;rwa[hs,ay];exact⟨_,_,rfl,rfl,by rw[<-Qv,<-Q8,ga0];rfl,by simp⟩
  ·obtain⟨dn,r7,r8,r9,r10,G,hd,rfl,rfl⟩:=h;obtain⟨a,b,v,rfl,_,h2,h3⟩:=T.hlk look (by rw[hd];simp);have ar:=xm (wr:=wr) h2.1 h2.2;have hrow:=Ay h2.1 h2.2;have em:mlk wr [a,b,v]=gv (wr.getD b.toNat []) a v:=rfl;have ml':(tms++wr.flatMap dU++dn.flatMap (mlk wr)).length<=1000:=by
    rw[hM,hd,Zk]at ml;simp only[QZ]at ml ⊢;omega
   have hN:(tms++wr.flatMap dU++(dn++[[a,b,v]]).flatMap (mlk wr))=tms++wr.flatMap dU++dn.flatMap (mlk wr)++gv (wr.getD b.toNat []) a v:=by
    rw[Zk,List.flatMap_singleton,em,Q8 (tms++_)]
   generalize (tms++wr.flatMap dU++dn.flatMap (mlk wr))=N at hN ml' ⊢;refine .of (r:=(ρ0++[r6,some (.int a),some (.int b),some (.int v),r10],S++(.lst (N.map pP)::G))) (by rw[hρ0];rfl) ?_;suffices Wp (dP (ρ0++[r6,some (.int a),some (.int b),some (.int v),r10]) (S++(.lst (N.map pP)::G))) fun s=>s.1=.nx/\∃r10' G',s.2.1=ρ0++[r6,some (.int a),some (.int b),some (.int v),r10']/\s.2.2=S++(.lst ((N++gv (wr.getD b.toNat []) a v).map pP)::G')from this.mono fun s hs=>by
    obtain⟨h1,q,G',h4,h5⟩:=hs;exact .inl ⟨h1,dn++[[a,b,v]],_,_,_,q,G',by simp[hd],h4,by rw[hN];exact h5⟩
   have w1:=fun x hx=>((T.hwr _ hrow).1 x hx).1;have w2:=rl _ hrow;have h3':v=-1\/v∈wr.getD b.toNat []:=h3.imp id fun z=>z.1;rw[<-hwu]at ar;generalize wr.getD b.toNat []=row at ar w1 w2 h3' ⊢;have ge:inR row v=decide (0<=v):=by
    unfold inR;rcases h3' with e|e
    ·rw[e,decide_eq_false (fun z=>by have:=w1 _ z;omega)];rfl
    ·rw[decide_eq_true e,decide_eq_true (w1 v e)]
   have tail:∀(G:Sto) (j:Nat) (lt:List Int),(S++(.lst ((N++sJ row a v).map pP)::G))[j]?=some (.lst (lt.map U.int))->lt=tx row v->Wp (fP (cBM cV (au 5) (ag (a6 (iTp (cSl (au 10) none (some (cC (.int 1))))) (gNm 0) (aN (cOp fNe (au 0) (au 1))) (fk (ag (au 1) (ag (au 0) aB))) 1 [7]) aB)) (ρ0++[r6,some (.int a),some (.int b),some (.int v),some (.ref j)]) (S++(.lst ((N++sJ row a v).map pP)::G))) fun s=>s.1=.nx/\∃r10' G',s.2.1=ρ0++[r6,some (.int a),some (.int b),some (.int v),r10']/\s.2.2=S++(.lst ((N++gv row a v).map pP)::G'):=fun G j lt hg hlt=>by
    have ls:(sJ row a v).length<=1:=by unfold sJ;split<;>simp
    have eM:N++gv row a v=N++sJ row a v++hdP a lt:=by rw[hlt,Q8];rfl
    rw[eM,hρ0];have lB:(N++sJ row a v).length<=1001:=by rw[QZ];omega
    generalize N++sJ row a v=B at hg lB ⊢;obtain⟨Y,hY⟩:∃Y,Y=S++(.lst (B.map pP)::G):=⟨_,rfl⟩;have gY:Y[S.length]?=some (.lst (B.map pP)):=by rw[hY,ga0];rfl
    rw[<-hY]at hg ⊢;have s1:=sl1 hg;rwa[gY,ay];repeat with_reducible refine Wp.bind ?_
    refine lM (S1:=Y++[.lst ((lt.take 1).map U.int)]) (cs:=[some (.int a)]) (xs:=lt.take 1) (f:=U.int) (v:=fun c=>pP (a,c)) (p:=fun c=>!decide (c=a)) (oa (l:=Y.length) (by rwa[cSl,iH,s1]) (by rw[ga0];rfl)) (fun G=>ax (by rw[ga0];rfl)) (by simp;omega) rfl (fun c hc X=>?_) fun X=>?_
    ·rwa[ay];exact⟨trivial,[],by simp,fun _=>⟨rfl,[],by simp⟩⟩
    ·have eh:(((lt.take 1).filter fun c=>!decide (c=a)).map fun c=>pP (a,c))=(hdP a lt).map pP:=by rw[<-wq a lt,Qe];rfl
     have lh:=wt a lt;rw[eh];have ex:=zK (S:=S) (us:=B.map pP) (G:=G++(.lst ((lt.take 1).map U.int)::.lst ((hdP a lt).map pP)::X)) (vs:=(hdP a lt).map pP) (j:=(Y++[O.lst ((lt.take 1).map U.int)]).length) (by
      rw[show S++(O.lst (B.map pP)::(G++(.lst ((lt.take 1).map U.int)::.lst ((hdP a lt).map pP)::X)))=Y++[O.lst ((lt.take 1).map U.int)]++(.lst ((hdP a lt).map pP)::X)by rw[hY];simp,ga0];rfl) (by unfold LIM;rw[QX,QX];omega)
     rw[<-Qt]at ex;generalize (hdP a lt).map pP=hu at ex ⊢;generalize (lt.take 1).map U.int=tu at ex ⊢;rw[hY]at ex ⊢;simp only[Q8,Qv,ZZ]at ex;rwa[ex,ay];exact⟨trivial,_,_,rfl,rfl⟩
   unfold sJ tx at tail;rw[ge]at tail;have lN:(N.map pP).length<LIM:=by unfold LIM;rw[QX];omega
   obtain⟨ru,hru⟩:∃ru,ru=row.map U.int:=⟨_,rfl⟩;rw[<-hru]at ar;unfold dP;cases hd:decide (0<=v)with
   |true=>
    have hm:v∈row:=of_decide_eq_true (by have:=ge;rw[hd]at this;exact this);have eN:N.map pP++[.tup [.int v,.int a]]=(N++[(v,a)]).map pP:=by rw[Qt];rfl
    obtain⟨Y,hY⟩:∃Y,Y=S++(.lst ((N++[(v,a)]).map pP)::G):=⟨_,rfl⟩;have ix:bx (.ref Y.length) [.int v] (Y++[.lst ru])=some (.int (row.idxOf v:Nat),Y++[.lst ru]):=cY (by rw[ga0,hru];rfl) hm (by omega);have sl:fSl (.ref Y.length) (some (((row.idxOf v:Nat):Int)+1)) none (Y++[O.lst ru])=some (.ref (Y++[O.lst ru]).length,Y++[O.lst ru]++[O.lst (ru.drop (row.idxOf v+1))]):=pF (k:=row.idxOf v+1) (by rw[ga0];rfl) (by rw[hru,QX];exact Zq hm);have tl:=tail (G++[.lst ru,.lst (ru.drop (row.idxOf v+1))]) (Y.length+1) (row.drop (row.idxOf v+1)) (by
     rw[hd,if_pos rfl,<-Qv,<-Q8,<-hY,ga,hru,List.map_drop];rfl) (by rw[hd,if_pos rfl])
    rw[hd,if_pos rfl,<-Qv,<-Q8,<-hY,hρ0]at tl;simp only[Qv,ZZ]at tl;rw[hρ0];rwa[hd,fR lN,eN,ay];rw[<-hY];rwa[ar,ix,sl,cSl,iH,hd,QZ,ay];exact tl
   |false=>
    obtain⟨Y,hY⟩:∃Y,Y=S++(.lst (N.map pP)::G):=⟨_,rfl⟩;have tl:=tail (G++[.lst ru]) Y.length row (by
     rw[hd,if_neg (by decide),Qn,<-Qv,<-Q8,<-hY,ga0,hru];rfl) (by rw[hd,if_neg (by decide)])
    rw[hd,if_neg (by decide),Qn,<-Qv,<-Q8,<-hY,hρ0]at tl;simp only[Qv,ZZ]at tl;rw[hρ0,<-hY];rwa[hd,ar,ay];exact tl
 ·obtain⟨dn,r6,G,hd,rfl,rfl⟩:=h;have hr:row∈wr:=by rw[hd];simp
  have ml':(tms++dn.flatMap dU).length<=1000:=by
   rw[hM,hd,Zk]at ml;simp only[QZ]at ml ⊢;omega
  have m2:=my row;have rl':=rl row hr;have hN:(tms++(dn++[row]).flatMap dU)=tms++dn.flatMap dU++dU row:=by rw[Zk,List.flatMap_singleton,Q8]
  generalize (tms++dn.flatMap dU)=N at hN ml' ⊢;obtain⟨ru,hru⟩:∃ru,ru=row.map U.int:=⟨_,rfl⟩;have lru:ru.length=row.length:=by rw[hru,QX]
  have ix:∀k:Nat,k<row.length->atI ru (k:Int)=some (.int (row.getD k 0)):=fun k hk=>by
   have:=eC (xs:=ru) (j:=k) (v:=.int row[k]) (by rw[hru,Qb,Q4 hk];rfl);rw[this,Q9,Q4 hk];rfl
  refine .of (r:=(ρ0++[some (.tup ru),none,none,none,none],_)) (by rw[hρ0,hru];rfl) ?_;obtain⟨Y,hY⟩:∃Y,Y=S++(.lst (N.map pP)::G):=⟨_,rfl⟩;have gY:Y[S.length]?=some (.lst (N.map pP)):=by rw[hY,ga0];rfl
  rw[<-hY];dsimp only;unfold fW;rw[hρ0];rwa[gY,ay];repeat with_reducible refine Wp.bind ?_
  have hi:bj (ag (cOp Dv (cCB jn (ag (au 6) aB)) (cC (.int 1))) aB) [some (.tup [.int many,.tup tp,.tup wu,.tup lu]),some (.int many),some (.tup tp),some (.tup wu),some (.tup lu),some (.ref S.length),some (.tup ru),none,none,none,none] Y=some ((Qz (row.length-1)).map fun i:Nat=>U.int (i:Int),fun _=>True,Y):=by
   have hb:-(2^62)<=((row.length:Int)-1)/\((row.length:Int)-1)<2^62:=by omega
   unfold bj;rwa[lru,hb,and_self,if_true];rw[kO,show((row.length:Int)-1).toNat=row.length-1 by omega]
  refine sF (S1:=Y) (cs:=[some (.tup ru)]) (xs:=Qz (row.length-1)) (f:=fun i:Nat=>U.int (i:Int)) (v:=fun i=>pP (row.getD i 0,row.getD (i+1) 0)) hi (fun _=>trivial) (by simp;omega) rfl (fun i hi X=>?_) fun X=>?_
  ·have hi:=Qy.mp hi;have a1:=ix i (by omega);have a2:=ix (i+1) (by omega);rw[Int.natCast_add]at a2;have e1:((1:Nat):Int)=1:=rfl;rw[e1]at a2;rwa[a1,a2,ay];exact⟨rfl,[],by simp⟩
  ·rw[C7];have ex:=zK (S:=S) (us:=N.map pP) (G:=G++(.lst ((dU row).map pP)::X)) (vs:=(dU row).map pP) (j:=Y.length) (by rw[<-Qv,<-Q8,<-hY,ga0];rfl) (by unfold LIM;rw[QX,QX];omega);rw[<-Qt,<-hN]at ex;generalize (dU row).map pP=mu at ex ⊢;rw[<-Qv,<-Q8,<-hY]at ex;rwa[ex,ay];exact .inl ⟨trivial,dn++[row],_,_,by simp[hd],rfl,rfl⟩
theorem zc{row:List Int}{a v:Int}{many:Int}(hr:∀x∈row,0<=x/\x<many)(ha:0<=a/\a<many):∀p∈gv row a v,(0<=p.1/\p.1<many)/\(0<=p.2/\p.2<many):=by
 intro p hp;unfold gv at hp;rcases QN.mp hp with h|h
 ·unfold sJ at h;split at h
  ·rename_i hv;rw[Qg.mp h];exact⟨hr v (jU hv),ha⟩
  ·cases h
 ·have hs:∀x∈tx row v,x∈row:=fun x hx=>by
   unfold tx at hx;split at hx
   ·exact ZF hx
   ·exact hx
  generalize tx row v=l at h hs;cases l with
  |nil=>cases h
  |cons x l=>
   have h':p∈(if x=a then[]else[(a,x)]):=h;split at h'
   ·cases h'
   ·rw[Qg.mp h'];exact⟨ha,hr x (hs x QB)⟩
theorem dC.all_in{many:Int}{tms:List (Int×Int)}{wr lk:List (List Int)}(T:dC many tms wr lk):∀p∈gB tms wr lk,(0<=p.1/\p.1<many)/\(0<=p.2/\p.2<many):=by
 intro p hp;unfold gB at hp;rcases QN.mp hp with h|h
 ·rcases QN.mp h with h|h
  ·have:=T.htm p h;exact⟨this.1,this.2.1⟩
  ·obtain⟨r,hr,hp⟩:=List.mem_flatMap.mp h;have z:=(T.hwr r hr).1;unfold dU at hp;obtain⟨p1,p2⟩:=p;have q:=List.of_mem_zip hp;exact⟨z _ q.1,z _ (ZF q.2)⟩
 ·obtain⟨r,hr,hp⟩:=List.mem_flatMap.mp h;obtain⟨a,b,v,rfl,h1,h2,h3⟩:=T.hlk r hr;refine zc (fun x hx=>?_) h1 p hp;have hb:b.toNat<wr.length:=by omega
  have e:wr.getD ([a,b,v].getD 1 0).toNat []=wr[b.toNat]:=by
   show wr.getD b.toNat []=_;rw[Q9,Q4 hb];rfl
  rw[e]at hx;exact(T.hwr _ (ZR hb)).1 x hx
theorem vI:∀{row:List Int},row.Nodup->∀p∈dU row,p.1≠p.2
 |[],_,p,hp=>by cases hp
 |[x],_,p,hp=>by cases hp
 |x::y::r,nd,p,hp=>by
  have e:dU (x::y::r)=(x,y)::dU (y::r):=rfl;rw[e]at hp;rcases Qk.mp hp with rfl|h
  ·intro e;exact(Zb.mp nd).1 (by show x∈y::r;rw[show x=y from e];exact QB)
  ·exact vI (Zb.mp nd).2 p h
theorem zb{row:List Int}{a v:Int}(hv:v=-1\/v≠a)(hr:∀x∈row,0<=x):∀p∈gv row a v,p.1≠p.2:=by
 intro p hp;unfold gv at hp;rcases QN.mp hp with h|h
 ·unfold sJ at h;split at h
  ·rename_i hi;rw[Qg.mp h];rcases hv with rfl|hv
   ·have:=hr _ (jU hi);omega
   ·exact hv
  ·cases h
 ·generalize tx row v=l at h;cases l with
  |nil=>cases h
  |cons x l=>
   have h':p∈(if x=a then[]else[(a,x)]):=h;split at h'
   ·cases h'
   ·rename_i hn;rw[Qg.mp h'];exact fun e=>hn e.symm
theorem dC.all_ne{many:Int}{tms:List (Int×Int)}{wr lk:List (List Int)}(T:dC many tms wr lk):∀p∈gB tms wr lk,p.1≠p.2:=by
 intro p hp;unfold gB at hp;rcases QN.mp hp with h|h
 ·rcases QN.mp h with h|h
  ·exact(T.htm p h).2.2
  ·obtain⟨r,hr,hp⟩:=List.mem_flatMap.mp h;exact vI (T.hwr r hr).2 p hp
 ·obtain⟨r,hr,hp⟩:=List.mem_flatMap.mp h;obtain⟨a,b,v,rfl,h1,h2,h3⟩:=T.hlk r hr;refine zb (row:=wr.getD ([a,b,v].getD 1 0).toNat []) (h3.imp id fun z=>z.2) (fun x hx=>?_) p hp;have hb:b.toNat<wr.length:=by omega
  have e:wr.getD ([a,b,v].getD 1 0).toNat []=wr[b.toNat]:=by
   show wr.getD b.toNat []=_;rw[Q9,Q4 hb];rfl
  rw[e]at hx;exact((T.hwr _ (ZR hb)).1 x hx).1
def dkB(B k:Nat):List (Key×U):=(Qz k).map fun i:Nat=>(Sum.inl (i:Int),U.ref (B+i))
theorem DH(B k:Nat)(u:U):jc (dkB B k) (Sum.inl (k:Int)) u=dkB B k++[(Sum.inl (k:Int),u)]:=yG fun h=>by
 unfold dkB at h;rw[Qe]at h;obtain⟨i,hi,e⟩:=Qc.mp h;have hi':=Qy.mp hi;have e':(Sum.inl (i:Int):Key)=Sum.inl (k:Int):=e;have:=Sum.inl.inj e';omega
theorem zO(B k:Nat):dkB B (k+1)=dkB B k++[(Sum.inl (k:Int),U.ref (B+k))]:=by
 unfold dkB;rw[List.range_succ,Qt];rfl
section
variable{r4:Option U}{f:Fn}
def tbS(S:Sto)(k:Nat):Sto:=S++(.dic (dkB (S.length+1) k)::Za k (.lst []))
theorem yh{k:Nat}(hk:k<=900):bY f [x0,some (.ref S.length),some (.int (k:Int)),r3,r4] (tbS S k)=some (.nx,[x0,some (.ref S.length),some (.int (k:Int)),r3,r4],tbS S (k+1)):=by
 have hl:(tbS S k).length=S.length+1+k:=by unfold tbS;simp;omega
 have g0:(tbS S k++[O.lst []])[S.length]?=some (.dic (dkB (S.length+1) k)):=by unfold tbS;rw[Q8,ga0];rfl
 have ld:(dkB (S.length+1) k).length<LIM:=by unfold dkB LIM;simp;omega
 have hs:(tbS S k++[O.lst []]).set S.length (.dic (dkB (S.length+1) (k+1)))=tbS S (k+1):=by
  unfold tbS;rw[Q8,gs0,List.replicate_succ'];rfl
 have h1:ki aB [x0,some (.ref S.length),some (.int (k:Int)),r3,r4] (tbS S k)=some (.ref (S.length+1+k),tbS S k++[.lst []]):=by rw[<-hl];rfl
 have hf:ji (.ref S.length) (.int (k:Int)) (.ref (S.length+1+k)) (tbS S k++[O.lst []])=some (tbS S (k+1)):=by
  have kk:nY (.int (k:Int))=some (Sum.inl (k:Int)):=rfl;rw[Ef,g0,Am,kk,QQ,if_pos ld,DH,<-zO,hs]
 unfold bY oM;rw[h1,QQ];have hv1:∀Y:Sto,au 1 [x0,some (.ref S.length),some (.int (k:Int)),r3,r4] Y=some (.ref S.length,Y):=fun Y=>rfl;have hv2:∀Y:Sto,au 2 [x0,some (.ref S.length),some (.int (k:Int)),r3,r4] Y=some (.int (k:Int),Y):=fun Y=>rfl;simp only[hv1,hv2,QQ,hf]
theorem qz:∀(m k:Nat) (r2:Option U),k+m<=900->
  ∃r2',cU (fun _=>True) (gNm 2) (bY f) ((List.range' k m).map fun i:Nat=>U.int (i:Int)) [x0,some (.ref S.length),r2,r3,r4] (tbS S k)=some (.nx,[x0,some (.ref S.length),r2',r3,r4],tbS S (k+m))
 |0,k,r2,_=>⟨r2,fK trivial⟩
 |m+1,k,r2,h=>by
  obtain⟨q,e⟩:=qz m (k+1) (some (.int (k:Int))) (by omega);refine⟨q,?_⟩;rw[List.range'_succ,Qx,show k+(m+1)=k+1+m by omega];exact(iU trivial rfl (yh (by omega))).trans e
theorem wK{B k b:Nat}(h:b<k):kI (dkB B k) (Sum.inl (b:Int))=some (U.ref (B+b)):=by
 have nd:((dkB B k).map (·.1)).Nodup:=by
  unfold dkB;rw[Qe];exact List.Pairwise.map _ (fun a b h e=>h (by have:=Sum.inl.inj (show(Sum.inl (a:Int):Key)=Sum.inl (b:Int)from e);omega)) Zh
 exact qy (p:=(Sum.inl (b:Int),U.ref (B+b))) nd (by unfold dkB;exact Qc.mpr ⟨b,Qy.mpr h,rfl⟩)
def tbL(S:Sto)(Ls:List (List Int))(G:Sto):Sto:=S++(.dic (dkB (S.length+1) Ls.length)::(Ls.map fun l=>O.lst (l.map U.int))++G)
theorem uC{Ls:List (List Int)}{G:Sto}{b:Nat}(h:b<Ls.length):(tbL S Ls G)[S.length+1+b]?=some (.lst ((Ls.getD b []).map U.int)):=by
 unfold tbL;rw[QK (by omega),show S.length+1+b-S.length=b+1 by omega,Qv,Qd,QD (by simpa using h),Qb,Q4 h,Q9,Q4 h];rfl
theorem B3{Ls:List (List Int)}{G:Sto}{b:Nat}{l:List Int}(h:b<Ls.length):(tbL S Ls G).set (S.length+1+b) (.lst (l.map U.int))=tbL S (Ls.set b l) G:=by
 unfold tbL;rw[XO _ _ (by omega),show S.length+1+b-S.length=b+1 by omega,Qv,List.set_cons_succ,List.set_append_left _ _ (by simpa using h),XY,List.map_set];rfl
theorem yg{Ls:List (List Int)}{G:Sto}{r2:Option U}{a:Int}{b:Nat}(h:b<Ls.length)(hl:(Ls.getD b []).length<=2000) :
  cX f [x0,some (.ref S.length),r2,some (.int a),some (.int (b:Int))] (tbL S Ls G)=some (.nx,[x0,some (.ref S.length),r2,some (.int a),some (.int (b:Int))],tbL S (Ls.set b (Ls.getD b []++[a])) G):=by
 have g0:(tbL S Ls G)[S.length]?=some (.dic (dkB (S.length+1) Ls.length)):=by unfold tbL;rw[ga0];rfl
 have kk:nY (.int (b:Int))=some (Sum.inl (b:Int)):=rfl;have g1:=uC (S:=S) (G:=G) h;have hv:kI (dkB (S.length+1) Ls.length) (Sum.inl (b:Int))=some (U.ref (S.length+1+b)):=wK h;obtain⟨wu,hwu⟩:∃wu,wu=(Ls.getD b []).map U.int:=⟨_,rfl⟩;have hA:wu.length<LIM:=by rw[hwu,QX];unfold LIM;omega
 have e3:(Ls.getD b []++[a]).map U.int=wu++[.int a]:=by rw[hwu,Qt];rfl
 rw[<-B3 h,e3];rw[<-hwu]at g1;unfold cX;rwa[g0,g1,kk,hv,Bw,fR hA]
end
theorem rL{S:Sto}{l:Nat}{xs:List Int}{a:Int}(neg:Bool)(h:S[l]?=some (.lst (xs.map U.int))):fIn neg (.int a) (.ref l) S=some (.bl (if neg then !inR xs a else inR xs a),S):=by
 have t:=Gw (b:=a) (row:=xs) (S:=S);simp only[fIn]at t;rw[if_pos flI]at t;have e:inU (.int a) (xs.map U.int)=inR xs a:=by
  have:=Option.some.inj t;simpa using this
 simp only[fIn,h];rw[if_pos flI,e]
theorem gO{ps:List (Int×Int)}:(bt ps).length<=ps.length:=by
 unfold bt;split
 ·rename_i hx;obtain⟨h1,h2⟩:=hx.choose_spec;exact List.Nodup.length_le_of_subset (h1.imp fun{a b} h e=>by subst e;rw[mB]at h;cases h) fun p hp=>(h2 p).mp hp
 ·exact Qi _
def bfL(M:List (Int×Int))(m:Nat):List (List Int):=(Qz m).map fun b:Nat=>(M.filter fun p=>decide (p.2=(b:Int))).map (·.1)
theorem dN(M:List (Int×Int))(m:Nat):(bfL M m).length=m:=by simp[bfL]
theorem p9{M:List (Int×Int)}{m b:Nat}(h:b<m):(bfL M m).getD b []=(M.filter fun p=>decide (p.2=(b:Int))).map (·.1):=by
 unfold bfL;rw[Q9,Qb,XD h];rfl
theorem mV{M:List (Int×Int)}{m:Nat}{a c:Int}(h0:0<=a)(h:a<m):c∈(bfL M m).getD a.toNat []↔(c,a)∈M:=by
 rw[p9 (by omega),Qc];constructor
 ·rintro⟨⟨p,q⟩,hp,rfl⟩;obtain⟨h1,h2⟩:=Zv.mp hp;have:q=a:=by have:=of_decide_eq_true h2;dsimp only at this;omega
  rw[<-this];exact h1
 ·exact fun h=>⟨_,Zv.mpr ⟨h,decide_eq_true (by dsimp only;omega)⟩,rfl⟩
theorem xi{M:List (Int×Int)}{m b:Nat}:((bfL M m).getD b []).length<=M.length:=by
 by_cases h:b<m
 ·rw[p9 h,QX];exact XJ ..
 ·rw[Q9,ZU (by rw[dN];omega)];exact Qi _
theorem Aa{M:List (Int×Int)}{m b:Nat}{p:Int×Int}(hp:p.2=(b:Int))(hb:b<m):bfL (M++[p]) m=(bfL M m).set b ((bfL M m).getD b []++[p.1]):=by
 refine Zw fun i=>?_;rw[Zz];by_cases hi:i<m
 ·have e1:∀N,(bfL N m)[i]?=some ((N.filter fun p=>decide (p.2=(i:Int))).map (·.1)):=fun N=>by
   unfold bfL;rw[Qb,XD hi];rfl
  rw[e1];by_cases h:b=i
  ·subst h;rw[if_pos rfl,if_pos (by rw[dN];exact hb),p9 hb,List.filter_append,Qt];simp[hp]
  ·rw[if_neg h,e1,List.filter_append];have:decide (p.2=(i:Int))=false:=decide_eq_false (by omega);simp[this]
 ·rw[ZU (by rw[dN];omega),if_neg (by omega),ZU (by rw[dN];omega)]
structure Bf(D:Nat)(Ls:List (List Int))(S:Sto):Prop where
 d:S[D]?=some (.dic (dkB (D+1) Ls.length))
 l:∀b,b<Ls.length->S[D+1+b]?=some (.lst ((Ls.getD b []).map U.int))
theorem Bf.app{D:Nat}{Ls:List (List Int)}{S:Sto}(h:Bf D Ls S)(G:Sto):Bf D Ls (S++G):=⟨ax h.d,fun b hb=>ax (h.l b hb)⟩
theorem Bf.set{D:Nat}{Ls:List (List Int)}{S:Sto}{j:Nat}{o:O}(h:Bf D Ls S)(hj:D+Ls.length<j):Bf D Ls (S.set j o):=⟨by rw[Qa (by omega)];exact h.d,fun b hb=>by rw[Qa (by omega)];exact h.l b hb⟩
theorem Bf.ix{D:Nat}{Ls:List (List Int)}{S:Sto}(h:Bf D Ls S){a:Int}(h0:0<=a)(h1:a.toNat<Ls.length):fIx (.ref D) (.int a) S=some (.ref (D+1+a.toNat),S):=by
 have kk:nY (.int a)=some (Sum.inl ((a.toNat:Nat):Int)):=by rw[Es,Int.toNat_of_nonneg h0]
 rw[Et,h.d,Bw,kk,QQ,wK h1,QQ]
theorem B4{S:Sto}{Ls:List (List Int)}{G:Sto}{j:Nat}(h:S.length+1+Ls.length<=j):(tbL S Ls G)[j]?=G[j-(S.length+1+Ls.length)]?:=by
 unfold tbL;rw[QK (by omega),QK (by simp;omega)];congr 1;simp;omega
theorem HX{S G:Sto}{m:Nat}:tbS S m++G=tbL S (bfL [] m) G:=by
 unfold tbS tbL;have:(bfL [] m).map (fun l=>O.lst (l.map U.int))=Za m (O.lst []):=by
  unfold bfL;rw[Qe];refine List.eq_replicate_iff.mpr ⟨by simp,fun b hb=>?_⟩;obtain⟨i,_,rfl⟩:=Qc.mp hb;rfl
 rw[this,dN,Q8]
theorem ES{S G:Sto}{Ls:List (List Int)}:Bf S.length Ls (tbL S Ls G):=⟨by unfold tbL;rw[ga0];rfl,fun b hb=>uC hb⟩
def Jq:Fn:=fnU 5 1 (bV kq)
variable{tms:List (Int×Int)}
theorem HW(T:dC many tms wr lk)(m0:0<=many)(hm:many<=30):Wp (Jq [bZ many (.tup (tms.map pP)) wr lk] S) fun r=>r.1=.ref S.length/\(∃G,r.2=S++G)/\Bf S.length (bfL (bt (gB tms wr lk)) many.toNat) r.2/\S.length+1+many.toNat<=r.2.length:=by
 obtain⟨G1,j,e1,g1,lj⟩:=y6 (S:=tbS S many.toNat) T hm;have hin:∀p∈bt (gB tms wr lk),0<=p.2/\p.2<many:=fun p hp=>(T.all_in p (bE.mp hp)).2;have hml:(bt (gB tms wr lk)).length<=1000:=Qu gO (T.all_len (by omega));generalize bt (gB tms wr lk)=M at g1 hin hml ⊢;have hix:∀Y,fIx (bZ many (.tup (tms.map pP)) wr lk) (.int 0) Y=some (.int many,Y):=fun Y=>rfl;generalize bZ many (.tup (tms.map pP)) wr lk=tu at e1 hix ⊢;have lt:(tbS S many.toNat).length=S.length+1+many.toNat:=by unfold tbS;simp;omega
 rw[lt]at lj;rw[HX]at e1 g1;have far:∀N,(tbL S (bfL N many.toNat) G1)[j]?=some (.lst (M.map pP)):=fun N=>by
  rw[B4 (by rw[dN];exact lj),dN]at g1 ⊢;exact g1
 obtain⟨r2',h1⟩:=qz (S:=S) (x0:=some tu) (r3:=none) (r4:=none) (f:=kq) many.toNat 0 none (by omega);unfold Jq;rw[kE];unfold bV;rwa[];refine Wp.bind (Wp.bind (ux (S1:=S++[.dic []]) (iW (n:=many) (by rwa[hix]) m0 (by omega)) (.of (r:=(.nx,[some tu,some (.ref S.length),r2',none,none],tbS S many.toNat)) ?_ ?_)))
 ·rw[kO,List.range_eq_range'];rw[X6]at h1;exact h1
 rwa[];refine Wp.bind (ux (S1:=tbL S (bfL [] many.toNat) G1) (oa (l:=j) (us:=M.map pP) (by rwa[e1]) (far [])) (nv (fun rest ρ Y=>∃dn r2 r3 r4,M=dn++rest/\ρ=[some tu,some (.ref S.length),r2,r3,r4]/\Y=tbL S (bfL dn many.toNat) G1) (fun ρ Y h=>?_) (fun p rest ρ Y h=>?_) M _ _ ⟨[],_,_,_,rfl,rfl,rfl⟩))
 ·obtain⟨dn,r2,r3,r4,rfl,rfl,rfl⟩:=h;rw[Qn]at far ⊢;refine⟨far dn,?_⟩;rwa[ay];refine⟨trivial,⟨_,rfl⟩,ES,?_⟩;unfold tbL;simp[dN];omega
 ·obtain⟨dn,r2,r3,r4,rfl,rfl,rfl⟩:=h;refine⟨far dn,?_⟩;have hp:=hin p (by simp);have e2:p.2=((p.2.toNat:Nat):Int):=by omega
  have hb:p.2.toNat<many.toNat:=by omega
  have tt:=yg (S:=S) (x0:=some tu) (f:=kq) (Ls:=bfL dn many.toNat) (G:=G1) (r2:=r2) (a:=p.1) (b:=p.2.toNat) (by rw[dN];exact hb) (by have:=xi (M:=dn) (m:=many.toNat) (b:=p.2.toNat);rw[QZ]at hml;omega);rw[<-e2,<-Aa e2 hb]at tt;refine .of (r:=([some tu,some (.ref S.length),r2,some (.int p.1),some (.int p.2)],tbL S (bfL dn many.toNat) G1)) rfl (.of tt (.inl ⟨rfl,dn++[p],r2,_,_,by simp,rfl,rfl⟩))
theorem J6{ca:CE}{ρ:Rho}{S:Sto}{l:Nat}{Q:U×Sto->Prop}{us:List U}(h:ca ρ S=some (.ref l,S))(hl:S[l]?=some (.lst us))(q:Q (.ref S.length,S++[.lst us.reverse])):Wp (jC ca ρ S) Q:=by
 refine .of (r:=(.ref S.length,S++[.lst us.reverse])) ?_ q;unfold jC;rw[h,QQ];simp only[hl]
structure mY(Ls:List (List Int))(rs:List Int):Prop where
 nd:rs.Nodup
 two:2<=rs.length
 cyc:∀k,k<rs.length->rs.getD (if k=0 then rs.length-1 else k-1) 0∈Ls.getD (rs.getD k 0).toNat []
theorem wy{xs ys:List Int}{i:Nat}(h:i<xs.length):(xs++ys).getD i 0=xs.getD i 0:=by
 rw[Q9,QD h,Q9]
theorem k8{xs:List Int}{i:Nat}(h:i<xs.length):xs.getD i 0∈xs:=by
 rw[Q9,Q4 h];exact ZR h
theorem wx{xs:List Int}{a:Int}:(xs++[a]).getD xs.length 0=a:=by
 rw[Q9,QK (QJ _),XM];rfl
theorem Cn{Ls:List (List Int)}{tr:List Int}{c:Int}(nd:tr.Nodup)(hn:∀i,i+1<tr.length->tr.getD (i+1) 0∈Ls.getD (tr.getD i 0).toNat [])(hc:c∈tr)(hl:c∈Ls.getD (tr.getD (tr.length-1) 0).toNat [])(hne:c≠tr.getD (tr.length-1) 0):mY Ls (tr.drop (tr.idxOf c)).reverse:=by
 have hi:tr.idxOf c<tr.length:=Zq hc;have gi:tr.getD (tr.idxOf c) 0=c:=by
  rw[Q9,Q4 hi];exact List.getElem_idxOf hi
 generalize tr.idxOf c=i at hi gi;have h1:i+1<tr.length:=by
  refine Nat.lt_of_not_le fun z=>hne ?_;rw[show tr.length-1=i by omega,gi]
 have len:(tr.drop i).reverse.length=tr.length-i:=by simp
 have gd:∀k,k<tr.length-i->(tr.drop i).reverse.getD k 0=tr.getD (tr.length-1-k) 0:=fun k hk=>by
  rw[Q9,List.getElem?_reverse (by simpa using hk),XQ,Q9];congr 2;simp;omega
 refine⟨(List.reverse_perm _).nodup_iff.mpr (nd.sublist (Zn ..)),by rw[len];omega,fun k hk=>?_⟩;rw[len]at hk;rw[len,gd k hk];by_cases h0:k=0
 ·subst h0;rw[if_pos rfl,gd _ (by omega),show tr.length-1-(tr.length-i-1)=i by omega,gi];exact hl
 ·rw[if_neg h0,gd _ (by omega),show tr.length-1-(k-1)=tr.length-1-k+1 by omega];exact hn _ (by omega)
def Jr:Fn:=fnU 5 2 (cP 100)
section
variable{D jl:Nat}{Ls:List (List Int)}{left:List Int}
theorem Ib (hB : Bf D Ls S) (hl : S[jl]? = some (.lst (left.map U.int))) (h1 : left ≠ []) (hin : ∀ a ∈ left, 0 <= a /\ a.toNat < Ls.length) (hpre : ∀ a ∈ left, ∃ c ∈ Ls.getD a.toNat [], c ∈ left) (hLs : ∀ b, (Ls.getD b []).length <= 1000) (hll : left.length <= 90) (hne : ∀ a ∈ left, a ∉ Ls.getD a.toNat []) :
    Wp (Jr [.ref D,.ref jl] S) fun r=>∃j rs,r.1=.ref j/\(∃G,r.2=S++G)/\S.length<=j/\r.2[j]?=some (.lst (rs.map U.int))/\mY Ls rs/\∀a∈rs,a∈left:=by
  obtain⟨a0,lr,rfl⟩:=List.exists_cons_of_ne_nil h1;unfold Jr;rw[oz];unfold cP;rwa[hl,ay];generalize hleft:a0::lr=left at *;refine Wp.bind (uw (fun n ρ Y=>∃tr r3 r4 G,ρ=[some (.ref D),some (.ref jl),some (.ref S.length),r3,r4]/\Y=S++(.lst (tr.map U.int)::G)/\tr≠[]/\tr.Nodup/\(∀a∈tr,a∈left)/\(∀i,i+1<tr.length->tr.getD (i+1) 0∈Ls.getD (tr.getD i 0).toNat [])/\n+tr.length=left.length) (fun n ρ Y h=>?_) 100 (left.length-1) _ _ (by omega) ⟨[a0],none,none,[],rfl,rfl,by simp,by simp,fun a ha=>by rw[Qg.mp ha,<-hleft];exact QB,fun i hi=>by simp at hi,by rw[<-hleft];simp⟩);obtain⟨tr,r3,r4,G,rfl,hY,hne',nd,hs,hnx,hn⟩:=h;obtain⟨t0,c,rfl⟩:∃t0 c,tr=t0++[c]:=⟨_,_,(List.dropLast_concat_getLast hne').symm⟩;have hc:c∈left:=hs c (by simp);have gt:Y[S.length]?=some (.lst ((t0++[c]).map U.int)):=by rw[hY,ga0];rfl
  have hBY:Bf D Ls Y:=by rw[hY];exact hB.app _
  have hlY:Y[jl]?=some (.lst (left.map U.int)):=by rw[hY];exact ax hl
  have hat:atI ((t0++[c]).map U.int) (-1)=some (.int c):=by rw[Qt];exact xn
  obtain⟨tu,htu⟩:∃tu,tu=(t0++[c]).map U.int:=⟨_,rfl⟩;rw[<-htu]at gt hat;have hix:=hBY.ix (hin c hc).1 (hin c hc).2;unfold fV;rwa[ay];refine⟨fun z=>(nomatch z),fun _=>?_⟩;refine Wp.bind (Wp.bind (Wp.bind (lM (S1:=Y) (cs:=[some (.ref jl)]) (xs:=Ls.getD c.toNat []) (f:=U.int) (v:=U.int) (p:=inR left) (oa (l:=D+1+c.toNat) (by rwa[t4,nh,gt,hat,hix,ay]) (hBY.l _ (hin c hc).2)) (fun G=>ax (hBY.l _ (hin c hc).2)) (by have:=hLs c.toNat;omega) rfl (fun x hx G=>?_) fun G2=>?_)))
  · have i1:=rL (S:=Y++G) (a:=x) false (ax hlY)
    rwa[i1,if_false,Qr,ay];exact⟨trivial,[],by simp,fun _=>⟨trivial,[],by simp⟩⟩
  obtain⟨b,hbm,hbl⟩:=hpre c hc;obtain⟨e,es,hes⟩:∃e es,(Ls.getD c.toNat []).filter (inR left)=e::es:=by
    cases h:(Ls.getD c.toNat []).filter (inR left)with
    | nil => have : b ∈ (Ls.getD c.toNat []).filter (inR left) := Zv.mpr ⟨hbm, decide_eq_true hbl⟩
             rw[h]at this;cases this
    |cons e es=>exact⟨e,es,rfl⟩
  have hem:e∈Ls.getD c.toNat []/\e∈left:=by
    have:e∈(Ls.getD c.toNat []).filter (inR left):=by rw[hes];exact QB
    exact⟨(Zv.mp this).1,jU (Zv.mp this).2⟩
  rw[hes,Qx];obtain⟨Y1,hY1⟩:∃Y1,Y1=Y++(.lst (.int e::es.map U.int)::G2):=⟨_,rfl⟩;rw[<-hY1];have g1:Y1[Y.length]?=some (.lst (.int e::es.map U.int)):=by rw[hY1,ga0];rfl
  have gt1:Y1[S.length]?=some (.lst tu):=by rw[hY1];exact ax gt
  have gt2:=gt1;rw[htu]at gt2;have i2:=rL (S:=Y1) (a:=e) false gt2;rwa[g1,i2,if_false,Qr,ay];have hY1S:Y1=S++(.lst tu::(G++(.lst (.int e::es.map U.int)::G2))):=by rw[hY1,hY,htu];simp
  have hlen:(t0++[c]).length<=left.length:=List.Nodup.length_le_of_subset nd hs;have lastc:(t0++[c]).getD ((t0++[c]).length-1) 0=c:=by
    rw[show(t0++[c]).length-1=t0.length by simp];exact wx
  by_cases he:e∈t0++[c]
  · have:inR (t0++[c]) e=true:=decide_eq_true he
    have ix:=cY (S:=Y1) gt2 he (by omega);have sl:=pF (S:=Y1) (k:=(t0++[c]).idxOf e) gt2 (by rw[QX];exact Zf (Zq he));rw[this];rwa[cSl,iH,gt1,ix,sl,ay];refine Wp.bind (Wp.bind (J6 (l:=Y1.length) (us:=((t0++[c]).map U.int).drop ((t0++[c]).idxOf e)) rfl (by rw[ga0];rfl) ?_));rwa[ay];refine .inr ⟨_,rfl,Y1.length+1,((t0++[c]).drop ((t0++[c]).idxOf e)).reverse,?_,?_,?_,?_,Cn nd hnx he (by rw[lastc];exact hem.1) (by rw[lastc];intro z;rw[z]at hem;exact hne c hc hem.1),fun a ha=>hs a (ZF (List.mem_reverse.mp ha))⟩
    · simp
    · rw[hY1S];exact⟨_,by rw[Q8]⟩
    · rw[hY1S];simp;omega
    · rw[ga];simp[List.map_reverse,List.map_drop]
  · have:inR (t0++[c]) e=false:=decide_eq_false he
    have hA:tu.length<LIM:=by rw[htu,QX];unfold LIM;omega
    rw[this];rwa[gt1,fR hA,ay];have nd2:(t0++[c]++[e]).Nodup:=XS.mpr ⟨nd,by simp,fun x hx y hy z=>by rw[Qg.mp hy]at z;exact he (z▸hx)⟩;have hs2:∀a∈t0++[c]++[e],a∈left:=fun a ha=>by
      rcases QN.mp ha with z|z
      · exact hs a z
      · rw[Qg.mp z];exact hem.2
    have hlen2:=List.Nodup.length_le_of_subset nd2 hs2;rw[QZ,Qo]at hlen2;refine .inl ⟨trivial,n-1,by omega,t0++[c]++[e],some (.int e),r4,G++(.lst (.int e::es.map U.int)::G2),rfl,?_,by simp,nd2,hs2,fun i hi=>?_,by rw[QZ (bs:=[e]),Qo];omega⟩
    · rw[hY1S,gs0,Qt (l₂:=[e]),<-htu];rfl
    · rw[QZ (bs:=[e]),Qo]at hi
      by_cases h2:i+1<(t0++[c]).length
      · rw[wy h2,wy (by omega)];exact hnx i h2
      · have:i+1=(t0++[c]).length:=by omega
        rw[this,wx,wy (by omega),show i=(t0++[c]).length-1 by omega,lastc];exact hem.1
end
def rgI(m:Nat):List Int:=(Qz m).map fun i:Nat=>(i:Int)
theorem bC{m:Nat}{a:Int}:a∈rgI m↔0<=a/\a<m:=by
 unfold rgI;constructor
 ·intro h;obtain⟨i,hi,rfl⟩:=Qc.mp h;have:=Qy.mp hi;omega
 ·exact fun h=>Qc.mpr ⟨a.toNat,Qy.mpr (by omega),by omega⟩
theorem uV(m:Nat):(rgI m).Nodup:=List.Pairwise.map _ (fun a b h e=>h (by omega)) Zh
structure DV(Ls:List (List Int))(m:Nat)(os:List Int):Prop where
 nd:os.Nodup
 mem:∀a,a∈os↔a∈rgI m
 lt:∀a∈os,∀c∈Ls.getD a.toNat [],os.idxOf c<os.idxOf a
structure OL(Ls:List (List Int))(m:Nat)(os ls:List Int):Prop where
 nd:os.Nodup
 ndl:ls.Nodup
 mem:∀a,a∈rgI m↔a∈os\/a∈ls
 dis:∀a∈os,a∉ls
 lt:∀a∈os,∀c∈Ls.getD a.toNat [],c∈os/\os.idxOf c<os.idxOf a
def frO(Ls:List (List Int))(ls:List Int):List Int:=ls.filter fun a=>!((Ls.getD a.toNat []).any (inR ls))
theorem jY{Ls:List (List Int)}{ls:List Int}{a:Int}:a∈frO Ls ls↔a∈ls/\∀c∈Ls.getD a.toNat [],c∉ls:=by
 unfold frO inR;rw[Zv];simp
theorem OL.step{Ls:List (List Int)}{m:Nat}{os ls:List Int}(h:OL Ls m os ls)(hL:∀a∈rgI m,∀c∈Ls.getD a.toNat [],c∈rgI m):OL Ls m (os++frO Ls ls) (ls.filter fun a=>!inR (frO Ls ls) a):=by
 have ml:∀a,a∈ls.filter (fun a=>!inR (frO Ls ls) a)↔a∈ls/\a∉frO Ls ls:=fun a=>by
  rw[Zv];unfold inR;simp
 refine⟨XS.mpr ⟨h.nd,h.ndl.sublist List.filter_sublist,fun x hx y hy e=>h.dis x hx (e▸(jY.mp hy).1)⟩,h.ndl.sublist List.filter_sublist,fun a=>?_,fun a ha hb=>?_,fun a ha c hc=>?_⟩
 ·rw[h.mem,QN,ml];constructor
  ·rintro(z|z)
   ·exact .inl (.inl z)
   ·by_cases hf:a∈frO Ls ls
    ·exact .inl (.inr hf)
    ·exact .inr ⟨z,hf⟩
  ·rintro((z|z)|z)
   ·exact .inl z
   ·exact .inr (jY.mp z).1
   ·exact .inr z.1
 ·obtain⟨z1,z2⟩:=(ml a).mp hb;rcases QN.mp ha with z|z
  ·exact h.dis a z z1
  ·exact z2 z
 ·rcases QN.mp ha with z|z
  ·obtain⟨h1,h2⟩:=h.lt a z c hc;exact⟨Qm _ h1,by rw[List.idxOf_append,if_pos h1,List.idxOf_append,if_pos z];exact h2⟩
  ·obtain⟨z1,z2⟩:=jY.mp z;have hc1:c∈os:=((h.mem c).mp (hL a ((h.mem a).mpr (.inr z1)) c hc)).resolve_right (z2 c hc);have na:a∉os:=fun q=>h.dis a q z1;refine⟨Qm _ hc1,?_⟩;rw[List.idxOf_append,if_pos hc1,List.idxOf_append,if_neg na];have:=Zq hc1;omega
def DT:Fn:=fnU 5 1 (bP Jq Jr 100)
def Jt(Ls:List (List Int))(m:Nat)(S:Sto)(r:U×Sto):Prop:=(∃G,r.2=S++G)/\∃j xs,S.length<=j/\r.2[j]?=some (.lst (xs.map U.int))/\xs.length<=m/\((r.1=.tup [.str "order",.ref j]/\DV Ls m xs)\/(r.1=.tup [.str "ring",.ref j]/\mY Ls xs/\∀a∈xs,a∈rgI m))
theorem qZ(T:dC many tms wr lk)(m0:0<=many)(hm:many<=30):Wp (DT [bZ many (.tup (tms.map pP)) wr lk] S) (Jt (bfL (bt (gB tms wr lk)) many.toNat) many.toNat S):=by
 obtain⟨⟨u,S1⟩,e1,h1,⟨G1,hG1⟩,hB,hS1⟩:=HW (S:=S) T m0 hm;dsimp only at h1 hG1 hB hS1;subst h1;have hin:∀p∈bt (gB tms wr lk),p.1∈rgI many.toNat/\p.1≠p.2:=fun p hp=>⟨bC.mpr (by have:=(T.all_in p (bE.mp hp)).1;omega),T.all_ne p (bE.mp hp)⟩;have hml:(bt (gB tms wr lk)).length<=1000:=Qu gO (T.all_len (by omega));generalize bt (gB tms wr lk)=M at hB hin hml ⊢;generalize bZ many (.tup (tms.map pP)) wr lk=tu at e1 ⊢;obtain⟨m,hm'⟩:∃m,m=many.toNat:=⟨_,rfl⟩;rw[<-hm']at hB hS1 hin ⊢;have hm30:m<=30:=by omega
 have bm:∀{a c:Int},a∈rgI m->(c∈(bfL M m).getD a.toNat []↔(c,a)∈M):=fun{a c} ha=>mV (bC.mp ha).1 (bC.mp ha).2;have few:∀b,((bfL M m).getD b []).length<=1000:=fun b=>Qu xi hml;have hL:∀a∈rgI m,∀c∈(bfL M m).getD a.toNat [],c∈rgI m:=fun a ha c hc=>(hin _ ((bm ha).mp hc)).1;have hne:∀a∈rgI m,a∉(bfL M m).getD a.toNat []:=fun a ha hc=>(hin _ ((bm ha).mp hc)).2 rfl;have blen:=dN M m;generalize bfL M m=Ls at hB few hL hne blen ⊢;have hlist:oy [.ref S.length] (S1++[.lst []])=some (.ref (S1.length+1),S1++[.lst [],.lst ((rgI m).map U.int)]):=by
  have g:(S1++[O.lst []])[S.length]?=some (.dic (dkB (S.length+1) m)):=by have:=hB.d;rw[blen]at this;exact ax this
  have ek:(dkB (S.length+1) m).map (fun p=>kU p.1)=(rgI m).map U.int:=by
   unfold dkB rgI;rw[Qe,Qe];rfl
  simp only[oy,g,ek];simp
 unfold DT;rw[j8];unfold bP;rwa[e1,hlist,ay];refine Wp.bind (Wp.bind (uw (fun n ρ Y=>∃os ls jl r4 G,ρ=[some tu,some (.ref S.length),some (.ref S1.length),some (.ref jl),r4]/\Y[S1.length]?=some (.lst (os.map U.int))/\Y[jl]?=some (.lst (ls.map U.int))/\jl≠S1.length/\Bf S.length Ls Y/\Y=S++G/\OL Ls m os ls/\ls.length=n) (fun n ρ Y h=>?_) 100 m _ _ (by omega) ⟨[],rgI m,S1.length+1,none,G1++[.lst [],.lst ((rgI m).map U.int)],rfl,by rw[ga0];rfl,by rw[ga];rfl,by omega,hB.app _,by rw[hG1];simp,⟨by simp,uV m,fun a=>by simp,fun a ha=>(by cases ha),fun a ha=>(by cases ha)⟩,by simp[rgI]⟩));obtain⟨os,ls,jl,r4,G,rfl,go,gl,nj,hBY,hYG,ol,hn⟩:=h;have lY:S1.length<Y.length:=(Q7.mp go).1;have lls:ls.length<=m:=by
  have:=List.Nodup.length_le_of_subset ol.ndl (fun a ha=>(ol.mem a).mpr (.inr ha));simpa [rgI] using this
 have los:os.length<=m:=by
  have:=List.Nodup.length_le_of_subset ol.nd (fun a ha=>(ol.mem a).mpr (.inl ha));simpa [rgI] using this
 obtain⟨lu,hlu⟩:∃lu,lu=ls.map U.int:=⟨_,rfl⟩;have glu:=gl;rw[<-hlu]at glu;have ll:lu.length=n:=by rw[hlu,QX,hn]
 have t1:aN (cOp fGt (cCB jn (ag (au 3) aB)) (cC (.int 0))) [some tu,some (.ref S.length),some (.ref S1.length),some (.ref jl),r4] Y=some (decide ((n:Int)>0),Y):=by
  rwa[glu,ll]
 rw[t1];simp only[ay];refine⟨fun hz=>?_,fun hz=>?_⟩
 ·have:ls=[]:=by have:=of_decide_eq_false hz;exact List.length_eq_zero_iff.mp (by omega)
  subst this;rwa[ay];refine⟨⟨G,hYG⟩,S1.length,os,by rw[hG1];simp,go,los,.inl ⟨rfl,ol.nd,fun a=>by rw[ol.mem];simp,fun a ha c hc=>(ol.lt a ha c hc).2⟩⟩
 have hnz:=of_decide_eq_true hz;have hrg:∀a∈ls,a∈rgI m:=fun a ha=>(ol.mem a).mpr (.inr ha);have hlt:∀a∈ls,0<=a/\a.toNat<Ls.length:=fun a ha=>by have:=bC.mp (hrg a ha);omega
 unfold dZ;rwa[ay];refine Wp.bind (Wp.bind (lM (S1:=Y) (cs:=[some (.ref jl),some (.ref S.length)]) (xs:=ls) (f:=U.int) (v:=U.int) (p:=fun a=>!((Ls.getD a.toNat []).any (inR ls))) (oa (l:=jl) rfl gl) (fun G=>ax gl) (by omega) rfl (fun a ha X=>?_) fun G2=>?_))
 ·have hBX:=hBY.app X;have hix:=hBX.ix (hlt a ha).1 (hlt a ha).2;simp only[Em,qo];refine Wp.bind (Wp.bind (J7 (sF (S1:=Y++X) (cs:=[some (.ref jl)]) (xs:=Ls.getD a.toNat []) (f:=U.int) (v:=fun b=>.bl (inR ls b)) (oa (l:=S.length+1+a.toNat) (by rwa[hix]) (hBX.l _ (hlt a ha).2)) (fun G=>ax (hBX.l _ (hlt a ha).2)) (by have:=few a.toNat;omega) rfl (fun b hb X2=>?_) fun X2=>?_)))
  ·have i1:=rL (S:=Y++(X++X2)) (a:=b) false (ax gl);rwa[i1,if_false,Qr,ay];exact⟨trivial,[],by simp⟩
  ·refine J8 (bs:=(Ls.getD a.toNat []).map (inR ls)) (by rw[ga0,Qe];rfl) ?_;rwa[ay];refine⟨by rw[List.any_map];rfl,_,rfl,fun _=>⟨trivial,[],by simp⟩⟩
 change _ at G2;have efr:(ls.filter fun a=>!((Ls.getD a.toNat []).any (inR ls)))=frO Ls ls:=rfl;rw[efr];obtain⟨fu,hfu⟩:∃fu,fu=(frO Ls ls).map U.int:=⟨_,rfl⟩;have lfu:fu.length=(frO Ls ls).length:=by rw[hfu,QX]
 rw[<-hfu];obtain⟨Y1,hY1⟩:∃Y1,Y1=Y++(.lst fu::G2):=⟨_,rfl⟩;rw[<-hY1];have gf:Y1[Y.length]?=some (.lst fu):=by rw[hY1,ga0];rfl
 have gl1:Y1[jl]?=some (.lst (ls.map U.int)):=by rw[hY1];exact ax gl
 have go1:Y1[S1.length]?=some (.lst (os.map U.int)):=by rw[hY1];exact ax go
 have hB1:Bf S.length Ls Y1:=by rw[hY1];exact hBY.app _
 have frl:(frO Ls ls).length<=ls.length:=XJ ..;by_cases h0:frO Ls ls=[]
 ·have t2:decide (((frO Ls ls).length:Int)=0)=true:=by rw[h0];rfl
  obtain⟨⟨v,Y2⟩,e2,j,rs,z1,⟨G3,hG3⟩,lj,gj,rb,rin⟩:=Ib (S:=Y1) hB1 gl1 (by intro z;rw[z]at hn;simp at hn;omega) hlt (fun a ha=>by
   have:a∉frO Ls ls:=by rw[h0];simp
   by_cases hx:∃c∈Ls.getD a.toNat [],c∈ls
   ·exact hx
   ·exact absurd (jY.mpr ⟨ha,fun c hc hcl=>hx ⟨c,hc,hcl⟩⟩) this) few (by omega) (fun a ha=>hne a (hrg a ha))
  dsimp only at z1 hG3 gj;subst z1;rwa[gf,lfu,t2,e2,ay];refine .inr ⟨_,rfl,⟨_,by rw[hG3,hY1,hYG,Q8,Q8]⟩,j,rs,?_,gj,?_,.inr ⟨rfl,rb,fun a ha=>hrg a (rin a ha)⟩⟩
  ·rw[hY1,hYG]at lj;simp at lj;omega
  ·have:=List.Nodup.length_le_of_subset rb.nd rin;omega
 ·have t2:decide (((frO Ls ls).length:Int)=0)=false:=decide_eq_false (by have:=List.length_pos_iff.mpr h0;omega);obtain⟨ou,hou⟩:∃ou,ou=os.map U.int:=⟨_,rfl⟩;rw[<-hou]at go1;have x1:=A2 (l:=S1.length) (b:=Y.length) (us:=ou) (vs:=fu) (Y:=Y1) go1 gf (by rw[lfu,hou,QX];unfold LIM;omega);rwa[gf,lfu,t2,go1,x1,ay];obtain⟨Y2,hY2⟩:∃Y2,Y2=Y1.set S1.length (.lst (ou++fu)):=⟨_,rfl⟩;rw[<-hY2];have l12:S1.length<Y1.length:=(Q7.mp go1).1;have lY1:Y.length<Y1.length:=(Q7.mp gf).1;have gl2:Y2[jl]?=some (.lst (ls.map U.int)):=by rw[hY2,Qa (by omega)];exact gl1
  have gf2:Y2[Y.length]?=some (.lst ((frO Ls ls).map U.int)):=by rw[hY2,Qa (by omega),<-hfu];exact gf
  have go2:Y2[S1.length]?=some (.lst ((os++frO Ls ls).map U.int)):=by rw[hY2,Zz,if_pos rfl,if_pos l12,hou,hfu,Qt]
  have hB2:Bf S.length Ls Y2:=by rw[hY2];exact hB1.set (by rw[blen];omega)
  refine Wp.bind (lM (S1:=Y2) (cs:=[some (.ref Y.length)]) (xs:=ls) (f:=U.int) (v:=U.int) (p:=fun a=>!inR (frO Ls ls) a) (oa (l:=jl) rfl gl2) (fun G=>ax gl2) (by omega) rfl (fun a ha X=>?_) fun G3=>?_)
  ·have i1:=rL (S:=Y2++X) (a:=a) true (ax gf2);rwa[i1,if_true,ay];exact⟨trivial,[],by simp,fun _=>⟨trivial,[],by simp⟩⟩
  ·rwa[ay];have hlt2:(ls.filter fun a=>!inR (frO Ls ls) a).length<n:=by
    rw[<-hn];refine XN (XJ ..) fun e=>?_;obtain⟨x,xs,hx⟩:=List.exists_cons_of_ne_nil h0;have hx':x∈frO Ls ls:=by rw[hx];exact QB
    have:=List.length_filter_eq_length_iff.mp e x (jY.mp hx').1;rw[show inR (frO Ls ls) x=true from decide_eq_true hx']at this;cases this
   refine .inl ⟨trivial,_,hlt2,os++frO Ls ls,_,Y2.length,_,?_,rfl,ax go2,by rw[ga0];rfl,?_,hB2.app _,?_,ol.step hL,rfl⟩
   ·exact(G++(.lst fu::G2)).set (S1.length-S.length) (.lst (ou++fu))++(.lst ((ls.filter fun a=>!inR (frO Ls ls) a).map U.int)::G3)
   ·rw[hY2,XY];omega
   ·have lS:S.length<=S1.length:=by rw[hG1];simp
    rw[hY2,hY1,hYG,Q8,XO _ _ lS,Q8]
def pDt(p:Int×Int):PyData:=.tuple [.int p.1,.int p.2]
theorem AK(p:Int×Int):(pDt p).canLay0=true:=by simp[pDt,PyData.canLay0,PyData.canLayAll0]
theorem vy:∀ts:List (Int×Int),PyData.canLayAll0 (ts.map pDt)=true
 |[]=>by simp[PyData.canLayAll0]
 |p::ts=>by rw[Qx];unfold PyData.canLayAll0;rw[AK,vy ts];rfl
theorem AL{S:Sto}:∀ts:List (Int×Int),DtL S (ts.map pP) (ts.map pDt)
 |[]=>.nil
 |p::ts=>.cons (.tup (.cons (.int _) (.cons (.int _) .nil))) (AL ts)
theorem C1(p q:Int×Int):(pDt q).eqv (pDt p)=decide (q=p):=by
 have e:(pDt q).eqv (pDt p)=((q.1 == p.1)&&((q.2 == p.2)&&true)):=rfl;rw[e,Zi];obtain⟨a,b⟩:=p;obtain⟨c,d⟩:=q;simp
theorem Gx{l:Nat}{ts:List (Int×Int)}{p:Int×Int}(h:S[l]?=some (.lst (ts.map pP))):D3 false (pP p) (.ref l) S=some (.bl (decide (p∈ts)),S):=by
 have e:((ts.map pDt).any fun z=>z.eqv (pDt p))=decide (p∈ts):=by
  rw[Zi,List.any_map,List.any_eq_true];simp only[Function.comp,C1,decide_eq_true_eq];exact⟨fun⟨x,h1,h2⟩=>h2▸h1,fun h=>⟨p,h,rfl⟩⟩
 have:=Dx (x:=pP p) (y:=.ref l) (S:=S) (b:=(ts.map pDt).any fun z=>z.eqv (pDt p)) false ⟨pDt p,ts.map pDt,.tup (.cons (.int _) (.cons (.int _) .nil)),.inl (.lst h (AL ts)),⟨AK p,by simp[pDt,PyData.depth,PyData.depthAll]⟩,vy ts,rfl⟩;rw[e]at this;exact this
theorem xo{xs:List Int}{k:Nat}(h:k<xs.length):atI (xs.map U.int) (k:Int)=some (.int (xs.getD k 0)):=by
 refine eC ?_;rw[Qb,Q4 h,Q9,Q4 h];rfl
theorem GU{xs:List Int}(h:xs≠[]):atI (xs.map U.int) (-1)=some (.int (xs.getD (xs.length-1) 0)):=by
 have hl:0<xs.length:=List.length_pos_iff.mpr h;unfold atI ixN;rw[if_neg (by omega),if_pos (by rw[QX];omega),QQ,QX,show((-1:Int)+(xs.length:Int)).toNat=xs.length-1 by omega];rw[Qb,Q4 (by omega),Q9,Q4 (by omega)];rfl
theorem xp{xs:List Int}{k:Nat}(h:k<xs.length):atI (xs.map U.int) ((k:Int)-1)=some (.int (xs.getD (if k=0 then xs.length-1 else k-1) 0)):=by
 by_cases h0:k=0
 ·subst h0;rw[if_pos rfl];exact GU (fun e=>by rw[e]at h;simp at h)
 ·rw[if_neg h0,show(k:Int)-1=((k-1:Nat):Int)by omega];exact xo (by omega)
theorem DI{xs:List Int}(nd:xs.Nodup):DK xs=xs.length:=by
 have:∀i,i<=xs.length->(firstMet (fun i=>xs.getD i 0) i).length=i:=by
  intro i;induction i with
  |zero=>intro _;rfl
  |succ i ih=>
   intro hi;rw[firstMet_succ];unfold step_dedup;have:(firstMet (fun i=>xs.getD i 0) i).any (· == xs.getD i 0)=false:=by
    rw[firstMet_any,List.any_map,List.any_eq_false];intro j hj e;have hj':=Qy.mp hj;have e':xs.getD j 0=xs.getD i 0:=by simpa using e
    rw[Q9,Q4 (by omega),Q9,Q4 (by omega)]at e';have:=(Zc.mp nd);exact(Ql.mp this) j i (by omega) (by omega) hj' e'
   try dsimp only
   rw[this,if_neg (by decide),QZ,ih (by omega)];rfl
 exact this _ (QJ _)
theorem qD{xs:List Int}{m:Nat}(nd:xs.Nodup)(mem:∀a,a∈xs↔a∈rgI m):pE xs=rgI m:=by
 refine(lV ((Xz (uV m) nd).mpr fun a=>(mem a).symm) ?_).symm;unfold rgI;exact List.Pairwise.map _ (fun a b h=>by omega) (List.pairwise_lt_range.imp fun h=>Zf h)
def qh(fw:Fn):Fn:=fnU 4 2 (cR fw m9)
variable{xs:List Int}
section
variable{fw:Fn}
theorem yr(hw:∀(a:Int) (S:Sto),fw [.int a] S=some (.bl true,S))(T:dC many tms wr lk)(m0:0<=many)(hm:many<=30)(hj:S[j]?=some (.lst (xs.map U.int)))(hl:xs.length<=30){word:Str}
  (h:(word="order"/\DV (bfL (bt (gB tms wr lk)) many.toNat) many.toNat xs)\/(word="ring"/\mY (bfL (bt (gB tms wr lk)) many.toNat) xs/\∀a∈xs,a∈rgI many.toNat)) :
  Wp (qh fw [bZ many (.tup (tms.map pP)) wr lk,.tup [.str word,.ref j]] S) fun r=>r.1=.bl true/\∃G,r.2=S++G:=by
 have nd:xs.Nodup:=by
  rcases h with h|h
  ·exact h.2.nd
  ·exact h.2.1.nd
 have hinM:∀p∈bt (gB tms wr lk),p.1∈rgI many.toNat/\p.2∈rgI many.toNat:=fun p hp=>by
  have:=T.all_in p (bE.mp hp);exact⟨bC.mpr (by omega),bC.mpr (by omega)⟩
 have hml:(bt (gB tms wr lk)).length<=1000:=Qu gO (T.all_len hm);have bm:∀{a c:Int},a∈rgI many.toNat->(c∈(bfL (bt (gB tms wr lk)) many.toNat).getD a.toNat []↔(c,a)∈bt (gB tms wr lk)):=fun{a c} ha=>mV (bC.mp ha).1 (bC.mp ha).2;have lm:=fun Y=>vT (S:=Y) T hm;have hix:∀Y,fIx (bZ many (.tup (tms.map pP)) wr lk) (.int 0) Y=some (.int many,Y):=fun Y=>rfl;generalize bt (gB tms wr lk)=M at *;generalize bZ many (.tup (tms.map pP)) wr lk=tu at *;obtain⟨xu,hxu⟩:∃xu,xu=xs.map U.int:=⟨_,rfl⟩;have hj0:=hj;rw[<-hxu]at hj;have lx:xu.length=xs.length:=by rw[hxu,QX]
 have t0:∀us Y,tyU (.tup us) Y=some .tuple:=fun _ _=>rfl;have t1:yk .tuple .tuple=true:=rfl;have t2:tyU (.ref j) S=some .list:=by simp only[tyU,hj]
 have t3:yk .list .list=true:=rfl;unfold qh;rw[oB];unfold cR;have d2:decide (((0+1+1:Nat):Int)=2)=true:=by decide
 rwa[t0,t1,t2,t3,d2,ay];repeat with_reducible refine Wp.bind ?_
 refine sF (S1:=S) (cs:=[]) (xs:=xs) (f:=U.int) (v:=fun _=>.bl true) (oa (l:=j) rfl hj0) (fun G=>ax hj0) (by omega) rfl (fun a ha G=>?_) fun G1=>?_
 ·rwa[hw,ay];exact⟨trivial,[],by simp⟩
 obtain⟨Y,hY⟩:∃Y,Y=S++(.lst (xs.map fun _=>U.bl true)::G1):=⟨_,rfl⟩;rw[<-hY];have g1:Y[S.length]?=some (.lst ((xs.map fun _=>true).map U.bl)):=by rw[hY,ga0,Qe];rfl
 have hjY0:Y[j]?=some (.lst (xs.map U.int)):=by rw[hY];exact ax hj0
 have hjY:Y[j]?=some (.lst xu):=by rw[hY];exact ax hj
 have fa:wF [.ref S.length] Y=some (.bl true,Y):=by
  have ea:((xs.map fun _=>true).all id)=true:=by simp
  simp only[wF,g1,iJ,QQ,ea]
 have hset:∀ρ:Rho,au 2 ρ Y=some (.ref j,Y)->mQ (au 2) ρ Y=some (.int (xs.length:Nat),Y):=fun ρ hv=>by
  unfold mQ;rw[hv,QQ];simp only[hjY0,dW,QQ];rw[if_pos (by omega),DI nd]
 have hset':=hset [some tu,some (.tup [.str word,.ref j]),some (.ref j),none] rfl;have dd:decide ((xs.length:Int)=(xs.length:Int))=true:=decide_eq_true rfl;obtain⟨G2,jm,e2,gm,_⟩:=lm Y;obtain⟨Z,hZ⟩:∃Z,Z=Y++G2:=⟨_,rfl⟩;rw[<-hZ]at e2 gm;have hjZ0:Z[j]?=some (.lst (xs.map U.int)):=by rw[hZ];exact ax hjY0
 have hjZ:Z[j]?=some (.lst xu):=by rw[hZ];exact ax hjY
 have eZ:∀X:Sto,∃G,Z++X=S++G:=fun X=>⟨_,by rw[hZ,hY,Q8,Q8]⟩;rwa[fa,hset',hjY,lx,dd,e2,ay];rcases h with⟨rfl,ob⟩|⟨rfl,rb,rin⟩
 ·have d1:decide ((("order":Str))="ring")=false:=by decide
  have d3:decide ((("order":Str))="order")=true:=by decide
  have hs:fj [.ref j] Z=some (.ref Z.length,Z++[.lst ((rgI many.toNat).map U.int)]):=by
   simp only[fj,hjZ0,dW,QQ];rw[if_pos (by omega),qD nd ob.mem]
  have hr:∀Y,bS (ag (cOp fIx (au 0) (cC (.int 0))) aB) [some tu,some (.tup [.str "order",.ref j]),some (.ref j),some (.ref jm)] Y=some (.ref Y.length,Y++[.lst ((rgI many.toNat).map U.int)]):=fun Y=>by
   have ha:ag (cOp fIx (au 0) (cC (.int 0))) aB [some tu,some (.tup [.str "order",.ref j]),some (.ref j),some (.ref jm)] Y=some ([.int many],Y):=by rwa[hix]
   unfold bS;rw[ha,QQ];have m1:many<=1000:=by omega
   simp only[m0,m1,and_self,if_true,kO,rgI,Qe];rfl
  obtain⟨Z1,hZ1⟩:∃Z1,Z1=Z++[O.lst ((rgI many.toNat).map U.int)]:=⟨_,rfl⟩;obtain⟨Z2,hZ2⟩:∃Z2,Z2=Z1++[O.lst ((rgI many.toNat).map U.int)]:=⟨_,rfl⟩;have hr':=hr Z1;rw[<-hZ1]at hs;rw[<-hZ2]at hr';have he:lC true (.ref Z.length) (.ref Z1.length) Z2=some (.bl false,Z2):=by
   have:=rJ true (S:=Z2) (l:=Z.length) (l':=Z1.length) (ns:=rgI many.toNat) (ms:=rgI many.toNat) (by rw[hZ2];exact ax (by rw[hZ1,ga0];rfl)) (by rw[hZ2,ga0];rfl);rw[this];simp
  rwa[d1,d3,hs,hr',he,ay];have gm2:Z2[jm]?=some (.lst (M.map pP)):=by rw[hZ2];exact ax (by rw[hZ1];exact ax gm)
  have hj2:Z2[j]?=some (.lst (xs.map U.int)):=by rw[hZ2];exact ax (by rw[hZ1];exact ax hjZ0)
  repeat with_reducible refine Wp.bind ?_
  refine EN (S1:=Z2) (cs:=[some (.ref j)]) (xs:=M) (f:=pP) (g:=fun p=>.int p.1) (v:=fun p=>.int p.2) (w:=fun p=>.bl true) (fun _=>rfl) (oa (l:=jm) rfl gm2) (fun G=>ax gm2) (by omega) rfl (fun p hp G=>?_) fun G3=>?_
  ·have h1:=(hinM p hp);have gx:(Z2++G)[j]?=some (.lst xu):=by rw[hxu];exact ax hj2
   have i1:=cY (S:=Z2++G) (ax hj2) ((ob.mem _).mpr h1.1) (by omega);have i2:=cY (S:=Z2++G) (ax hj2) ((ob.mem _).mpr h1.2) (by omega);have lt:=ob.lt p.2 ((ob.mem _).mpr h1.2) p.1 ((bm h1.2).mpr hp);have dl:decide (((xs.idxOf p.1:Nat):Int)<((xs.idxOf p.2:Nat):Int))=true:=decide_eq_true (by omega);rwa[gx,i1,i2,dl,ay];exact⟨trivial,[],by simp⟩
  ·have fa2:wF [.ref Z2.length] (Z2++(.lst (M.map fun _=>U.bl true)::G3))=some (.bl true,Z2++(.lst (M.map fun _=>U.bl true)::G3)):=by
    have em:(M.map fun _=>U.bl true)=(M.map fun _=>true).map U.bl:=by rw[Qe];rfl
    have ea:((M.map fun _=>true).all id)=true:=by simp
    simp only[wF,ga0,ZH,em,iJ,QQ,ea]
   rwa[fa2,ay];refine⟨trivial,?_⟩;rw[hZ2,hZ1,Q8,Q8];exact eZ _
 ·have d1:decide ((("ring":Str))="ring")=true:=by decide
  have d2:decide ((xs.length:Int)>1)=true:=decide_eq_true (by have:=rb.two;omega);rwa[d1,d2,hjZ,lx,ay];repeat with_reducible refine Wp.bind ?_
  refine sF (S1:=Z) (cs:=[some (.ref jm),some (.ref j)]) (xs:=Qz xs.length) (f:=fun k:Nat=>U.int (k:Int)) (v:=fun _=>.bl true) ((iW (n:=(xs.length:Int)) (S1:=Z) (by rwa[hjZ,lx]) (by omega) (by omega)).trans (by rw[kO,Zx])) (fun G=>trivial) (by simp;omega) rfl (fun k hk G=>?_) fun G3=>?_
  ·have hk':=Qy.mp hk;have i1:=Gx (S:=Z++G) (p:=(xs.getD (if k=0 then xs.length-1 else k-1) 0,xs.getD k 0)) (ax gm);have hin:(xs.getD (if k=0 then xs.length-1 else k-1) 0,xs.getD k 0)∈M:=(bm (rin _ (k8 hk'))).mp (rb.cyc k hk');rw[decide_eq_true hin]at i1;have gx:(Z++G)[j]?=some (.lst xu):=ax hjZ;have a1:=xp hk';have a2:=xo hk';rw[<-hxu]at a1 a2;have ep:pP (xs.getD (if k=0 then xs.length-1 else k-1) 0,xs.getD k 0)=.tup [.int (xs.getD (if k=0 then xs.length-1 else k-1) 0),.int (xs.getD k 0)]:=rfl;rw[ep]at i1;rwa[gx,a1,a2,i1,ay];exact⟨trivial,[],by simp⟩
  ·have fa2:wF [.ref Z.length] (Z++(.lst ((Qz xs.length).map fun _=>U.bl true)::G3))=some (.bl true,Z++(.lst ((Qz xs.length).map fun _=>U.bl true)::G3)):=by
    have em:((Qz xs.length).map fun _=>U.bl true)=((Qz xs.length).map fun _=>true).map U.bl:=by rw[Qe];rfl
    have ea:(((Qz xs.length).map fun _=>true).all id)=true:=by simp
    simp only[wF,ga0,ZH,em,iJ,QQ,ea]
   rwa[fa2,ay];exact⟨trivial,eZ _⟩
end
theorem Jj(us:List U)(k:Nat):o7 us none (some (k:Int))=us.take k:=by
 unfold o7;rw[HT.sIx_nat,HT.sIx_none,XZ,Nat.sub_zero];by_cases h:k<=us.length
 ·rw[Nat.min_eq_left h]
 ·rw[Nat.min_eq_right (by omega),ZI (by omega),ZI (by omega)]
def cyP(xs:List Int):List (Int×Int):=(Qz xs.length).map fun k=>(xs.getD (if k=0 then xs.length-1 else k-1) 0,xs.getD k 0)
theorem GB{xs:List Int}(nd:xs.Nodup){i j:Nat}(hi:i<xs.length)(hj:j<xs.length)(h:xs.getD i 0=xs.getD j 0):i=j:=by
 rw[Q9,Q4 hi,Q9,Q4 hj]at h;have pw:=Ql.mp (Zc.mp nd);have h':xs[i]=xs[j]:=h;rcases Nat.lt_trichotomy i j with c|c|c
 ·exact absurd h' (pw i j hi hj c)
 ·exact c
 ·exact absurd h'.symm (pw j i hj hi c)
def mZ:Fn:=fnU 8 2 (cw dz fv)
theorem uU(wl:∃z,Y[lw]?=some (.lst [.int z]))(T:dC many tms wr lk)(ht:tms.length<=30)(m0:0<=many)(hm:many<=30) :
  Wp (mZ [.ref lw,bZ many (.tup (tms.map pP)) wr lk] Y) fun r=>∃tms',r.1=bZ many (.tup (tms'.map pP)) wr lk/\dC many tms' wr lk:=by
 obtain⟨os,Y1,l,e1,g1,ll,w1,los,nd,mem⟩:=rm wl m0 (by omega);obtain⟨d,Y2,e2,w2,l2,d0,d1⟩:=cM (T:=Y1) (lw:=lw) (m:=4) w1.well (by omega) (by omega);have hlw:lw<Y.length:=by obtain⟨z,h⟩:=wl;exact(Q7.mp h).1
 have g2:Y2[l]?=some (.lst (os.map U.int)):=w2.get g1 (by omega);obtain⟨xs,hxs⟩:∃xs,xs=os.take (2+d).toNat:=⟨_,rfl⟩;have ndx:xs.Nodup:=by rw[hxs];exact nd.sublist (ZS ..)
 have mx:∀a∈xs,0<=a/\a<many:=fun a ha=>(mem a).mp (by rw[hxs]at ha;exact X3 ha);have lx:xs.length<=5:=by rw[hxs,Qp];omega
 have sl:fSl (.ref l) none (some (2+d)) Y2=some (.ref Y2.length,Y2++[.lst (xs.map U.int)]):=by
  have e:o7 (os.map U.int) none (some (2+d))=xs.map U.int:=by
   rw[show(2+d:Int)=(((2+d).toNat:Nat):Int)by omega,Jj,hxs,List.map_take]
  simp only[fSl,g2,e]
 obtain⟨tu,htu⟩:∃tu,tu=tms.map pP:=⟨_,rfl⟩;obtain⟨wu,hwu⟩:∃wu,wu=wr.map rwU:=⟨_,rfl⟩;obtain⟨lu,hlu⟩:∃lu,lu=lk.map rwU:=⟨_,rfl⟩;obtain⟨xu,hxu⟩:∃xu,xu=xs.map U.int:=⟨_,rfl⟩;obtain⟨Y3,hY3⟩:∃Y3,Y3=Y2++[O.lst xu]:=⟨_,rfl⟩;rw[<-hxu,<-hY3]at sl;have g3:Y3[Y2.length]?=some (.lst xu):=by rw[hY3,ga0];rfl
 have lxu:xu.length=xs.length:=by rw[hxu,QX]
 unfold mZ;rw[mM];unfold cw bZ;rw[<-htu,<-hwu,<-hlu];rwa[cSl,iH,e1,e2,sl,g3,lxu,ay];by_cases hb:(xs.length:Int)<2
 ·have db:decide ((xs.length:Int)<2)=true:=decide_eq_true hb;rwa[db,ay];exact⟨tms,by rw[htu],T⟩
 have db:decide ((xs.length:Int)<2)=false:=decide_eq_false hb;rwa[db,ay];repeat with_reducible refine Wp.bind ?_
 refine sF (S1:=Y3) (cs:=[some (.ref Y2.length)]) (xs:=Qz xs.length) (f:=fun k:Nat=>U.int (k:Int)) (v:=fun k=>pP (xs.getD (if k=0 then xs.length-1 else k-1) 0,xs.getD k 0)) ((iW (n:=(xs.length:Int)) (S1:=Y3) (by rwa[g3,lxu]) (by omega) (by omega)).trans (by rw[kO,Zx])) (fun G=>trivial) (by simp;omega) rfl (fun k hk G=>?_) fun G3=>?_
 ·have hk':=Qy.mp hk;have gx:(Y3++G)[Y2.length]?=some (.lst xu):=ax g3;have a1:=xp hk';have a2:=xo hk';rw[<-hxu]at a1 a2;rwa[gx,a1,a2,ay];exact⟨rfl,[],by simp⟩
 have ec:((Qz xs.length).map fun k=>pP (xs.getD (if k=0 then xs.length-1 else k-1) 0,xs.getD k 0))=(cyP xs).map pP:=by unfold cyP;rw[Qe];rfl
 rw[ec];obtain⟨Y4,hY4⟩:∃Y4,Y4=Y3++(.lst ((cyP xs).map pP)::G3):=⟨_,rfl⟩;rw[<-hY4];have g4:Y4[Y3.length]?=some (.lst ((cyP xs).map pP)):=by rw[hY4,ga0];rfl
 have lcy:(cyP xs).length=xs.length:=by unfold cyP;simp
 have cat:dS (.ref Y4.length) (.ref Y3.length) (Y4++[.lst tu])=some (.ref (Y4.length+1),Y4++[.lst tu,.lst ((tms++cyP xs).map pP)]):=by
  have ec:dS (.ref Y4.length) (.ref Y3.length) (Y4++[.lst tu])=iZ (.ref Y4.length) (.ref Y3.length) (Y4++[.lst tu]):=by simp only[dS]
  have h1:(Y4++[O.lst tu])[Y4.length]?=some (.lst tu):=by rw[ga0];rfl
  have h2:(Y4++[O.lst tu])[Y3.length]?=some (.lst ((cyP xs).map pP)):=ax g4;rw[ec];simp only[iZ,h1,h2];rw[if_pos (by unfold LIM;rw[htu];simp;omega),Qt,<-htu];simp
 have srt:∀(ρ:Rho),cOp dS (cCB jj (ag (au 3) aB)) (au 7) ρ Y4=some (.ref (Y4.length+1),Y4++[.lst tu,.lst ((tms++cyP xs).map pP)])->dF (cOp dS (cCB jj (ag (au 3) aB)) (au 7)) ρ Y4=some (.ref (Y4.length+2),Y4++[.lst tu,.lst ((tms++cyP xs).map pP),.lst ((bt (tms++cyP xs)).map pP)]):=fun ρ h=>by
  unfold dF;rw[h,QQ];simp only[ga,Qd,ZH,fJ,QQ];rw[if_pos (by simp;omega)];simp
 have srt':=srt [some (.ref lw),some (.tup [.int many,.tup tu,.tup wu,.tup lu]),some (.int many),some (.tup tu),some (.tup wu),some (.tup lu),some (.ref Y2.length),some (.ref Y3.length)] (by rwa[cat]);obtain⟨su,hsu⟩:∃su,su=(bt (tms++cyP xs)).map pP:=⟨_,rfl⟩;rw[<-hsu]at srt';rwa[srt',ay];refine⟨bt (tms++cyP xs),by rw[<-hsu],⟨fun p hp=>?_,?_,T.hwr,T.hwl,T.hlk,T.hll⟩⟩
 ·rcases QN.mp (bE.mp hp)with h|h
  ·exact T.htm p h
  ·obtain⟨k,hk,rfl⟩:=Qc.mp h;have hk':=Qy.mp hk;have hk2:(if k=0 then xs.length-1 else k-1)<xs.length:=by split<;>omega
   refine⟨mx _ (k8 hk2),mx _ (k8 hk'),fun e=>?_⟩;have:=GB ndx hk2 hk' e;split at this<;>omega
 ·have:=gO (ps:=tms++cyP xs);rw[QZ,lcy]at this;omega
def chP:List (Int×Int):=(Qz 29).map fun k:Nat=>((k:Int),(k:Int)+1)
theorem iT{p:Int×Int}:p∈chP↔0<=p.1/\p.1<29/\p.2=p.1+1:=by
 unfold chP;constructor
 ·intro h;obtain⟨k,hk,rfl⟩:=Qc.mp h;have:=Qy.mp hk;dsimp only;omega
 ·rintro⟨h0,h1,h2⟩;exact Qc.mpr ⟨p.1.toNat,Qy.mpr (by omega),Prod.ext (by dsimp only;omega) (by dsimp only;omega)⟩
theorem GQ:chP.Nodup:=List.Pairwise.map _ (fun a b h e=>h (by have:=congrArg Prod.fst e;dsimp only at this;omega)) Zh
theorem C8(tms:List (Int×Int)):gB tms [[]] []=tms:=by unfold gB dU;simp
theorem B5{many:Int}{tms:List (Int×Int)}(h:∀p∈tms,(0<=p.1/\p.1<many)/\(0<=p.2/\p.2<many)/\p.1≠p.2)(hl:tms.length<=60):dC many tms [[]] []:=⟨h,hl,fun r hr=>by
  rw[Qg.mp hr];exact⟨fun x hx=>(by cases hx),by simp⟩,⟨by simp,by simp⟩,fun r hr=>(by cases hr),by simp⟩
section
variable{M:List (Int×Int)}{m:Nat}
theorem DV.pair(h:DV (bfL M m) m xs){p:Int×Int}(hp:p∈M)(h2:p.2∈rgI m):xs.idxOf p.1<xs.idxOf p.2:=h.lt p.2 ((h.mem _).mpr h2) p.1 ((mV (bC.mp h2).1 (bC.mp h2).2).mpr hp)
theorem mY.pair(h:mY (bfL M m) xs)(hin:∀a∈xs,a∈rgI m){k:Nat}(hk:k<xs.length):(xs.getD (if k=0 then xs.length-1 else k-1) 0,xs.getD k 0)∈M:=by
 have:=bC.mp (hin _ (k8 hk));exact(mV this.1 this.2).mp (h.cyc k hk)
theorem AM(h:DV (bfL M m) m xs)(hM:∀c:Int,0<=c->c+1<m->(c,c+1)∈M):xs=rgI m:=by
 have len:xs.length=m:=by
  have:=((Xz h.nd (uV m)).mpr h.mem).length_eq;simpa [rgI] using this
 have up:∀k:Nat,k<m->k<=xs.idxOf (k:Int):=fun k=>by
  induction k with
  |zero=>intro _;exact Qi _
  |succ k ih=>
   intro hk;have:=h.pair (p:=((k:Int),(k:Int)+1)) (hM k (by omega) (by omega)) (bC.mpr (by dsimp only;omega));have:=ih (by omega);dsimp only at *;rw[show((k+1:Nat):Int)=(k:Int)+1 by omega];omega
 have dn:∀d:Nat,d<m->xs.idxOf ((m-1-d:Nat):Int)<=m-1-d:=fun d=>by
  induction d with
  |zero=>
   intro hd;have:=Zq ((h.mem ((m-1-0:Nat):Int)).mpr (bC.mpr (by omega)));omega
  |succ d ih=>
   intro hd;have:=h.pair (p:=(((m-1-(d+1):Nat):Int),((m-1-(d+1):Nat):Int)+1)) (hM _ (by omega) (by omega)) (bC.mpr (by dsimp only;omega));dsimp only at this;rw[show((m-1-(d+1):Nat):Int)+1=((m-1-d:Nat):Int)by omega]at this;have:=ih (by omega);omega
 refine List.ext_getElem (by rw[len];simp[rgI]) fun k hk hk2=>?_;have e:xs.idxOf (k:Int)=k:=by
  have h1:=up k (by omega);have h2:=dn (m-1-k) (by omega);rw[show m-1-(m-1-k)=k by omega]at h2;omega
 have hk3:xs.idxOf (k:Int)<xs.length:=by omega
 have g:=List.getElem_idxOf hk3;have:xs[k]=(k:Int):=by simpa only[e] using g
 rw[this];simp[rgI]
theorem vG(h:mY (bfL M m) xs)(hin:∀a∈xs,a∈rgI m)(hM:∀p∈M,p.2=p.1+1):False:=by
 have two:=h.two;have e:∀k,k<xs.length->xs.getD k 0=xs.getD 0 0+k:=fun k=>by
  induction k with
  |zero=>intro _;simp
  |succ k ih=>
   intro hk;have:=hM _ (h.pair hin hk);rw[if_neg (by omega)]at this;dsimp only at this;rw[this,show k+1-1=k by omega,ih (by omega)];omega
 have h0:=hM _ (h.pair hin (k:=0) (by omega));rw[if_pos rfl]at h0;dsimp only at h0;rw[e (xs.length-1) (by omega)]at h0;omega
theorem F0(h:DV (bfL M 30) 30 xs)(hM:∀c:Int,0<=c->c+1<30->(c,c+1)∈M)(hz:(29,0)∈M):False:=by
 have up:∀k:Nat,k<30->xs.idxOf 0+k<=xs.idxOf (k:Int):=fun k=>by
  induction k with
  |zero=>intro _;exact QJ _
  |succ k ih=>
   intro hk;have:=h.pair (p:=((k:Int),(k:Int)+1)) (hM k (by omega) (by omega)) (bC.mpr (by dsimp only;omega));have:=ih (by omega);dsimp only at *;rw[show((k+1:Nat):Int)=(k:Int)+1 by omega];omega
 have:=h.pair (p:=(29,0)) hz (bC.mpr (by decide));have:=up 29 (by omega);have e:((29:Nat):Int)=29:=rfl;rw[e]at this;dsimp only at *;omega
theorem yq(h:mY (bfL M 30) xs)(hin:∀a∈xs,a∈rgI 30)(hM:∀p∈M,p.2=p.1+1\/(p.1=29/\p.2=0)):∀a,a∈xs↔a∈rgI 30:=by
 have two:=h.two;have pre:∀a∈xs,(if a=0 then 29 else a-1)∈xs:=fun a ha=>by
  obtain⟨k,hk,rfl⟩:=List.getElem_of_mem ha;have gd:xs.getD k 0=xs[k]:=by rw[Q9,Q4 hk];rfl
  have hp:=h.pair hin hk;have hk2:(if k=0 then xs.length-1 else k-1)<xs.length:=by split<;>omega
  have mm:=k8 hk2;have m0:=bC.mp (hin _ mm);have:=hM _ hp;dsimp only at this;rw[gd]at this;generalize xs.getD (if k=0 then xs.length-1 else k-1) 0=b at this mm m0;rcases this with z|⟨z1,z2⟩
  ·rw[if_neg (by omega),show xs[k]-1=b by omega];exact mm
  ·rw[if_pos z2,<-z1];exact mm
 have down:∀(n:Nat) (a:Int),a∈xs->(n:Int)<=a->a-n∈xs:=fun n=>by
  induction n with
  |zero=>intro a ha _;simpa using ha
  |succ n ih=>
   intro a ha hn;have:=pre _ (ih a ha (by omega));rw[if_neg (by omega)]at this;rw[show a-((n+1:Nat):Int)=a-n-1 by omega];exact this
 intro a;refine⟨hin a,fun ha=>?_⟩;have ha':=bC.mp ha;have hb:=k8 (xs:=xs) (i:=0) (by omega);have hb':=bC.mp (hin _ hb);have z0:=down (xs.getD 0 0).toNat _ hb (by omega);rw[show xs.getD 0 0-((xs.getD 0 0).toNat:Int)=0 by omega]at z0;have z29:=pre 0 z0;rw[if_pos rfl]at z29;have:=down (29-a).toNat 29 z29 (by omega);rw[show(29:Int)-((29-a).toNat:Int)=a by omega]at this;exact this
end
end OQ
namespace OL
open PySem PySem.Spec PyProof.Rows L2 OG OP OQ
def m8:Fn:=fnU 1 1 cQ
theorem vK(a:Int)(S:Sto):m8 [.int a] S=some (.bl true,S):=by
 unfold m8;rw[oA];have t0:tyU (.int a) S=some .int:=rfl;have t1:yk .int .int=true:=rfl;have t2:yk .int .bool=false:=rfl;rwa[cQ,t0,t1,t2]
abbrev fL(f:Fn->Fn->Fn->Fn->Fn->Fn->CS):CS:=f xE sj fv mZ DT (qh m8)
theorem kL{S:Sto}{l l':Nat}{ns:List Int}(h:S[l]?=some (.lst (ns.map U.int)))(h':S[l']?=some (.lst (ns.map U.int))):ft 3 S (.tup [.str "order",.ref l]) (.tup [.str "order",.ref l']):=
 ft.tup (.cons (.refl (.str (by decide +kernel))) (.cons (ft.lst (k:=1) h h' (fq.all fun u hu=>by obtain⟨p,_,rfl⟩:=Qc.mp hu;exact Lay.int)) .nil))
section
variable{ns:List Int}{many:Int}{tms:List (Int×Int)}{wr lk:List (List Int)}{r1 r2:Option U}
theorem BZ(T:dC many tms wr lk)(m0:0<=many)(hm:many<=30)(ρ:Rho)(Y:Sto)(h:∃r4 r5,ρ=[some (.kl ns),r1,r2,some (bZ many (.tup (tms.map pP)) wr lk),r4,r5,none,none,none]) :
  Wp (fL mX ρ Y) fun s=>s.1=.nx/\∃r4 r5,s.2.1=[some (.kl ns),r1,r2,some (bZ many (.tup (tms.map pP)) wr lk),r4,r5,none,none,none]:=by
 obtain⟨r4,r5,rfl⟩:=h;obtain⟨⟨u,Y1⟩,e1,⟨G,hG⟩,j,xs,lj,gj,lx,hc⟩:=qZ (S:=Y) T m0 hm;have hw:∃word,u=.tup [.str word,.ref j]/\((word="order"/\DV (bfL (bt (gB tms wr lk)) many.toNat) many.toNat xs)\/(word="ring"/\mY (bfL (bt (gB tms wr lk)) many.toNat) xs/\∀a∈xs,a∈rgI many.toNat)):=by
  rcases hc with⟨h1,h2⟩|⟨h1,h2⟩
  ·exact⟨"order",h1,.inl ⟨rfl,h2⟩⟩
  ·exact⟨"ring",h1,.inr ⟨rfl,h2⟩⟩
 obtain⟨word,rfl,hc'⟩:=hw;obtain⟨⟨v,Y2⟩,e2,rfl,G2,hG2⟩:=yr (S:=Y1) vK T m0 hm gj (by omega) hc';dsimp only at hG2 gj;have g2:Y2[j]?=some (.lst (xs.map U.int)):=by rw[hG2];exact ax gj
 generalize bZ many (.tup (tms.map pP)) wr lk=tu at e1 e2 ⊢;obtain⟨xu,hxu⟩:∃xu,xu=xs.map U.int:=⟨_,rfl⟩;rw[<-hxu]at g2;have cl:lD (.ref j) [] Y2=some (.non,Y2.set j (.lst [])):=by simp only[lD,g2]
 unfold fL mX;rwa[e1,e2,g2,cl,ay];exact⟨trivial,_,_,rfl⟩
theorem sg(T:dC many tms wr lk)(m0:0<=many)(hm:many<=30)(us:List Nat)(ρ:Rho)(Y:Sto)(h:∃r4 r5,ρ=[some (.kl ns),r1,r2,some (bZ many (.tup (tms.map pP)) wr lk),r4,r5,none,none,none]) :
  Wp (cU (fun _=>True) (gNm 4) (fL mX) (us.map fun i:Nat=>U.int (i:Int)) ρ Y) fun s=>s.1=.nx/\∃r4 r5,s.2.1=[some (.kl ns),r1,r2,some (bZ many (.tup (tms.map pP)) wr lk),r4,r5,none,none,none]:=
 nv (fun _ ρ _=>∃r4 r5,ρ=[some (.kl ns),r1,r2,some (bZ many (.tup (tms.map pP)) wr lk),r4,r5,none,none,none]) (fun ρ S h=>⟨trivial,rfl,h⟩) (fun x xs ρ S h=>⟨trivial,by
  obtain⟨r4,r5,rfl⟩:=h;exact .of (r:=([some (.kl ns),r1,r2,some (bZ many (.tup (tms.map pP)) wr lk),some (.int (x:Int)),r5,none,none,none],S)) rfl ((BZ T m0 hm _ S ⟨_,_,rfl⟩).mono fun s hs=>.inl hs)⟩) us ρ Y h
theorem Kl(is:List Nat)(ρ:Rho)(Y:Sto)(h:∃q1 q2 q3 q4 q5,ρ=[some (.kl ns),q1,q2,q3,q4,q5,none,none,none]) :
  Wp (cU (fun _=>True) (gNm 1) (fL qd) (is.map fun i:Nat=>U.int (i:Int)) ρ Y) fun s=>s.1=.nx/\∃q1 q2 q3 q4 q5,s.2.1=[some (.kl ns),q1,q2,q3,q4,q5,none,none,none]:=
 nv (fun _ ρ _=>∃q1 q2 q3 q4 q5,ρ=[some (.kl ns),q1,q2,q3,q4,q5,none,none,none]) (fun ρ S h=>⟨trivial,rfl,h⟩) (fun i xs ρ S h=>⟨trivial,by
  obtain⟨q1,q2,q3,q4,q5,rfl⟩:=h;refine .of (r:=([some (.kl ns),some (.int (i:Int)),q2,q3,q4,q5,none,none,none],S)) rfl ?_;obtain⟨z,e1⟩:=BW (S:=S) ns (k:=(i:Int)) (by omega);obtain⟨many,tms,wr,lk,T3,e3,w3,m,T⟩:=yi (Y:=S++[.lst [.int z]]) (lw:=S.length) (most:=9) ⟨z,by rw[ga0];rfl⟩ (by omega) (by omega);obtain⟨d,T4,e4,w4,l4,d0,d1⟩:=cM (T:=T3) (lw:=S.length) (m:=4) w3.well (by omega) (by omega);unfold fL qd;rwa[e1,e3,e4,ay];have r2':∀ρ (Y:Sto),bj (ag (cC (.int 2)) aB) ρ Y=some ((Qz 2).map fun i:Nat=>U.int (i:Int),fun _=>True,Y):=fun ρ Y=>rfl;by_cases hd:d=0
  ·have dd:decide (d=0)=true:=decide_eq_true hd;obtain⟨⟨u,T5⟩,e5,tms',rfl,T'⟩:=uU w4.well T m.2.2 (by omega) (by omega);rwa[dd,e5,ay];refine ux (r2' _ _) ((sg T' (by omega) (by omega) _ _ _ ⟨_,_,rfl⟩).mono fun s hs=>.inl ⟨hs.1,?_⟩);obtain⟨r4,r5,e⟩:=hs.2;exact⟨_,_,_,_,_,e⟩
  ·have dd:decide (d=0)=false:=decide_eq_false hd;rwa[dd,ay];refine ux (r2' _ _) ((sg T (by omega) (by omega) _ _ _ ⟨_,_,rfl⟩).mono fun s hs=>.inl ⟨hs.1,?_⟩);obtain⟨r4,r5,e⟩:=hs.2;exact⟨_,_,_,_,_,e⟩⟩) is ρ Y h
theorem Gb(ns:List Int)(hl:ns.length<=63):∃ρ' S',(fL zT) [some (.kl ns),none,none,none,none,none,none,none,none] []=some (.rt (.bl true),ρ',S'):=by
 suffices Wp ((fL zT) [some (.kl ns),none,none,none,none,none,none,none,none] []) fun r=>r.1=.rt (.bl true)by
  obtain⟨⟨o,ρ,S⟩,e,rfl⟩:=this;exact⟨ρ,S,e⟩
 obtain⟨n,hn⟩:∃n:Int,n=(if (if (ns.length:Int)<12 then(ns.length:Int)else 12)>3 then(if (ns.length:Int)<12 then(ns.length:Int)else 12)else 3):=⟨_,rfl⟩;have n0:0<=n:=by rw[hn];split<;>(try split)<;>omega
 have n1:n<=1000:=by rw[hn];split<;>(try split)<;>omega
 have a1:ag (cCB Hi (ag (cC (.int 3)) (ag (cCB Hh (ag (cC (.int 12)) (ag (cCB jn (ag (au 0) aB)) aB))) aB))) aB [some (.kl ns),none,none,none,none,none,none,none,none] []=some ([.int n],[]):=by
  have h1:∀i j:Int,Hh [.int i,.int j] []=some (.int (if j<i then j else i),[]):=fun i j=>rfl;have h2:∀i j:Int,Hi [.int i,.int j] []=some (.int (if j>i then j else i),[]):=fun i j=>rfl;rw[hn];rwa[t7,h1,h2]
 obtain⟨⟨o,ρ1,S1⟩,e1,rfl,q1,q2,q3,q4,q5,hρ⟩:=Kl (ns:=ns) (Qz n.toNat) [some (.kl ns),none,none,none,none,none,none,none,none] [] ⟨_,_,_,_,_,rfl⟩;dsimp only at hρ;subst hρ;rw[<-kO]at e1;unfold fL zT;unfold fL at e1;rw[E9 ((Km a1 n0 n1).trans e1)];rwa[ay];repeat with_reducible refine Wp.bind ?_
 refine sF (S1:=S1) (cs:=[]) (xs:=Qz 29) (f:=fun i:Nat=>U.int (i:Int)) (v:=fun k:Nat=>pP ((k:Int),(k:Int)+1)) (ok:=fun _=>True) rfl (fun _=>trivial) (by simp) rfl (fun k hk G=>?_) fun G=>?_
 ·rwa[ay];exact⟨rfl,[],by simp⟩
 have ec:((Qz 29).map fun k:Nat=>pP ((k:Int),(k:Int)+1))=chP.map pP:=by unfold chP;rw[Qe];rfl
 rw[ec];obtain⟨cu,hcu⟩:∃cu,cu=chP.map pP:=⟨_,rfl⟩;rw[<-hcu];obtain⟨Y,hY⟩:∃Y,Y=S1++(.lst cu::G):=⟨_,rfl⟩;rw[<-hY];have gY:Y[S1.length]?=some (.lst cu):=by rw[hY,ga0];rfl
 have T1:dC 30 chP [[]] []:=B5 (fun p hp=>by have:=iT.mp hp;omega) (by unfold chP;simp);have hM1:∀c:Int,0<=c->c+1<30->(c,c+1)∈chP:=fun c h0 h1=>iT.mpr ⟨h0,by dsimp only;omega,rfl⟩;obtain⟨⟨u,Y1⟩,e2,⟨G1,hG1⟩,j,xs,lj,gj,lx,hc⟩:=qZ (S:=Y) T1 (by decide) (by decide);rw[C8]at hc;rw[show(30:Int).toNat=30 from rfl]at hc;have hu:u=.tup [.str "order",.ref j]/\xs=rgI 30:=by
  rcases hc with⟨h1,h2⟩|⟨h1,h2,h3⟩
  ·exact⟨h1,AM h2 fun c h0 h1=>bE.mpr (hM1 c h0 (by omega))⟩
  ·exact(vG h2 h3 fun p hp=>(iT.mp (bE.mp hp)).2.2).elim
 obtain⟨rfl,rfl⟩:=hu;dsimp only at hG1 gj;have u1:bZ 30 (.tup (chP.map pP)) [[]] []=.tup [.int 30,.tup cu,.tup [.tup []],.tup []]:=by rw[hcu];rfl
 rw[u1]at e2;have rg:∀ρ (Y:Sto),bS (ag (cC (.int 30)) aB) ρ Y=some (.ref Y.length,Y++[.lst ((rgI 30).map U.int)]):=fun ρ Y=>rfl;have c1:lC true (.tup [.str "order",.ref j]) (.tup [.str "order",.ref Y1.length]) (Y1++[.lst ((rgI 30).map U.int)])=some (.bl false,Y1++[.lst ((rgI 30).map U.int)]):=ft.ne (kL (ax gj) (by rw[ga0];rfl)) (by omega);obtain⟨ru,hru⟩:∃ru,ru=(rgI 30).map U.int:=⟨_,rfl⟩;rw[<-hru]at c1;obtain⟨Y2,hY2⟩:∃Y2,Y2=Y1++[O.lst ru]:=⟨_,rfl⟩;rw[<-hY2]at c1;have hps:(chP++[(29,0)]).Nodup:=XS.mpr ⟨GQ,by simp,fun x hx y hy e=>by
  rw[Qg.mp hy]at e;subst e;have:=iT.mp hx;simp at this⟩
 have cat:dS (.tup cu) (.tup [.tup [.int 29,.int 0]]) Y2=some (.tup ((chP++[(29,0)]).map pP),Y2):=by
  rw[hcu,Qt];rfl
 have srt:fh [.tup ((chP++[(29,0)]).map pP)] Y2=some (.ref Y2.length,Y2++[.lst ((bt (chP++[(29,0)])).map pP)]):=by
  simp only[fh,fJ,QQ];rw[if_pos ⟨hps,by unfold chP;simp⟩]
 have mm:∀p,p∈bt (chP++[(29,0)])↔p∈chP\/p=(29,0):=fun p=>by rw[bE,QN,Qg]
 have T2:dC 30 (bt (chP++[(29,0)])) [[]] []:=B5 (fun p hp=>by
  rcases(mm p).mp hp with h|rfl
  ·have:=iT.mp h;omega
  ·simp) (Qu gO (by unfold chP;simp))
 obtain⟨su,hsu⟩:∃su,su=(bt (chP++[(29,0)])).map pP:=⟨_,rfl⟩;obtain⟨pu,hpu⟩:∃pu,pu=(chP++[(29,0)]).map pP:=⟨_,rfl⟩;rw[<-hpu]at cat srt;rw[<-hsu]at srt;obtain⟨Y3,hY3⟩:∃Y3,Y3=Y2++[O.lst su]:=⟨_,rfl⟩;rw[<-hY3]at srt;have g3:Y3[Y2.length]?=some (.lst su):=by rw[hY3,ga0];rfl
 obtain⟨⟨u,Y4⟩,e3,⟨G3,hG3⟩,j3,xs,lj3,gj3,lx3,hc⟩:=qZ (S:=Y3) T2 (by decide) (by decide);rw[C8]at hc;rw[show(30:Int).toNat=30 from rfl]at hc;have hu:u=.tup [.str "ring",.ref j3]/\pE xs=rgI 30:=by
  rcases hc with⟨h1,h2⟩|⟨h1,h2,h3⟩
  ·exact(F0 h2 (fun c h0 h1=>bE.mpr ((mm _).mpr (.inl (hM1 c h0 h1)))) (bE.mpr ((mm _).mpr (.inr rfl)))).elim
  ·exact⟨h1,qD h2.nd (yq h2 h3 fun p hp=>by
    rcases(mm p).mp (bE.mp hp)with h|rfl
    ·exact .inl (iT.mp h).2.2
    ·exact .inr ⟨rfl,rfl⟩)⟩
 obtain⟨rfl,hsx⟩:=hu;dsimp only at hG3 gj3;have u2:bZ 30 (.tup ((bt (chP++[(29,0)])).map pP)) [[]] []=.tup [.int 30,.tup su,.tup [.tup []],.tup []]:=by rw[hsu];rfl
 rw[u2]at e3;have s4:fj [.ref j3] Y4=some (.ref Y4.length,Y4++[.lst ru]):=by
  simp only[fj,gj3,dW,QQ];rw[if_pos (by have:(30:Int).toNat=30:=rfl;omega),hsx,hru]
 obtain⟨Y5,hY5⟩:∃Y5,Y5=Y4++[O.lst ru]:=⟨_,rfl⟩;rw[<-hY5]at s4;have g5:Y5[Y4.length]?=some (.lst ru):=by rw[hY5,ga0];rfl
 have c2:lC true (.ref Y4.length) (.ref Y5.length) (Y5++[.lst ru])=some (.bl false,Y5++[.lst ru]):=by
  have h1:=rJ true (S:=Y5++[.lst ru]) (l:=Y4.length) (l':=Y5.length) (ns:=rgI 30) (ms:=rgI 30) (by rw[<-hru];exact ax g5) (by rw[<-hru,ga0];rfl);rw[h1];simp
 obtain⟨Y6,hY6⟩:∃Y6,Y6=Y5++[O.lst ru]:=⟨_,rfl⟩;rw[<-hY6]at c2;have T3:dC 1 [] [[]] []:=B5 (fun p hp=>(by cases hp)) (by simp);obtain⟨⟨u,Y7⟩,e4,⟨G4,hG4⟩,j4,xs,lj4,gj4,lx4,hc⟩:=qZ (S:=Y6) T3 (by decide) (by decide);rw[C8]at hc;rw[show(1:Int).toNat=1 from rfl]at hc;have hu:u=.tup [.str "order",.ref j4]/\xs=[0]:=by
  rcases hc with⟨h1,h2⟩|⟨h1,h2,h3⟩
  ·exact⟨h1,AM h2 fun c h0 h1=>by omega⟩
  ·exact(vG h2 h3 fun p hp=>(nomatch bE.mp hp)).elim
 obtain⟨rfl,rfl⟩:=hu;dsimp only at hG4 gj4;have u3:bZ 1 (.tup (([]:List (Int×Int)).map pP)) [[]] []=.tup [.int 1,.tup [],.tup [.tup []],.tup []]:=rfl;rw[u3]at e4;have c3:lC false (.tup [.str "order",.ref j4]) (.tup [.str "order",.ref Y7.length]) (Y7++[.lst [.int 0]])=some (.bl true,Y7++[.lst [.int 0]]):=ft.eq (kL (ns:=[0]) (ax gj4) (by rw[ga0];rfl)) (by omega);have rg':=fun ρ=>rg ρ Y1;have rg5:=fun ρ=>rg ρ Y5;rw[<-hru,<-hY2]at rg';rw[<-hru,<-hY6]at rg5;have d1:decide (("ring":Str)="ring")=true:=by decide
 rwa[gY,e2,rg',c1,cat,srt,g3,e3,d1,s4,rg5,c2,e4,c3,ay]
end
theorem GW{l:PySem.W.OpenLaw}{w:World}{K:Q5}{h:Heap}{mg:Str->Option Value}{fa:Addr}(X:K.In h)(G:h.Ns mainGlobals mg)(hfa:mg "law"=some (.ref fa))
  (ds:G5 K [("musts_of_look",dg),("musts",pG),("those_before",dH),("ring_among",eV),("order_or_ring",c8),("_law_well",fY),("_law_sip",iP),("_law_whole",eW),("_law_mixed",fc),("_law_tale",fZ),("_law_musts",eY),("_law_right",eX),("_law_ringed",d9),("law",Ce)])
  (zs:DW K bltR) :
  ∃fd:FuncData,(∀(s:Shared) (v:Value),BindsTo s fd ⟨[v],[]⟩ [("script",v)])/\∀base:Heap,K.In base->base.Ns mainGlobals mg->o8 l.prog w K mg base CX0 5 fa fd ["script"] (qC K):=by
 obtain⟨d_musts_of_look,d_musts,d_those_before,d_ring_among,d_order_or_ring,d__law_well,d__law_sip,d__law_whole,d__law_mixed,d__law_tale,d__law_musts,d__law_right,d__law_ringed,d_law,-⟩:=ds;have B:=zs.bltR X G;refine Gd d_law X G hfa fun fd F_law base=>?_;have dA:=jW (P:=l.prog) (w:=w) (base:=base) (k:=0) (d_musts_of_look.df X G) B;have qj:=Dm (P:=l.prog) (w:=w) (base:=base) (k:=1) (d_musts.df X G) B dA;have dR:=kB (P:=l.prog) (w:=w) (base:=base) (k:=2) (d_those_before.df X G) B qj;have fA:=og (P:=l.prog) (w:=w) (base:=base) (k:=0) (fuel:=100) (d_ring_among.df X G) B;have bq:=jV (P:=l.prog) (w:=w) (base:=base) (k:=3) (fuel:=100) (d_order_or_ring.df X G) B dR (Has.mono fA (by decide));have gH:=pO (P:=l.prog) (w:=w) (base:=base) (k:=0) (d__law_well.df X G) B;have aE:=tD (P:=l.prog) (w:=w) (base:=base) (k:=0) (d__law_sip.df X G) B;have fB:=oh (P:=l.prog) (w:=w) (base:=base) (k:=0) (d__law_whole.df X G) B;have cf:=ox (P:=l.prog) (w:=w) (base:=base) (k:=1) (fuel:=100) (d__law_mixed.df X G) B aE;have gI:=pQ (P:=l.prog) (w:=w) (base:=base) (k:=2) (d__law_tale.df X G) B (Has.mono aE (by decide)) cf;have fD:=om (P:=l.prog) (w:=w) (base:=base) (k:=0) (d__law_musts.df X G) B;have fC:=oj (P:=l.prog) (w:=w) (base:=base) (k:=1) (d__law_right.df X G) B fB fD;have eD:=mI (P:=l.prog) (w:=w) (base:=base) (k:=2) (d__law_ringed.df X G) B cf (Has.mono aE (by decide));exact Jd (P:=l.prog) (w:=w) (base:=base) (k:=4) F_law B (Has.mono gH (by decide)) (Has.mono gI (by decide)) (Has.mono aE (by decide)) (Has.mono eD (by decide)) bq (Has.mono fC (by decide)) fun ns hl=>Gb ns hl
theorem J5{l:PySem.W.OpenLaw}{q:Program}{loose:List Str}{XP:(Str->Option Value)->Heap->Prop}{YP:World->Heap->Prop}{d:DefRec}{K:Params->Q5}(hn:l.most=some 63)(hdf:d.params.defaults=[])
  (hY:∀(w:World) (h:Heap),YP w h->(K w.params).In h)
  (F:∀(w:World) (mg:Str->Option Value) (fa:Addr) (h:Heap),(K w.params).In h->h.Ns mainGlobals mg->mg d.name=some (.ref fa)->
   ∃fd:FuncData,(∀(s:Shared) (u:Value),BindsTo s fd ⟨[u],[]⟩ [("script",u)])/\∀base:Heap,(K w.params).In base->base.Ns mainGlobals mg->o8 l.prog w (K w.params) mg base CX0 5 fa fd ["script"] (qC (K w.params))) :
  PySem.W.WalkO q loose XP YP l.row.toRowW d [] (fun f vs=>PySem.call f vs):=
 L2.BX (n:=63) (k:=5) (x:="script") (CX:=fun _=>CX0) (sp:=fun w=>qC (K w.params)) hn (by decide) hdf ⟨rfl,by decide,by decide,rfl⟩ hY F (fun _ _ a ns hl hO hS=>⟨a,ns,rfl,IT hO hS,hl,fun _=>rfl⟩) fun _ _ _ _ _ z=>z
end OL
namespace PySem.W.Fast
def tw18372026869015388415:=0
def tw13671266922167528445:=0
def tw17609830407512132459:=0
def tw10459230227076707381:=0
def tw17070854771077665456:=0
def tw5429149532845309780:=0
def tw11705244053988629482:=0
def tw3501971954697307932:=0
def tw15448069234033085743:=0
def tw5347326585621378972:=0
def tw5021206625648012315:=0
def tw14414399687732163236:=0
def tw6072532785174105029:=0
def tw12333610717117426748:=0
def tw1654718039744836017:=0
def tw1869097168330511082:=0
def tw4021077663132421894:=0
def tw14478108892996318510:=0
def tw17290455638654384869:=0
def tw17782380923624100219:=0
def tw15486875849287570696:=0
def tw5226197987625554957:=0
def tw2590755024635588192:=0
def tw16817194081570737577:=0
def tw15509418926064029483:=0
def tw5512358860496783646:=0
def tw8494723761340252943:=0
def tw561778084950269676:=0
def tw4254137985461488593:=0
def tw10578600245138547680:=0
def tw14480529929425640315:=0
def tw818586951175343838:=0
def tw10736504215675916325:=0
def tw6211231580476846597:=0
def tw2857270814778567732:=0
def tw2463878582144523521:=0
def tw8352148418697185982:=0
def tw11213563854934791787:=0
def tw7713435950264825501:=0
def tw9127660292333698283:=0
def tw5193949131483361039:=0
def tw10997136459420352165:=0
def tw16602592010645332680:=0
def tw7798494314425081292:=0
def tw12651525158904199397:=0
def tw1495362746762511480:=0
def tw5776256439067536811:=0
def tw6611579756763296757:=0
def tw1627183914992794009:=0
def tw14797404175001021461:=0
def tw489570416148401596:=0
def tw10049117441992532064:=0
def tw8183216672811782197:=0
def tw15135712519466883389:=0
def tw5290372468371271923:=0
def tw14399435355986440194:=0
def tw5617532887306307208:=0
def tw5267218113852680500:=0
def tw17141815952079315420:=0
def tw16688491702803507325:=0
end PySem.W.Fast
open PySem PySem.W PyProof.Rows
open OP in
set_option maxRecDepth 100000 in
set_option maxHeartbeats 0 in
theorem PySem.Challenge.cw_oneglance_k28_order_or_ring_holds : PySem.Challenge.rw_oneglance_k28_order_or_ring.Holds := by
 w_on; o_law; k_head; (case hw => w_witness2)
 k_fill
 refine OL.J5 (l := PySem.Challenge.rw_oneglance_k28_order_or_ring) rfl rfl (fun w h Y => PySem.W.kIn_of Y) ?F;case F =>
  intro w mg fa h KX G hmg;refine' OL.GW KX G hmg ?ds ?zs
  (case ds => (repeat (refine' ⟨Kn ?a ?l ?c ?k, ?_⟩; (case a => k_is); (case l => k_is); (case c => k_is); (case k => k_is))); exact trivial)
  (case zs => (repeat (refine' ⟨?a, ?_⟩; (case a => k_is))); exact trivial)
