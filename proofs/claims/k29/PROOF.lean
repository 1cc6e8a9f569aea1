import PyProof.Rows.All
import Wide.All
import OpenK.AllK
import Wide.FinOn
import Lean
import PyProof.EqAt
import PyProof.EqKinds
import PyProof.TupleCall
import PySem.Challenge.RW_oneglance_k29_orders_and_rings_looked_at
set_option maxHeartbeats 4000000
set_option Elab.async false
set_option linter.all false
set_option maxRecDepth 100000
noncomputable section
open Option renaming bind_some→Q0, bind_eq_some_iff→Q3, map_eq_some_iff→Qm, getD_some→Qi
open PySem renaming wpAny_bind→Q2, wpAny_pure→Q8, wpAny_field→Qh, wpAny_mono→Z6
open PySem.Heap renaming get?_push_of_some→Q4, lt_size→QX, get?_push_size→QY, size_push→Z7, get?_update_self→ZU, get?_update_other→Zq, SameBut→Ze
open PySem.W renaming Frag→Q5
open List renaming getElem?_eq_some_iff→Q6, getElem?_eq_getElem→Q7, append_assoc→Q9, length_append→QQ, length_map→QZ, getD_eq_getElem?_getD→QV, mem_cons_self→QK, mem_cons_of_mem→QU, length_cons→QB, size_toArray→QD, mem_cons→QM, getElem?_append_left→QN, append_nil→QL, getElem?_append_right→Qz, map_cons→Qx, range→Qj, getElem?_map→Qv, mem_append_right→Qr, mem_range→Qu, getElem?_set_ne→Qb, getElem?_cons_succ→Qg, map_append→Qe, nil_append→Qd, mem_map→Qa, map_map→Qc, mem_singleton→Qn, getElem?_set→Qp, mem_append→Qt, getElem?_zip_eq_some→Ql, mem_of_getElem?→Qo, length_singleton→Z0, getElem?_cons_zero→Z2, take_of_length_le→Z4, not_mem_nil→Z5, getElem_mem→Z8, getElem?_eq_none→Z9, getElem?_of_mem→ZQ, cons_append→ZZ, nodup_cons→ZV, find?_cons→ZK, pairwise_iff_getElem→ZR, pairwise_cons→ZH, length_drop→ZE, forIn_nil→ZF, pairwise_map→ZC, getElem?_replicate→ZP, ext_getElem?→ZT, mem_filter→ZL, forIn_cons→ZI, length_take→Zx, replicate→Zv, length_replicate→Zy, any_cons→Zw, map_congr_left→Zu, lookup_cons→Zb, map_nil→Zh, length_range→Za, flatMap_cons→Zc, nodup_iff_pairwise_ne→Zn
open Nat renaming le_refl→QJ, ne_of_lt→QC, lt_of_lt_of_le→Qq, le_trans→Qy, zero_le→Qs, lt_succ_of_lt→ZJ, lt_or_ge→ZD, ne_of_gt→ZS, not_lt→Zj, lt_of_le_of_lt→Zg, le_succ→Zm
open Array renaming getElem?_eq_getElem→QR, length_toList→QH, getElem?_toList→Qw, getD_eq_getD_getElem?→ZX, getElem?_eq_none→Zz, getElem?_eq_some_iff→Zk, forIn_toList→Zf, getD→Zp
open Bool renaming false_ne_true→QF, false_eq_true→Qk, eq_iff_iff→ZY, not_true→Zr
open Int renaming toNat_natCast→Z3
namespace L2
open PySem PySem.Spec PyProof.Rows
abbrev Key:=Sum Int Str
def nM:Key->Value->Bool
 |.inl k,v=>Value.isInt k v
 |.inr x,v=>Value.isStrOf x v
def Ja(w:World):Key->Int
 |.inl k=>hashInt k
 |.inr x=>hashStr w x
theorem bg:∀{k:Key} {v:Value},nM k v=true->(∃i t,k=Sum.inl i/\v=Value.int i t)\/(∃x t,k=Sum.inr x/\v=Value.str x t)
 |.inl i,v,h=>by
  obtain⟨t,e⟩:=Value.isInt_shape (k:=i) (v:=v) h
  exact .inl ⟨i,t,rfl,e⟩
 |.inr x,v,h=>by
  obtain⟨t,e⟩:=Value.isStrOf_shape (x:=x) (v:=v) h
  exact .inr ⟨x,t,rfl,e⟩
theorem vw(i:Int)(t:Tok):nM (.inl i) (.int i t)=true:=by simp[nM,Value.isInt]
theorem vv(x:Str)(t:Tok):nM (.inr x) (.str x t)=true:=by simp[nM,Value.isStrOf]
theorem E6(a b:Int):decide ((Sum.inl a:Key)=Sum.inl b)=(a == b):=by
 by_cases e:a=b
 ·subst e;simp
 ·have h:¬(Sum.inl a:Key)=Sum.inl b:=fun q=>e (Sum.inl.inj q)
  rw[decide_eq_false h]
  exact(beq_eq_false_iff_ne.mpr e).symm
theorem E3(a b:Str):decide ((Sum.inr a:Key)=Sum.inr b)=decide (a=b):=by
 by_cases e:a=b
 ·subst e;simp
 ·have h:¬(Sum.inr a:Key)=Sum.inr b:=fun q=>e (Sum.inr.inj q)
  rw[decide_eq_false h,decide_eq_false e]
theorem E5(a:Int)(b:Str):decide ((Sum.inl a:Key)=Sum.inr b)=false:=decide_eq_false (fun q=>nomatch q)
theorem E4(a:Str)(b:Int):decide ((Sum.inr a:Key)=Sum.inl b)=false:=decide_eq_false (fun q=>nomatch q)
def bA(prog:Program)(w:World):PySem.KeyKind prog w Key where
 is:=nM
 hash:=Ja w
 inj:=fun v a b ha hb=>by
  rcases bg ha with⟨i,t,rfl,rfl⟩|⟨x,t,rfl,rfl⟩
  ·rcases bg hb with⟨j,u,rfl,e⟩|⟨y,u,rfl,e⟩
   ·injection e with e1 _;rw[e1]
   ·exact nomatch e
  ·rcases bg hb with⟨j,u,rfl,e⟩|⟨y,u,rfl,e⟩
   ·exact nomatch e
   ·injection e with e1 _;rw[e1]
 byValue:=fun k v h=>by
  rcases bg h with⟨i,t,rfl,rfl⟩|⟨x,t,rfl,rfl⟩<;>rfl
 pyHash:=fun hv h=>by
  rcases bg hv with⟨i,t,rfl,rfl⟩|⟨x,t,rfl,rfl⟩
  ·exact wpAny_pyHash_int h
  ·exact wpAny_pyHash_str h
 eqBool:=fun hu hv h=>by
  rcases bg hu with⟨i,t,rfl,rfl⟩|⟨x,t,rfl,rfl⟩
  ·rcases bg hv with⟨j,u,rfl,rfl⟩|⟨y,u,rfl,rfl⟩
   ·rw[E6]at h;exact wpAny_eqBool_int h
   ·rw[E5]at h;exact SeqAt.EqAt.int_str i t y u _ _ _ _ h
  ·rcases bg hv with⟨j,u,rfl,rfl⟩|⟨y,u,rfl,rfl⟩
   ·rw[E4]at h;exact SeqAt.EqAt.str_int x t j u _ _ _ _ h
   ·rw[E3]at h;exact wpAny_eqBool_str h
 «strs»:=fun k x t v h=>by
  rcases bg h with⟨i,u,rfl,e⟩|⟨y,u,rfl,e⟩
  ·exact nomatch e
  ·injection e with e1 _
   subst e1
   cases v<;>rfl
theorem o2(prog:Program)(w:World)(i:Int)(t:Tok):(bA prog w).is (.inl i) (.int i t)=true:=vw i t
theorem oZ(prog:Program)(w:World)(x:Str)(t:Tok):(bA prog w).is (.inr x) (.str x t)=true:=vv x t
inductive V where
 |non|bl (b:Bool)|int (i:Int)|str (x:Str)|byt (b:Array UInt8)|flt (b:UInt64)|ref (a:Addr)|ty (n:String)
 deriving DecidableEq
def bN:V->Value->Prop
 |.non,u=>u=Value.none
 |.bl b,u=>u=Value.bool b
 |.int i,u=>∃t,u=Value.int i t
 |.str x,u=>∃t,u=Value.str x t
 |.byt b,u=>∃t,u=Value.bytes b t
 |.flt b,u=>∃t,u=Value.float b t
 |.ref a,u=>u=Value.ref a
 |.ty n,u=>u=Value.type n
abbrev a5:List V->List Value->Prop:=Paired bN
theorem a5.length{xs:List V}{us:List Value}(r:a5 xs us):xs.length=us.length:=Paired.length r
theorem a5.get:∀{xs:List V} {us:List Value} {i:Nat} {x:V},a5 xs us->xs[i]?=some x->∃u,us[i]?=some u/\bN x u
 |_,_,_,_,.nil,e=>by simp at e
 |_,_,0,_,.cons r _,e=>by simp at e;subst e;exact⟨_,rfl,r⟩
 |_,_,i+1,x,.cons _ t,e=>by
  obtain⟨u,h1,h2⟩:=a5.get (i:=i) (x:=x) t (by simpa using e)
  exact⟨u,by simpa using h1,h2⟩
theorem a5.set{x:V}{u:Value}(r:bN x u):∀{xs:List V} {us:List Value} (i:Nat),a5 xs us->a5 (xs.set i x) (us.set i u)
 |_,_,_,.nil=>.nil
 |_,_,0,.cons _ t=>.cons r t
 |_,_,i+1,.cons q t=>.cons q (a5.set r i t)
theorem a5.append:∀{xs ys:List V} {us ws:List Value},a5 xs us->a5 ys ws->a5 (xs++ys) (us++ws)
 |_,_,_,_,.nil,s=>s
 |_,_,_,_,.cons r t,s=>.cons r (a5.append t s)
theorem a5.take:∀{xs:List V} {us:List Value} (n:Nat),a5 xs us->a5 (xs.take n) (us.take n)
 |_,_,0,_=>.nil
 |_,_,_+1,.nil=>.nil
 |_,_,n+1,.cons r t=>.cons r (a5.take n t)
theorem a5.drop:∀{xs:List V} {us:List Value} (n:Nat),a5 xs us->a5 (xs.drop n) (us.drop n)
 |_,_,0,r=>r
 |_,_,_+1,.nil=>.nil
 |_,_,n+1,.cons _ t=>a5.drop n t
def sO:Option V->Option Value->Prop
 |some v,some u=>bN v u
 |none,none=>True
 |_,_=>False
def KV{κ:Type}:List (κ×V)->List (κ×Value)->Prop:=Paired fun(p:κ×V) (q:κ×Value)=>p.1=q.1/\bN p.2 q.2
def kV:Key->V
 |.inl i=>.int i
 |.inr x=>.str x
inductive HO where
 |lst (xs:List V)
 |tup (xs:List V)
 |dK (kvs:List (Key×V))|dT (kvs:List (List Key×V))
 |set (S:Int->Bool) (n:Nat)
 |ins (C dx:Addr) (fs:List (Str×V))
 |own (x:Addr)
 |xd (fs:List (Str×V))
 |met (f x:Addr)
 |rng (lo hi:Int)
 |frz (o:Obj) (u:HO)
 |tbl (ps:Array Value)
 |ext (φ:Heap->Prop)
abbrev Hp:=Addr->Option HO
def upd(H:Hp)(a:Addr)(o:HO):Hp:=fun b=>if b=a then some o else H b
theorem aJ{H:Hp}{a:Addr}{o:HO}:upd H a o a=some o:=by unfold upd;rw[if_pos rfl]
theorem aV{H:Hp}{a b:Addr}{o:HO}(h:b≠a):upd H a o b=H b:=by unfold upd;rw[if_neg h]
theorem Ho{H:Hp}{a b:Addr}{o u:HO}(h:H a=some o)(h':H b=some u)(d:o≠u):a≠b:=by
 intro e;subst e;rw[h]at h';exact d (Option.some.inj h')
theorem b8{H:Hp}{a b:Addr}{o:HO}(h:H a=some o)(h':H b=none):a≠b:=by
 intro e;subst e;rw[h]at h';cases h'
section
variable(P:Program)(w:World)
def bC(H:Hp)(h:Heap)(a:Addr):HO->Prop
 |.lst xs=>xs.length<=sizeLine/\∃(its:List Value) (n:Nat),a5 xs its/\h.get? a=some { cls:=.type "list",data:=.seq its.toArray n }
 |.tup xs=>xs.length<=sizeLine/\∃its:List Value,a5 xs its/\IsTup h a its.toArray
 |.dK kvs=>kvs.length<=sizeLine/\(a == sysModules)=false/\∃vs,KV kvs vs/\h.DictOf (bA P w) a vs
 | .dT kvs=>kvs.length<=sizeLine/\(a == sysModules)=false/\∃xs:List (List Key×Addr×Value),
   Paired (fun(p:List Key×V) (q:List Key×Addr×Value)=>p.1=q.1/\H q.2.1=some (.tup (p.1.map kV))/\bN p.2 q.2.2) kvs xs/\
   ∃o es ep,h.get? a=some o/\o.ExactDict/\o.data=.dict es ep/\es.toList=xs.map (entryOfKey (tupleKind (bA P w)))/\(xs.map (·.1)).Nodup
 |.set S n=>h.SetOf (intKind P w) a S n
 | .ins C dx fs=>H dx=some (.own a)/\fs.length<=1000/\dx≠a/\h.get? a=some (PySem.W.instObj C dx)/\
   ∃mA,h.Ns1 dx mA/\(∀f,sO (fs.lookup f) (mA f))/\PySem.Within mA (fs.map (·.1))
 |.own _=>∃o,h.get? a=some o
 |.xd fs=>∃mA,h.Ns1 a mA/\∀f,sO (fs.lookup f) (mA f)
 |.rng lo hi=>∃t u v,h.get? a=some { cls:=.type "range",data:=.fields #[.int lo t,.int hi u,.int 1 v] }
 |.frz o u=>h.get? a=some o/\bC H h a u
 |.tbl ps=>h.get? a=some { cls:=.none,data:=.fields ps }
 |.met f x=>h.get? a=some (PySem.W.methodObj (.ref f) (.ref x))
 |.ext φ=>φ h/\(∃o,h.get? a=some o)/\∀h1 h2:Heap,φ h1->(∀o,h1.get? a=some o->h2.get? a=some o)->φ h2
def HOk(H:Hp)(h:Heap):Prop:=∀a o,H a=some o->bC P w H h a o
end
section
variable{P:Program}{w:World}{H H':Hp}{h h':Heap}{a:Addr}{o:HO}
theorem bC.lt(x:bC P w H h a o):a<h.objs.size:=by
 cases o with
 |lst xs=>obtain⟨_,_,_,_,e⟩:=x;exact QX e
 |tup xs=>obtain⟨_,_,_,p⟩:=x;exact p.lt
 |dK kvs=>obtain⟨_,_,_,_,o,_,_,e,_⟩:=x;exact QX e
 |dT kvs=>obtain⟨_,_,_,_,o,_,_,e,_⟩:=x;exact QX e
 |set S n=>obtain⟨o,_,_,_,e,_⟩:=x;exact QX e
 |ins C dx fs=>obtain⟨_,_,_,e,_⟩:=x;exact QX e
 |own y=>obtain⟨_,e⟩:=x;exact QX e
 |xd fs=>obtain⟨_,⟨_,_,_,e,_⟩,_⟩:=x;exact QX e
 |rng lo hi=>obtain⟨_,_,_,e⟩:=x;exact QX e
 |frz ob u=>obtain⟨e,_⟩:=x;exact QX e
 |tbl ps=>exact QX (show h.get? a=some _ from x)
 |met f y=>exact QX (show h.get? a=some _ from x)
 |ext φ=>obtain⟨_,⟨_,e⟩,_⟩:=x;exact QX e
theorem Paired.mapP{α β:Type}{F G:α->β->Prop}:∀{l₁:List α} {l₂:List β},Paired F l₁ l₂->(∀a b,F a b->G a b)->Paired G l₁ l₂
 |_,_,.nil,_=>.nil
 |_,_,.cons r t,f=>.cons (f _ _ r) (Paired.mapP t f)
theorem bC.stay(x:bC P w H h a o)(k:∀b u,(b=a\/H b=some (.own a))->h.get? b=some u->h'.get? b=some u)
  (ho:∀b,H b=some (.own a)->H' b=some (.own a)) (ht:∀b xs,H b=some (.tup xs)->H' b=some (.tup xs)):bC P w H' h' a o:=by
 induction o with
 |lst xs=>obtain⟨z,its,n,r,e⟩:=x;exact⟨z,its,n,r,k _ _ (.inl rfl) e⟩
 |tup xs=>obtain⟨z,its,r,ob,e,c⟩:=x;exact⟨z,its,r,ob,k _ _ (.inl rfl) e,c⟩
 |dK kvs=>obtain⟨z,y,vs,r,ob,es,ep,e,c⟩:=x;exact⟨z,y,vs,r,ob,es,ep,k _ _ (.inl rfl) e,c⟩
 |dT kvs=>
  obtain⟨z,y,xs,r,ob,es,ep,e,c⟩:=x
  exact⟨z,y,xs,Paired.mapP r fun p q z=>⟨z.1,ht _ _ z.2.1,z.2.2⟩,ob,es,ep,k _ _ (.inl rfl) e,c⟩
 |set S n=>obtain⟨ob,es,ep,t,e,c⟩:=x;exact⟨ob,es,ep,t,k _ _ (.inl rfl) e,c⟩
 |ins C dx fs=>
  obtain⟨d,z,ne,e,mA,⟨od,es,ep,e2,c⟩,r⟩:=x
  exact⟨ho _ d,z,ne,k _ _ (.inl rfl) e,mA,⟨od,es,ep,k _ _ (.inr d) e2,c⟩,r⟩
 |own y=>obtain⟨ob,e⟩:=x;exact⟨ob,k _ _ (.inl rfl) e⟩
 |xd fs=>obtain⟨mA,⟨od,es,ep,e,c⟩,r⟩:=x;exact⟨mA,⟨od,es,ep,k _ _ (.inl rfl) e,c⟩,r⟩
 |rng lo hi=>obtain⟨t,u,v,e⟩:=x;exact⟨t,u,v,k _ _ (.inl rfl) e⟩
 |frz ob u ih=>obtain⟨e,q⟩:=x;exact⟨k _ _ (.inl rfl) e,ih q⟩
 |tbl ps=>
  have e:h.get? a=some { cls:=.none,data:=.fields ps }:=x
  show h'.get? a=some { cls:=.none,data:=.fields ps }
  exact k a _ (.inl rfl) e
 |met f y=>
  have e:h.get? a=some (PySem.W.methodObj (.ref f) (.ref y)):=x
  show h'.get? a=some (PySem.W.methodObj (.ref f) (.ref y))
  exact k a _ (.inl rfl) e
 |ext φ=>obtain⟨p,⟨o,e⟩,st⟩:=x;exact⟨st _ _ p fun o q=>k _ _ (.inl rfl) q,⟨o,k _ _ (.inl rfl) e⟩,st⟩
theorem HOk.lt(x:HOk P w H h)(e:H a=some o):a<h.objs.size:=(x a o e).lt
theorem HOk.fresh(x:HOk P w H h)(e:h.objs.size<=a):H a=none:=by
 cases q:H a with
 |none=>rfl
 |some u=>exact absurd (Qq (x.lt q) e) (Nat.lt_irrefl _)
theorem HOk.kept(x:HOk P w H h)(k:∀b u,h.get? b=some u->h'.get? b=some u):HOk P w H h':=fun a o e=>
 (x a o e).stay (fun b u _ q=>k b u q) (fun _ q=>q) fun _ _ q=>q
theorem HOk.laid(x:HOk P w H h)(k:∀b u,h.get? b=some u->h'.get? b=some u)(hp:h.objs.size<=a)(new:bC P w (upd H a o) h' a o):HOk P w (upd H a o) h':=fun b u e=>by
 have hn:=x.fresh hp
 by_cases hb:b=a
 ·subst hb;rw[aJ]at e;cases e;exact new
 ·rw[aV hb]at e
  exact(x b u e).stay (fun c v _ q=>k c v q) (fun c q=>by rw[aV (b8 q hn)];exact q) fun c xs q=>by rw[aV (b8 q hn)];exact q
end
def Rd(H:Hp)(a:Addr)(u:HO):Prop:=H a=some u\/∃o,H a=some (.frz o u)
theorem Rd.ok{P:Program}{w:World}{H:Hp}{h:Heap}{a:Addr}{u:HO}(r:Rd H a u)(x:HOk P w H h):bC P w H h a u:=by
 rcases r with r|⟨o,r⟩
 ·exact x a u r
 ·obtain⟨_,q⟩:=x a _ r
  exact q
def Mut:Option HO->Prop
 |some (.lst _)=>True
 |some (.dK _)=>True
 |some (.dT _)=>True
 |some (.set _ _)=>True
 |some (.ins _ _ _)=>True
 |some (.ext _)=>True
 |_=>False
section
variable{P:Program}{w:World}{H:Hp}{h h':Heap}{x e:Addr}{o':HO}
theorem HOk.write(ok:HOk P w H h)(mu:Mut (H x))(he:e=x\/H e=some (.own x))(k:∀b u,b≠e->h.get? b=some u->h'.get? b=some u)(heo:∃u,h'.get? e=some u)
  (new:bC P w (upd H x o') h' x o'):HOk P w (upd H x o') h':=fun b u q=>by
 have nown:∀c y,H c=some (.own y)->c≠x:=fun c y r z=>by subst z;rw[r]at mu;exact mu
 have ntup:∀c xs,H c=some (.tup xs)->c≠x:=fun c xs r z=>by subst z;rw[r]at mu;exact mu
 by_cases hb:b=x
 ·subst hb;rw[aJ]at q;cases q;exact new
 ·rw[aV hb]at q
  by_cases hbe:b=e
  ·have q':H b=some (.own x):=by
    rcases he with z|z
    ·exact absurd (hbe.trans z) hb
    ·rw[hbe];exact z
   rw[q]at q';cases q'
   obtain⟨v,hv⟩:=heo
   exact⟨v,by rw[hbe];exact hv⟩
  ·refine(ok b u q).stay (fun c v hc r=>k c v ?_ r) (fun c r=>by rw[aV (nown c b r)];exact r) fun c xs r=>by rw[aV (ntup c xs r)];exact r
   rcases hc with rfl|hc
   ·exact hbe
   ·rintro rfl
    rcases he with z|z
    ·exact nown c b hc z
    ·rw[hc]at z;cases z;exact hb rfl
end
structure Un(fs ex:List Addr)(H H':Hp)(h h':Heap):Prop where
 keep:∀b o,h.get? b=some o->H b=none->b∉fs->b∉ex->h'.get? b=some o
 slot:∀b o,h.get? b=some o->H b=none->b∈fs->b∉ex->∃sl,h'.get? b=some { o with slots:=sl }
 free:∀b o,h.get? b=some o->H b=none->b∉ex->H' b=none
 there:∀b o,h.get? b=some o->b∉ex->∃o',h'.get? b=some o'
 tups:∀b xs,H b=some (.tup xs)->H' b=some (.tup xs)
 frzs:∀b o u,H b=some (.frz o u)->H' b=some (.frz o u)
 tbls:∀b ps,H b=some (.tbl ps)->∃more,H' b=some (.tbl (ps++more))
section
variable{fs fs' ex ex':List Addr}{H H1 H2:Hp}{h h1 h2 h':Heap}{a x e:Addr}{o:HO}
theorem Un.any(u:Un fs ex H H1 h h1){b:Addr}{ob:Obj}(q:h.get? b=some ob)(n:H b=none)(hx:b∉ex):∃sl,h1.get? b=some { ob with slots:=sl }:=by
 by_cases hb:b∈fs
 ·exact u.slot b ob q n hb hx
 ·exact⟨ob.slots,u.keep b ob q n hb hx⟩
theorem Un.kept(k:∀b u,h.get? b=some u->h'.get? b=some u):Un fs ex H H h h':=
 ⟨fun b ob q _ _ _=>k b ob q,fun b ob q _ _ _=>⟨ob.slots,k b ob q⟩,fun _ _ _ n _=>n,fun b ob q _=>⟨ob,k b ob q⟩,fun _ _ q=>q,fun _ _ _ q=>q,fun _ ps q=>⟨#[],by rw[q];simp⟩⟩
theorem Un.refl:Un fs ex H H h h:=Un.kept fun _ _ q=>q
theorem Un.laid(k:∀b u,h.get? b=some u->h'.get? b=some u)(hp:h.objs.size<=a)(hn:H a=none):Un fs ex H (upd H a o) h h' where
 keep:=fun b u q _ _ _=>k b u q
 slot:=fun b u q _ _ _=>⟨u.slots,k b u q⟩
 free:=fun b u q n _=>by rw[aV (QC (Qq (QX q) hp))];exact n
 there:=fun b u q _=>⟨u,k b u q⟩
 tups:=fun b xs q=>by rw[aV (b8 q hn)];exact q
 frzs:=fun b u xs q=>by rw[aV (b8 q hn)];exact q
 tbls:=fun b ps q=>⟨#[],by rw[aV (b8 q hn),q];simp⟩
theorem Un.write(mu:Mut (H x))(he:e=x\/H e=some (.own x))(k:∀b u,b≠e->h.get? b=some u->h'.get? b=some u)(heo:∃u,h'.get? e=some u):Un fs ex H (upd H x o) h h':=by
 have hx:∀b,H b=none->b≠x:=fun b n z=>by subst z;rw[n]at mu;exact mu
 have hb:∀b,H b=none->b≠e:=fun b n z=>by
  subst z
  rcases he with r|r
  ·exact hx b n r
  ·rw[n]at r;cases r
 have hm:∀b u,H b=some u->¬Mut (some u)->b≠x:=fun b u q nm z=>by subst z;rw[q]at mu;exact nm mu
 refine⟨fun b u q n _ _=>k b u (hb b n) q,fun b u q n _ _=>⟨u.slots,k b u (hb b n) q⟩,fun b u q n _=>by rw[aV (hx b n)];exact n,fun b u q _=>?_,
  fun b xs q=>by rw[aV (hm b _ q fun z=>z)];exact q,fun b u xs q=>by rw[aV (hm b _ q fun z=>z)];exact q,fun b ps q=>⟨#[],by rw[aV (hm b _ q fun z=>z),q];simp⟩⟩
 by_cases hbe:b=e
 ·subst hbe;exact heo
 ·exact⟨u,k b u hbe q⟩
end
def trk(h:Heap)(H:Hp):List Addr:=(Qj h.objs.size).filter fun a=>(H a).isSome
def yI(h:Heap)(H:Hp):Heap:=PySem.W.hideAll h (trk h H)
theorem vJ(h:Heap)(H:Hp):(yI h H).objs.size=h.objs.size:=PySem.W.hideAll_size _ _
theorem yH{h:Heap}{H:Hp}{b:Addr}{o:Obj}(e:h.get? b=some o)(n:H b=none):(yI h H).get? b=some o:=
 PySem.W.hideAll_get _ e fun hm=>by
  have q:(H b).isSome=true:=(ZL.mp hm).2
  rw[n]at q;simp at q
theorem BZ{h:Heap}{H:Hp}{b:Addr}{o:Obj}(e:(yI h H).get? b=some o):h.get? b=some o/\H b=none:=by
 have e':h.get? b=some o:=PySem.W.of_hideAll (trk h H) e
 refine⟨e',?_⟩
 cases q:H b with
 |none=>rfl
 |some x=>
  have hm:b∈trk h H:=ZL.mpr ⟨Qu.mpr (QX e'),by simp[q]⟩
  have z:(yI h H).get? b=none:=PySem.W.hideAll_none (trk h H) hm
  rw[z]at e;cases e
structure Mod(K:Q5)(mg:Str->Option Value)(base:Heap):Prop where
 kin:K.In base
 glob:base.Ns mainGlobals mg
 blt:∃mb,base.Ns builtinsNs mb/\∀x:Str,x≠"__name__"->mb x=bootBuiltins x
 nolimit:base.NoLimit
structure Cx where
 prog:Program
 w:World
 K:Q5
 mg:Str->Option Value
 base:Heap
 A:Around
 N:List Str
 s₀:Shared
 H₀:Hp
 env:Env
 outer:List Env
 stack:List Env
 ex:List Addr
 fn:Str->Bool
 calm:Bool
 pn:List (Addr×Obj)
 xe:Value->Shared->Prop
def frs(l:List Env):List Addr:=l.filterMap (·.frame)
abbrev Cx.fs(X:Cx):List Addr:=frs X.outer
def Vis(sc:Scope)(x:Str):Prop:=sc.names.lookup x=some .local\/sc.names.lookup x=some .cell\/sc.names.lookup x=some .free
def Loc(sc:Scope)(x:Str):Prop:=sc.names.lookup x=some .local\/sc.names.lookup x=some .cell
def Jj(env:Env)(h:Heap)(m:Str->Option Value)(x:Str)(u:Value):Prop:=
 (env.kindOf x=some .local/\m x=some u)\/((env.kindOf x=some .cell\/env.kindOf x=some .free)/\∃c,env.cells.lookup x=some c/\h.IsCell c (some u))
structure Cx.Ok(X:Cx):Prop where
 mod:Mod X.K X.mg X.base
 kind:X.env.scope.kind=.function
 glob:X.env.globals=mainGlobals
 blt:X.env.builtins=builtinsNs
 above:X.s₀.heap.objs.size<=X.env.locals
 inj:∀x y c,X.env.cells.lookup x=some c->X.env.cells.lookup y=some c->x=y
 has:∀x,(X.env.kindOf x=some .cell\/X.env.kindOf x=some .free)->∃c,X.env.cells.lookup x=some c
 cab:∀x c,X.fn x=true->X.env.cells.lookup x=some c->X.s₀.heap.objs.size<=c
 hd:X.calm=true->X.A.handled=none
 frames:X.A.frames=some X.stack
 stk:X.stack=X.outer\/(X.stack=X.env::X.outer/\X.env.frame=some X.env.locals)
 exf:∀b∈X.ex,b≠X.env.locals/\∀x c,X.env.cells.lookup x=some c->c≠b
 bs:∀b o,X.base.get? b=some o->X.s₀.heap.get? b=some o/\X.H₀ b=none
 bsz:X.base.objs.size<=X.s₀.heap.objs.size
 noex:∀b o,X.base.get? b=some o->b∉X.ex
 exfs:∀b∈X.ex,b∉X.fs
 funs:X.s₀.heap.FunFrames X.base X.outer
 frf:∀b∈X.fs,X.H₀ b=none
structure Inv(X:Cx)(pins:List (Addr×Obj))(σ:List (Option V))(H:Hp)(s:Shared):Prop where
 ok:X.Ok
 os:s.os=X.s₀.os
 bare:AllBare s.gens
 base:Un X.fs X.ex X.H₀ H X.s₀.heap s.heap
 loc:∃m,s.heap.Ns X.env.locals m/\∀(i:Nat) (x:Str) (v:V),X.N[i]?=some x->σ[i]?=some (some v)->Vis X.env.scope x->∃u,bN v u/\Jj X.env s.heap m x u
 cell:∀x c,X.env.cells.lookup x=some c->∃v,s.heap.IsCell c v
 free:H X.env.locals=none
 freeC:∀x c,X.env.cells.lookup x=some c->H c=none
 pin:∀p∈X.pn++pins,s.heap.get? p.1=some p.2/\H p.1=none/\p.1≠X.env.locals/\p.1∉X.fs/\∀v,p.2.data≠.cell v
 hok:HOk X.prog X.w H s.heap
 len:σ.length=X.N.length
section
variable{X:Cx}{pins:List (Addr×Obj)}{σ:List (Option V)}{H H':Hp}{s:Shared}{h':Heap}
theorem Cx.Ok.nofr(ok:X.Ok){b:Addr}{o:Obj}(e:X.base.get? b=some o):b∉X.fs:=fun hb=>by
 have:=(ok.funs.mem hb).1
 rw[e]at this;cases this
theorem Inv.bs(I:Inv X pins σ H s):∀b o,X.base.get? b=some o->s.heap.get? b=some o/\H b=none:=fun b o e=>
 ⟨I.base.keep b o (I.ok.bs b o e).1 (I.ok.bs b o e).2 (I.ok.nofr e) (I.ok.noex b o e),I.base.free b o (I.ok.bs b o e).1 (I.ok.bs b o e).2 (I.ok.noex b o e)⟩
theorem Inv.bk(I:Inv X pins σ H s):∀b o,X.base.get? b=some o->s.heap.get? b=some o:=fun b o e=>(I.bs b o e).1
theorem Inv.mod(I:Inv X pins σ H s):Mod X.K X.mg X.base:=I.ok.mod
theorem Inv.kIn(I:Inv X pins σ H s):X.K.In s.heap:=I.ok.mod.kin.keeps I.bk
theorem Inv.lt(I:Inv X pins σ H s):X.env.locals<s.heap.objs.size:=let ⟨_,hn,_⟩:=I.loc;hn.lt
theorem Inv.sz(I:Inv X pins σ H s):X.s₀.heap.objs.size<=s.heap.objs.size:=Qy I.ok.above (Nat.le_of_lt I.lt)
theorem Inv.nofs(I:Inv X pins σ H s){a:Addr}(h:s.heap.objs.size<=a):a∉X.fs:=fun hb=>by
 obtain⟨_,o,ho,_⟩:=I.ok.funs.mem hb
 exact absurd (Qq (QX ho) (Qy I.sz h)) (Nat.lt_irrefl _)
theorem Inv.cne(I:Inv X pins σ H s):∀x c,X.env.cells.lookup x=some c->c≠X.env.locals:=fun x c e z=>by
 obtain⟨v,o,ho,hd⟩:=I.cell x c e
 obtain⟨m,⟨o',es,ep,ho',hd',_⟩,_⟩:=I.loc
 rw[z,ho']at ho;cases ho;rw[hd']at hd;cases hd
theorem Inv.funs(I:Inv X pins σ H s):s.heap.FunFrames X.base X.outer:=by
 have all:∀(l:List Env),(∀b∈frs l,b∈X.fs)->X.s₀.heap.FunFrames X.base l->s.heap.FunFrames X.base l:=by
  intro l
  induction l with
  |nil=>intro _ _;trivial
  |cons env r ih=>
   intro hs hl
   obtain⟨hk,⟨L,o,hf,hn,ho,hd⟩,hr⟩:=hl
   have hL:L∈X.fs:=hs L (by unfold frs;rw[List.filterMap_cons,hf];exact QK)
   obtain⟨sl,e⟩:=I.base.slot L o ho (I.ok.frf L hL) hL fun z=>I.ok.exfs L z hL
   exact⟨hk,⟨L,_,hf,hn,e,hd⟩,ih (fun b hb=>hs b (by unfold frs;rw[List.filterMap_cons,hf];exact QU _ hb)) hr⟩
 exact all X.outer (fun _ hb=>hb) I.ok.funs
theorem Inv.stack(I:Inv X pins σ H s):s.heap.FunFrames X.base X.stack:=by
 rcases I.ok.stk with e|⟨e,hf⟩
 ·rw[e];exact I.funs
 ·rw[e]
  obtain⟨m,hn,_⟩:=I.loc
  refine .cons (by rw[I.ok.kind];decide) hf hn ?_ I.funs
  exact Heap.get?_none_of_le (Qy I.ok.bsz I.ok.above)
theorem Inv.stkSub(I:Inv X pins σ H s):∀b∈frs X.stack,b∈X.env.locals::X.fs:=fun b hb=>by
 rcases I.ok.stk with e|⟨e,hf⟩
 ·rw[e]at hb;exact QU _ hb
 ·rw[e]at hb
  unfold frs at hb
  rw[List.filterMap_cons,hf]at hb
  exact hb
theorem Inv.stkFree(I:Inv X pins σ H s):∀b∈frs X.stack,H b=none:=fun b hb=>by
 rcases QM.mp (I.stkSub b hb)with e|hb
 ·rw[e];exact I.free
 ·obtain⟨_,o,ho,_⟩:=I.ok.funs.mem hb
  exact I.base.free b o ho (I.ok.frf b hb) fun z=>I.ok.exfs b z hb
theorem Inv.step{g':Array GenState}{t':Nat}{d':Drawn}{ch:List Addr}(I:Inv X pins σ H s)
  (hch:∀b∈ch,(b∈X.ex\/X.s₀.heap.objs.size<=b)/\b≠X.env.locals/\(∀x c,X.env.cells.lookup x=some c->c≠b)/\∀p∈X.pn++pins,p.1≠b)
  (keep:∀b o,b≠X.env.locals->b∉X.fs->b∉ch->s.heap.get? b=some o->H b=none->h'.get? b=some o)
  (slot:∀b o,b≠X.env.locals->b∈X.fs->b∉ch->s.heap.get? b=some o->H b=none->∃sl,h'.get? b=some { o with slots:=sl }) (free:∀b o,b∉ch->s.heap.get? b=some o->H b=none->H' b=none)
  (there:∀b o,b∉ch->s.heap.get? b=some o->∃o',h'.get? b=some o')
  (tups:∀b xs,H b=some (.tup xs)->H' b=some (.tup xs)) (frzs:∀b o u,H b=some (.frz o u)->H' b=some (.frz o u)) (tbls:∀b ps,H b=some (.tbl ps)->∃more,H' b=some (.tbl (ps++more)))
  (ns:∀m,s.heap.Ns X.env.locals m->h'.Ns X.env.locals m) (hok:HOk X.prog X.w H' h') (hg:AllBare g') :
  Inv X pins σ H' { s with heap:=h',gens:=g',drawn:=d',toks:=t' }:=by
 have neL:∀b o,X.s₀.heap.get? b=some o->b≠X.env.locals:=fun b o e=>QC (Qq (QX e) I.ok.above)
 have neC:∀b o,X.s₀.heap.get? b=some o->b∉X.ex->b∉ch:=fun b o e hx hb=>by
  rcases(hch b hb).1 with z|z
  ·exact hx z
  ·exact absurd (Qq (QX e) z) (Nat.lt_irrefl _)
 have cellK:∀x c,X.env.cells.lookup x=some c->∀v,s.heap.IsCell c v->h'.IsCell c v:=fun x c e v ⟨o,ho,hd⟩=>by
  have nch:c∉ch:=fun z=>(hch c z).2.2.1 x c e rfl
  by_cases hc:c∈X.fs
  ·obtain⟨sl,q⟩:=slot c o (I.cne x c e) hc nch ho (I.freeC x c e)
   exact⟨_,q,hd⟩
  ·exact⟨o,keep c o (I.cne x c e) hc nch ho (I.freeC x c e),hd⟩
 refine⟨I.ok,I.os,hg,⟨fun b o e n hb hx=>?_,fun b o e n hb hx=>?_,fun b o e n hx=>?_,fun b o e hx=>?_,fun b xs e=>tups b xs (I.base.tups b xs e),fun b o xs e=>frzs b o xs (I.base.frzs b o xs e),fun b ps e=>?_⟩,?_,fun x c e=>?_,?_,fun x c e=>?_,fun p hp=>?_,hok,I.len⟩
 ·exact keep b o (neL b o e) hb (neC b o e hx) (I.base.keep b o e n hb hx) (I.base.free b o e n hx)
 ·obtain⟨sl,e1⟩:=I.base.slot b o e n hb hx
  obtain⟨sl',e2⟩:=slot b _ (neL b o e) hb (neC b o e hx) e1 (I.base.free b o e n hx)
  exact⟨sl',e2⟩
 ·obtain⟨o',e1⟩:=I.base.there b o e hx
  exact free b o' (neC b o e hx) e1 (I.base.free b o e n hx)
 ·obtain⟨o',e1⟩:=I.base.there b o e hx
  exact there b o' (neC b o e hx) e1
 ·obtain⟨m1,e1⟩:=I.base.tbls b ps e
  obtain⟨m2,e2⟩:=tbls b _ e1
  exact⟨m1++m2,by rw[e2,Array.append_assoc]⟩
 ·obtain⟨m,hn,hl⟩:=I.loc
  refine⟨m,ns m hn,fun i x v e1 e2 e3=>?_⟩
  obtain⟨u,r,l⟩:=hl i x v e1 e2 e3
  refine⟨u,r,?_⟩
  rcases l with l|⟨k,c,e,z⟩
  ·exact .inl l
  ·exact .inr ⟨k,c,e,cellK x c e _ z⟩
 ·obtain⟨v,z⟩:=I.cell x c e
  exact⟨v,cellK x c e v z⟩
 ·obtain⟨m,⟨o,_,_,ho,_⟩,_⟩:=I.loc
  exact free _ o (fun z=>(hch _ z).2.1 rfl) ho I.free
 ·obtain⟨v,o,ho,hd⟩:=I.cell x c e
  exact free c o (fun z=>(hch c z).2.2.1 x c e rfl) ho (I.freeC x c e)
 ·obtain⟨e,n,ne,nf,d⟩:=I.pin p hp
  have nch:p.1∉ch:=fun z=>(hch p.1 z).2.2.2 p hp rfl
  exact⟨keep p.1 p.2 ne nf nch e n,free p.1 p.2 nch e n,ne,nf,d⟩
theorem Inv.un{t':Nat}(I:Inv X pins σ H s)(u:Un X.fs [] H H' s.heap h')(hok:HOk X.prog X.w H' h'):Inv X pins σ H' { s with heap:=h',toks:=t' }:=by
 obtain⟨m,⟨o,es,ep,ho,r⟩,_⟩:=id I.loc
 obtain⟨sl,hL⟩:=u.any ho I.free (by simp)
 exact I.step (g':=s.gens) (d':=s.drawn) (ch:=[]) (fun _ z=>nomatch z) (fun b o _ hb _ e n=>u.keep b o e n hb (by simp)) (fun b o _ hb _ e n=>u.slot b o e n hb (by simp)) (fun b o _ e n=>u.free b o e n (by simp)) (fun b o _ e=>u.there b o e (by simp)) u.tups u.frzs u.tbls (fun m' hm=>by
  obtain⟨o',es',ep',ho',r'⟩:=hm
  rw[ho]at ho';cases ho'
  exact⟨_,es',ep',hL,r'⟩) hok I.bare
theorem Inv.call{g':Array GenState}{t':Nat}{d':Drawn}{ch:List Addr}(I:Inv X pins σ H s)(u:Un (frs X.stack) ch H H' s.heap h')(hok:HOk X.prog X.w H' h')(hg:AllBare g')
  (hch:∀b∈ch,(b∈X.ex\/X.s₀.heap.objs.size<=b)/\b≠X.env.locals/\(∀x c,X.env.cells.lookup x=some c->c≠b)/\∀p∈X.pn++pins,p.1≠b) :
  Inv X pins σ H' { s with heap:=h',gens:=g',drawn:=d',toks:=t' }:=by
 obtain⟨m,⟨o,es,ep,ho,r⟩,_⟩:=id I.loc
 obtain⟨sl,hL⟩:=u.any ho I.free fun z=>(hch _ z).2.1 rfl
 exact I.step (ch:=ch) hch (fun b o hL hb hc e n=>u.keep b o e n (fun z=>(QM.mp (I.stkSub b z)).elim hL hb) hc) (fun b o _ _ hc e n=>u.any e n hc) (fun b o hc e n=>u.free b o e n hc) (fun b o hc e=>u.there b o e hc) u.tups u.frzs u.tbls (fun m' hm=>by
  obtain⟨o',es',ep',ho',r'⟩:=hm
  rw[ho]at ho';cases ho'
  exact⟨_,es',ep',hL,r'⟩) hok hg
theorem Inv.turned{t':Nat}{it:Addr}(I:Inv X pins σ H s)(k:∀b o,b≠it->s.heap.get? b=some o->h'.get? b=some o)(hn:H it=none)(hL:it≠X.env.locals)
  (h1:it∈X.ex\/X.s₀.heap.objs.size<=it) (h2:∀x c,X.env.cells.lookup x=some c->c≠it) (h3:∀p∈X.pn++pins,p.1≠it):Inv X pins σ H { s with heap:=h',toks:=t' }:=by
 have nit:∀b u,H b=some u->b≠it:=fun b u e z=>by rw[z,hn]at e;cases e
 refine I.step (g':=s.gens) (d':=s.drawn) (ch:=[it]) (fun b hb=>?_) (fun b o _ _ hc e _=>k b o (fun z=>hc (by simp[z])) e) (fun b o _ _ hc e _=>⟨o.slots,k b o (fun z=>hc (by simp[z])) e⟩) (fun _ _ _ _ n=>n)
  (fun b o hc e=>⟨o,k b o (fun z=>hc (by simp[z])) e⟩) (fun _ _ e=>e) (fun _ _ _ e=>e) (fun b ps e=>⟨#[],by rw[e];simp⟩) (fun m hm=>?_) (fun b u e=>?_) I.bare
 ·have e:b=it:=by simpa using hb
  subst e
  exact⟨h1,hL,h2,h3⟩
 ·obtain⟨o,es,ep,ho,r⟩:=hm
  exact⟨o,es,ep,k _ o (Ne.symm hL) ho,r⟩
 ·refine(I.hok b u e).stay (fun c v hc q=>k c v ?_ q) (fun _ q=>q) fun _ _ q=>q
  rcases hc with z|z
  ·rw[z];exact nit b u e
  ·exact nit c _ z
theorem Inv.tok(I:Inv X pins σ H s)(t:Nat):Inv X pins σ H { s with toks:=t }:=I.un (h':=s.heap) (t':=t) Un.refl I.hok
theorem Inv.kept{t':Nat}(I:Inv X pins σ H s)(k:∀b u,s.heap.get? b=some u->h'.get? b=some u):Inv X pins σ H { s with heap:=h',toks:=t' }:=I.un (Un.kept k) (I.hok.kept k)
theorem Inv.laid{a:Addr}{o:HO}{t':Nat}(I:Inv X pins σ H s)(k:∀b u,s.heap.get? b=some u->h'.get? b=some u)(hp:s.heap.objs.size<=a)(new:bC X.prog X.w (upd H a o) h' a o) :
  Inv X pins σ (upd H a o) { s with heap:=h',toks:=t' }:=I.un (Un.laid k hp (I.hok.fresh hp)) (I.hok.laid k hp new)
theorem Inv.write{x e:Addr}{o:HO}{t':Nat}(I:Inv X pins σ H s)(mu:Mut (H x))(he:e=x\/H e=some (.own x))(k:∀b u,b≠e->s.heap.get? b=some u->h'.get? b=some u)(heo:∃u,h'.get? e=some u)
  (new:bC X.prog X.w (upd H x o) h' x o):Inv X pins σ (upd H x o) { s with heap:=h',toks:=t' }:=I.un (Un.write mu he k heo) (I.hok.write mu he k heo new)
theorem Inv.pins_of{pins':List (Addr×Obj)}(I:Inv X pins σ H s)(h:∀p∈pins',s.heap.get? p.1=some p.2/\H p.1=none/\p.1≠X.env.locals/\p.1∉X.fs/\∀v,p.2.data≠.cell v):Inv X pins' σ H s:=
 ⟨I.ok,I.os,I.bare,I.base,I.loc,I.cell,I.free,I.freeC,fun p hp=>(Qt.mp hp).elim (fun z=>I.pin p (List.mem_append_left _ z)) (h p),I.hok,I.len⟩
theorem qE{N:List Str}(hN:N.Nodup){i j:Nat}{x:Str}(a:N[i]?=some x)(b:N[j]?=some x):i=j:=by
 obtain⟨h1,e1⟩:=Q6.mp a
 obtain⟨h2,e2⟩:=Q6.mp b
 exact(List.getElem_inj hN).mp (e1.trans e2.symm)
theorem jv{M:Model}{A:Around}{E:Value->Shared->Prop}{i:Nat}{x:Str}{v:V}{u:Value}{Q:Unit->Shared->Prop}(I:Inv X pins σ H s)(hN:X.N.Nodup)(hi:X.N[i]?=some x)(hx:Loc X.env.scope x)(r:bN v u)
  (h:∀s',Inv X pins (σ.set i (some v)) H s'->(∃a,Ze a s.heap s'.heap/\(a=X.env.locals\/X.env.cells.lookup x=some a))->Q () s') (hf:X.fn x=true\/X.env.scope.names.lookup x=some .local:=by first|exact .inl rfl|exact .inr rfl|assumption):wpAny M A (storeName X.env x u) Q E s:=by
 obtain⟨m,hn,hl⟩:=id I.loc
 have hcls:(X.env.scope.kind == .class||(X.env.scope.kind == .module&&X.env.locals !=X.env.globals))=false:=by rw[I.ok.kind];rfl
 have hiσ:i < σ.length:=by rw[I.len];exact(Q6.mp hi).1
 have cne:=I.cne
 have tracked:∀{a:Addr} {h':Heap},(∃o,s.heap.get? a=some o/\H a=none)->Ze a s.heap h'->HOk X.prog X.w H h':=fun{a h'} ha hs b ob e=>by
  obtain⟨_,_,hfree⟩:=ha
  refine(I.hok b ob e).stay (fun c w' hc q=>(hs.2 c ?_).trans q) (fun _ q=>q) fun _ _ q=>q
  rintro rfl
  rcases hc with rfl|hc
  ·rw[hfree]at e;cases e
  ·rw[hfree]at hc;cases hc
 rcases hx with hk|hk
 ·refine wpAny_storeName_local hk hn (fun h' hn' hs=>?_) hcls
  obtain⟨oL,_,_,hoL,_⟩:=id hn
  refine h _ ⟨I.ok,I.os,I.bare,⟨fun b o e n hb hx=>?_,fun b o e n hb hx=>?_,I.base.free,fun b o e hx=>?_,I.base.tups,I.base.frzs,I.base.tbls⟩,⟨_,hn',fun j y v' e1 e2 e3=>?_⟩,fun y c e=>?_,I.free,I.freeC,fun p hp=>?_,tracked ⟨oL,hoL,I.free⟩ hs,by simpa using I.len⟩ ⟨_,hs,.inl rfl⟩
  ·exact(hs.2 b (QC (Qq (QX e) I.ok.above))).trans (I.base.keep b o e n hb hx)
  ·obtain⟨sl,e1⟩:=I.base.slot b o e n hb hx
   exact⟨sl,(hs.2 b (QC (Qq (QX e) I.ok.above))).trans e1⟩
  ·obtain⟨o',e1⟩:=I.base.there b o e hx
   exact⟨o',(hs.2 b (QC (Qq (QX e) I.ok.above))).trans e1⟩
  ·by_cases hj:j=i
   ·subst hj
    rw[hi]at e1;cases e1
    rw[List.getElem?_set_self hiσ]at e2
    cases e2
    exact⟨u,r,.inl ⟨hk,by simp⟩⟩
   ·rw[Qb (Ne.symm hj)]at e2
    obtain⟨u',r',q⟩:=hl j y v' e1 e2 e3
    refine⟨u',r',?_⟩
    rcases q with⟨k,e⟩|⟨k,c,e,z⟩
    ·refine .inl ⟨k,?_⟩
     have:y≠x:=fun e=>hj (qE hN e1 (e▸hi))
     simp[this,e]
    ·exact .inr ⟨k,c,e,z.sameBut hs (cne y c e)⟩
  ·obtain⟨w',z⟩:=I.cell y c e
   exact⟨w',z.sameBut hs (cne y c e)⟩
  ·obtain⟨e,n,ne,nf,d⟩:=I.pin p hp
   exact⟨(hs.2 p.1 ne).trans e,n,ne,nf,d⟩
 ·have hfn:X.fn x=true:=by
   rcases hf with z|z
   ·exact z
   ·rw[z]at hk;cases hk
  obtain⟨c,hc⟩:=I.ok.has x (.inl hk)
  obtain⟨w',z⟩:=I.cell x c hc
  refine wpAny_storeName_cell I.ok.kind hk hc z (fun h' hc' hs=>?_)
  obtain⟨oc,hoc,hocd⟩:=id z
  refine h { s with heap:=h' } ⟨I.ok,I.os,I.bare,⟨fun b o e n hb hx=>?_,fun b o e n hb hx=>?_,I.base.free,fun b o e hx=>?_,I.base.tups,I.base.frzs,I.base.tbls⟩,⟨m,hn.sameBut hs (Ne.symm (cne x c hc)),fun j y v' e1 e2 e3=>?_⟩,fun y c' e=>?_,I.free,I.freeC,fun p hp=>?_,tracked ⟨oc,hoc,I.freeC x c hc⟩ hs,by simpa using I.len⟩ ⟨c,hs,.inr hc⟩
  ·exact(hs.2 b (QC (Qq (QX e) (I.ok.cab x c hfn hc)))).trans (I.base.keep b o e n hb hx)
  ·obtain⟨sl,e1⟩:=I.base.slot b o e n hb hx
   exact⟨sl,(hs.2 b (QC (Qq (QX e) (I.ok.cab x c hfn hc)))).trans e1⟩
  ·obtain⟨o',e1⟩:=I.base.there b o e hx
   exact⟨o',(hs.2 b (QC (Qq (QX e) (I.ok.cab x c hfn hc)))).trans e1⟩
  ·by_cases hj:j=i
   ·subst hj
    rw[hi]at e1;cases e1
    rw[List.getElem?_set_self hiσ]at e2
    cases e2
    exact⟨u,r,.inr ⟨.inl hk,c,hc,hc'⟩⟩
   ·rw[Qb (Ne.symm hj)]at e2
    obtain⟨u',r',q⟩:=hl j y v' e1 e2 e3
    refine⟨u',r',?_⟩
    rcases q with q|⟨k,c',e,z'⟩
    ·exact .inl q
    ·refine .inr ⟨k,c',e,z'.sameBut hs ?_⟩
     rintro rfl
     exact hj (qE hN e1 (I.ok.inj _ _ _ e hc▸hi))
  ·by_cases hcc:c'=c
   ·subst hcc;exact⟨_,hc'⟩
   ·obtain⟨w2,z2⟩:=I.cell y c' e
    exact⟨w2,z2.sameBut hs hcc⟩
  ·obtain⟨e,n,ne,nf,d⟩:=I.pin p hp
   refine⟨(hs.2 p.1 ?_).trans e,n,ne,nf,d⟩
   intro q
   rw[q,hoc]at e
   have q':oc=p.2:=Option.some.inj e
   exact d w' (by rw[<-q'];exact hocd)
theorem pY{M:Model}{A:Around}{E:Value->Shared->Prop}{i:Nat}{x:Str}{v:V}{u:Value}{Q:Unit->Shared->Prop}(I:Inv X pins σ H s)(hN:X.N.Nodup)(hi:X.N[i]?=some x)(hx:Loc X.env.scope x)(r:bN v u)
  (h:∀s',Inv X pins (σ.set i (some v)) H s'->Q () s') (hf:X.fn x=true\/X.env.scope.names.lookup x=some .local:=by first|exact .inl rfl|exact .inr rfl|assumption):wpAny M A (storeName X.env x u) Q E s:=
 jv I hN hi hx r (fun s' I' _=>h s' I') hf
theorem Inv.call'{s':Shared}{ch:List Addr}(I:Inv X pins σ H s)(ho:s'.os=s.os)(u:Un (frs X.stack) ch H H' s.heap s'.heap)(hok:HOk X.prog X.w H' s'.heap)(hg:AllBare s'.gens)
  (hch:∀b∈ch,(b∈X.ex\/X.s₀.heap.objs.size<=b)/\b≠X.env.locals/\(∀x c,X.env.cells.lookup x=some c->c≠b)/\∀p∈X.pn++pins,p.1≠b):Inv X pins σ H' s':=by
 obtain⟨h',g',d',t',o'⟩:=s'
 have e:o'=s.os:=ho
 subst e
 exact I.call (g':=g') (t':=t') (d':=d') u hok hg hch
end
abbrev XK:=Value->Option Addr->Hp->Prop
abbrev St:=List (Option V)
abbrev VK:=V->Hp->Prop
abbrev TE:=St->Hp->VK->Prop
abbrev TT:=St->Hp->(Bool->Hp->Prop)->Prop
abbrev TA:=St->Hp->(List V->Hp->Prop)->Prop
structure Ae where
 nx:St->Hp->Prop
 rt:VK
 bk:St->Hp->Prop:=fun _ _=>False
 ct:St->Hp->Prop:=fun _ _=>False
abbrev TS:=Ae->St->Hp->Prop
def EP(X:Cx)(pins:List (Addr×Obj))(σ:St)(Q:VK)(u:Value)(s':Shared):Prop:=∃v H',Inv X pins σ H' s'/\bN v u/\Q v H'
def TP(X:Cx)(pins:List (Addr×Obj))(σ:St)(Q:Bool->Hp->Prop)(b:Bool)(s':Shared):Prop:=∃H',Inv X pins σ H' s'/\Q b H'
def AP(X:Cx)(pins:List (Addr×Obj))(σ:St)(Q:List V->Hp->Prop)(us:List Value)(s':Shared):Prop:=∃vs H',Inv X pins σ H' s'/\a5 vs us/\Q vs H'
def SP(X:Cx)(pins:List (Addr×Obj))(D:Ae)(f:Flow)(s':Shared):Prop:=
 match f with
 |.next=>∃σ' H',Inv X pins σ' H' s'/\D.nx σ' H'
 |.brk=>∃σ' H',Inv X pins σ' H' s'/\D.bk σ' H'
 |.cont=>∃σ' H',Inv X pins σ' H' s'/\D.ct σ' H'
 |.ret u=>∃v σ' H',Inv X pins σ' H' s'/\bN v u/\D.rt v H'
def PE(X:Cx)(e:Expr)(t:TE):Prop:=
 ∀(pins:List (Addr×Obj)) (s:Shared) (σ:St) (H:Hp) (Q:VK),Inv X pins σ H s->t σ H Q->wpAny (model X.prog X.w) X.A (eval e X.env) (EP X pins σ Q) X.xe s
def PT(X:Cx)(e:Expr)(t:TT):Prop:=
 ∀(pins:List (Addr×Obj)) (s:Shared) (σ:St) (H:Hp) (Q:Bool->Hp->Prop),Inv X pins σ H s->t σ H Q->wpAny (model X.prog X.w) X.A (isTrue e X.env (eval e X.env)) (TP X pins σ Q) X.xe s
def PW(X:Cx)(e:Expr)(t:TT):Prop:=
 ∀(whole:Sem Value) (pins:List (Addr×Obj)) (s:Shared) (σ:St) (H:Hp) (Q:Bool->Hp->Prop),Inv X pins σ H s->t σ H Q->wpAny (model X.prog X.w) X.A (isTrue e X.env whole) (TP X pins σ Q) X.xe s
theorem PW.pt{X:Cx}{e:Expr}{t:TT}(h:PW X e t):PT X e t:=h _
def PA(X:Cx)(es:List Expr)(t:TA):Prop:=
 ∀(pos:Pos) (pins:List (Addr×Obj)) (s:Shared) (σ:St) (H:Hp) (Q:List V->Hp->Prop),Inv X pins σ H s->t σ H Q->wpAny (model X.prog X.w) X.A (spliced (backTo pos (starEach es X.env))) (AP X pins σ Q) X.xe s
def PS(X:Cx)(st:Stmt)(t:TS):Prop:=
 ∀(pins:List (Addr×Obj)) (s:Shared) (σ:St) (H:Hp) (D:Ae),Inv X pins σ H s->t D σ H->wpAny (model X.prog X.w) X.A (exec st X.env) (SP X pins D) X.xe s
def PSs(X:Cx)(st:List Stmt)(t:TS):Prop:=
 ∀(pins:List (Addr×Obj)) (s:Shared) (σ:St) (H:Hp) (D:Ae),Inv X pins σ H s->t D σ H->wpAny (model X.prog X.w) X.A (execs st X.env) (SP X pins D) X.xe s
theorem thn{α:Type}{t:Sem α}{Q Q':α->Shared->Prop}{M:Model}{A:Around}{E:Value->Shared->Prop}{s:Shared}(h:wpAny M A t Q E s)(hQ:∀a s,Q a s->Q' a s):wpAny M A t Q' E s:=Z6 h hQ fun _ _ x=>x
section
variable{X:Cx}
def FY(i:Nat):TE:=fun σ H Q=>∃v,σ[i]?=some (some v)/\Q v H
def tC(v:V):TE:=fun _ H Q=>Q v H
theorem Eu{i:Nat}{x:Str}{pos:Pos}(hN:X.N[i]?=some x)(hv:Vis X.env.scope x)(hd:(x == ("__debug__":Str))=false:=by decide)(hcd:(x == ("__classdict__":Str))=false:=by decide):PE X (.Name x pos) (FY i):=by
 intro pins s σ H Q I h
 obtain⟨v,e,h⟩:=h
 obtain⟨m,hn,hl⟩:=I.loc
 obtain⟨u,r,l⟩:=hl i x v hN e hv
 have fin:EP X pins σ Q u s:=⟨v,H,I,r,h⟩
 rcases l with⟨hk,hm⟩|⟨hk,c,hc,hcell⟩
 ·exact wpAny_Name (wpAny_loadName_local I.ok.kind hk hn hm fin) hd
 ·rcases hk with hk|hk
  ·exact wpAny_Name (wpAny_loadName_cell I.ok.kind hk hc hcell fin) hd
  ·exact wpAny_Name (wpAny_loadName_free I.ok.kind hk hc hcell fin hcd) hd
theorem EC{i j pos}:PE X (.Constant (.int i) j pos) (tC (.int i)):=fun _ _ _ H _ I h=>wpAny_Constant_int ⟨.int i,H,I.tok _,⟨_,rfl⟩,h⟩
theorem Hf{b j pos}:PE X (.Constant (.bool b) j pos) (tC (.bl b)):=fun _ _ _ H _ I h=>Constant_bool ⟨.bl b,H,I,rfl,h⟩
def Gl(X:Cx)(x:Str):Prop:=X.env.kindOf x=some .globalImplicit
theorem Ce{E:Value->Shared->Prop}{pins:List (Addr×Obj)}{s:Shared}{σ:St}{H:Hp}{x:Str}{u:Value}{pos:Pos}{Q:Value->Shared->Prop}(I:Inv X pins σ H s)(hg:Gl X x)(hm:X.mg x=some u)(h:Q u s)
  (hd:(x == ("__debug__":Str))=false:=by decide):wpAny (model X.prog X.w) X.A (eval (.Name x pos) X.env) Q E s:=
 Calls.Name_function_global I.ok.kind hg (Calls.loadGlobal_global (by rw[I.ok.glob];exact I.mod.glob.keeps I.bk) hm h) hd
theorem gY{E:Value->Shared->Prop}{pins:List (Addr×Obj)}{s:Shared}{σ:St}{H:Hp}{x:Str}{u:Value}{pos:Pos}{Q:Value->Shared->Prop}(I:Inv X pins σ H s)(hg:Gl X x)(hm:X.mg x=none)(hv:bootBuiltins x=some u)(h:Q u s)
  (hn:x≠"__name__":=by decide) (hd:(x == ("__debug__":Str))=false:=by decide):wpAny (model X.prog X.w) X.A (eval (.Name x pos) X.env) Q E s:=by
 obtain⟨mb,h1,h2⟩:=I.mod.blt
 exact Calls.Name_function_global I.ok.kind hg (Calls.loadGlobal_builtin (by rw[I.ok.glob];exact I.mod.glob.keeps I.bk) hm (by rw[I.ok.blt];exact h1.keeps I.bk) ((h2 x hn).trans hv) h) hd
theorem BP{x:Str}{v:V}{u:Value}{pos:Pos}(hg:Gl X x)(hm:X.mg x=none)(hv:bootBuiltins x=some u)(r:bN v u)(hn:x≠"__name__":=by decide)(hd:(x == ("__debug__":Str))=false:=by decide):PE X (.Name x pos) (tC v):=
 fun _ _ _ H _ I h=>gY I hg hm hv ⟨v,H,I,r,h⟩ hn hd
variable{a b:Expr}{ta tb:TE}{pos:Pos}
def PC(X:Cx)(op:CmpOp)(a b:Expr)(t:TE):Prop:=
 ∀(pins:List (Addr×Obj)) (s:Shared) (σ:St) (H:Hp) (Q:VK),Inv X pins σ H s->t σ H Q->
  wpAny (model X.prog X.w) X.A (eval a X.env) (fun v s₁=>wpAny (model X.prog X.w) X.A (eval b X.env) (fun u s₂=>wpAny (model X.prog X.w) X.A (compareOp op v u) (EP X pins σ Q) X.xe s₂) X.xe s₁) X.xe s
def tB(t:TE):TT:=fun σ H Q=>t σ H fun x H1=>∃c,x=.bl c/\Q c H1
theorem El{op:CmpOp}{t:TE}(h:PC X op a b t)(h1:behindInMarks op b=false:=by first|exact nobehind _ (by decide) (by decide)|rfl):PT X (.Compare a [op] [b] pos) (tB t):=by
 intro pins s σ H Q I hw
 refine wpAny_isTrue_Compare1 (thn (h pins s σ H _ I hw) fun v s1 h1=>thn h1 fun u s2 h2=>thn h2 fun c s3 hz=>?_) h1
 obtain⟨x,H1,I1,r1,q1⟩:=hz
 obtain⟨d,rfl,q⟩:=q1
 cases r1
 exact wpAny_truthy_bool ⟨H1,I1,q⟩
theorem Ej{e:Expr}{t:TE}(h:PE X e t)(he:∀whole,isTrue e X.env whole=(do let v <-whole;standAt e.pos;holding [v] (truthy v)):=by intro _;rfl):PT X e (tB t):=by
 intro pins s σ H Q I hw
 refine isTrue_plain (thn (h pins s σ H _ I hw) fun v s1 ⟨x,H1,I1,r1,q1⟩=>?_) (he _)
 obtain⟨d,rfl,q⟩:=q1
 cases r1
 exact wpAny_truthy_bool ⟨H1,I1,q⟩
variable{tA tB':TT}{rest:List Expr}
def Ie(t u:TT):TT:=fun σ H Q=>t σ H fun c H1=>if c=true then u σ H1 Q else Q false H1
def tOr(t u:TT):TT:=fun σ H Q=>t σ H fun c H1=>if c=true then Q true H1 else u σ H1 Q
def HZ(t:TT):TT:=fun σ H Q=>t σ H fun c H1=>Q (!c) H1
theorem By(ha:PT X a tA):PW X (.BoolOp .And [a] pos) tA:=by
 intro wh pins s σ H Q I h
 refine isTrue_and (thn (ha pins s σ H Q I h) fun c s1 e=>?_)
 cases c with
 |true=>exact isTrue_and_nil e
 |false=>exact e
theorem Eg(ha:PT X a tA):PW X (.BoolOp .Or [a] pos) tA:=by
 intro wh pins s σ H Q I h
 refine isTrue_or (thn (ha pins s σ H Q I h) fun c s1 e=>?_)
 cases c with
 |false=>exact isTrue_or_nil e
 |true=>exact e
theorem Eh(ha:PT X a tA)(hb:PW X (.BoolOp .And (b::rest) pos) tB'):PW X (.BoolOp .And (a::b::rest) pos) (Ie tA tB'):=by
 intro wh pins s σ H Q I h
 refine isTrue_and (thn (ha pins s σ H _ I h) fun c s1 ⟨H1,I1,q1⟩=>?_)
 cases c with
 |true=>exact hb wh pins s1 σ H1 Q I1 q1
 |false=>exact⟨H1,I1,q1⟩
theorem G9(ha:PT X a tA)(hb:PW X (.BoolOp .Or (b::rest) pos) tB'):PW X (.BoolOp .Or (a::b::rest) pos) (tOr tA tB'):=by
 intro wh pins s σ H Q I h
 refine isTrue_or (thn (ha pins s σ H _ I h) fun c s1 ⟨H1,I1,q1⟩=>?_)
 cases c with
 |true=>exact⟨H1,I1,q1⟩
 |false=>exact hb wh pins s1 σ H1 Q I1 q1
theorem Ek(ha:PT X a tA):PT X (.UnaryOp .Not a pos) (HZ tA):=by
 intro pins s σ H Q I h
 exact isTrue_not (ha pins s σ H (fun c H1=>Q (!c) H1) I h)
def D1(ta tb:TE):TE:=fun σ H Q=>ta σ H fun x H1=>∃c,x=.bl c/\if c=true then tb σ H1 Q else Q (.bl false) H1
def DT(ta:TE):TE:=fun σ H Q=>ta σ H fun x H1=>∃c,x=.bl c/\Q (.bl (!c)) H1
theorem Ex{op}{t:TE}(h:PE X a t):PE X (.BoolOp op [a] pos) t:=fun pins s σ H Q I hw=>BoolOp_one (h pins s σ H Q I hw)
theorem ED(ha:PE X a ta)(hb:PE X (.BoolOp .And (b::rest) pos) tb):PE X (.BoolOp .And (a::b::rest) pos) (D1 ta tb):=by
 intro pins s σ H Q I h
 refine BoolOp_and (thn (ha pins s σ H _ I h) fun v s1 hz=>?_)
 obtain⟨x,H1,I1,r1,q1⟩:=hz
 obtain⟨c,rfl,q1⟩:=q1
 cases r1
 refine wpAny_truthy_bool ?_
 cases c with
 |true=>exact hb pins s1 σ H1 Q I1 q1
 |false=>exact⟨.bl false,H1,I1,rfl,q1⟩
theorem Ey(ha:PE X a ta):PE X (.UnaryOp .Not a pos) (DT ta):=by
 intro pins s σ H Q I h
 refine UnaryOp_ (thn (ha pins s σ H _ I h) fun v s1 hz=>?_)
 obtain⟨x,H1,I1,r1,q1⟩:=hz
 obtain⟨c,rfl,q1⟩:=q1
 cases r1
 exact not_of (wpAny_truthy_bool ⟨.bl (!c),H1,I1,rfl,q1⟩)
end
def SqL(K:Q5)(H:Hp)(a:Addr)(xs:List V):Prop:=
 Rd H a (.lst xs)\/
  ∃(o:Obj) (its:Array Value) (n:Nat),K.lookup a=some o/\o.cls=.type "list"/\o.dict=none/\o.data=.seq its n/\its.size<=sizeLine/\a5 xs its.toList
def SqT(K:Q5)(H:Hp)(a:Addr)(xs:List V):Prop:=
 Rd H a (.tup xs)\/
  ∃(o:Obj) (its:Array Value) (n:Nat),K.lookup a=some o/\o.cls=.type "tuple"/\o.data=.seq its n/\its.size<=sizeLine/\a5 xs its.toList
def Ji:Value->Option V
 |.none=>some .non
 |.bool b=>some (.bl b)
 |.int i _=>some (.int i)
 |.str x _=>some (.str x)
 |.bytes b _=>some (.byt b)
 |.float b _=>some (.flt b)
 |.ref a=>some (.ref a)
 |.type n=>some (.ty n)
 |_=>none
theorem bN.abs{x:V}{u:Value}(r:bN x u):Ji u=some x:=by
 cases x with
 |non=>cases r;rfl
 |bl _=>cases r;rfl
 |int _=>obtain⟨t,rfl⟩:=r;rfl
 |str _=>obtain⟨t,rfl⟩:=r;rfl
 |byt _=>obtain⟨t,rfl⟩:=r;rfl
 |flt _=>obtain⟨t,rfl⟩:=r;rfl
 |ref _=>cases r;rfl
 |ty _=>cases r;rfl
theorem bN.inj{x y:V}{u:Value}(r:bN x u)(q:bN y u):x=y:=Option.some.inj (r.abs.symm.trans q.abs)
theorem a5.inj:∀{xs ys:List V} {us:List Value},a5 xs us->a5 ys us->xs=ys
 |_,_,_,.nil,.nil=>rfl
 |_,_,_,.cons r t,.cons r' t'=>by rw[r.inj r',a5.inj t t']
section
variable{X:Cx}{pins:List (Addr×Obj)}{σ:St}{H:Hp}{s:Shared}{a:Addr}{xs ys:List V}
theorem SqL.of{K:Q5}(h:H a=some (.lst xs)):SqL K H a xs:=.inl (.inl h)
theorem SqT.of{K:Q5}(h:H a=some (.tup xs)):SqT K H a xs:=.inl (.inl h)
theorem Inv.list(I:Inv X pins σ H s)(h:SqL X.K H a xs):∃its:List Value,a5 xs its/\PlainL s.heap a its.toArray/\xs.length<=sizeLine:=by
 rcases h with h|⟨o,its,n,hk,hc,hd,hs,hz,r⟩
 ·obtain⟨z,its,n,r,e⟩:=h.ok I.hok
  exact⟨its,r,⟨_,n,e,rfl,rfl,rfl⟩,z⟩
 ·refine⟨its.toList,r,⟨o,n,I.kIn a o hk,hc,hd,by simpa using hs⟩,?_⟩
  have e:=r.length
  simp only[QH]at e
  omega
theorem Inv.tuple(I:Inv X pins σ H s)(h:SqT X.K H a xs):∃its:List Value,a5 xs its/\IsTup s.heap a its.toArray/\xs.length<=sizeLine:=by
 rcases h with h|⟨o,its,n,hk,hc,hs,hz,r⟩
 ·obtain⟨z,its,r,p⟩:=h.ok I.hok
  exact⟨its,r,p,z⟩
 ·refine⟨its.toList,r,⟨o,I.kIn a o hk,hc,n,by simpa using hs⟩,?_⟩
  have e:=r.length
  simp only[QH]at e
  omega
theorem Inv.list_inj(I:Inv X pins σ H s)(h:SqL X.K H a xs)(h':SqL X.K H a ys):xs=ys:=by
 obtain⟨its,r,⟨o,n,e,_,_,d⟩,_⟩:=I.list h
 obtain⟨its',r',⟨o',n',e',_,_,d'⟩,_⟩:=I.list h'
 rw[e]at e';cases e'
 rw[d]at d'
 injection d' with d1 _
 have:its=its':=by simpa using congrArg Array.toList d1
 subst this
 exact r.inj r'
theorem Inv.tuple_inj(I:Inv X pins σ H s)(h:SqT X.K H a xs)(h':SqT X.K H a ys):xs=ys:=by
 obtain⟨its,r,⟨o,e,_,n,d⟩,_⟩:=I.tuple h
 obtain⟨its',r',⟨o',e',_,n',d'⟩,_⟩:=I.tuple h'
 rw[e]at e';cases e'
 rw[d]at d'
 injection d' with d1 _
 have:its=its':=by simpa using congrArg Array.toList d1
 subst this
 exact r.inj r'
end
abbrev Cx.wish(X:Cx)(E:Value->Shared->Prop):Cx:={ X with xe:=E }
abbrev Cx.nox(X:Cx):Cx:=X.wish fun _ _=>False
theorem Cx.Ok.wish{X:Cx}(ok:X.Ok)(E:Value->Shared->Prop):(X.wish E).Ok:=
 ⟨ok.mod,ok.kind,ok.glob,ok.blt,ok.above,ok.inj,ok.has,ok.cab,ok.hd,ok.frames,ok.stk,ok.exf,ok.bs,ok.bsz,ok.noex,ok.exfs,ok.funs,ok.frf⟩
theorem Cx.Ok.unwish{X:Cx}{E:Value->Shared->Prop}(ok:(X.wish E).Ok):X.Ok:=
 ⟨ok.mod,ok.kind,ok.glob,ok.blt,ok.above,ok.inj,ok.has,ok.cab,ok.hd,ok.frames,ok.stk,ok.exf,ok.bs,ok.bsz,ok.noex,ok.exfs,ok.funs,ok.frf⟩
section
variable{X:Cx}{pins:List (Addr×Obj)}{σ:St}{H:Hp}{s:Shared}{E:Value->Shared->Prop}
theorem Inv.wish(I:Inv X pins σ H s)(E:Value->Shared->Prop):Inv (X.wish E) pins σ H s:=⟨I.ok.wish E,I.os,I.bare,I.base,I.loc,I.cell,I.free,I.freeC,I.pin,I.hok,I.len⟩
theorem Inv.unwish(I:Inv (X.wish E) pins σ H s):Inv X pins σ H s:=⟨I.ok.unwish,I.os,I.bare,I.base,I.loc,I.cell,I.free,I.freeC,I.pin,I.hok,I.len⟩
theorem SP.unwish{D:Ae}{f:Flow}{s':Shared}(h:SP (X.wish E) pins D f s'):SP X pins D f s':=by
 cases f with
 |next=>obtain⟨σ',H',I,q⟩:=h;exact⟨σ',H',I.unwish,q⟩
 |brk=>obtain⟨σ',H',I,q⟩:=h;exact⟨σ',H',I.unwish,q⟩
 |cont=>obtain⟨σ',H',I,q⟩:=h;exact⟨σ',H',I.unwish,q⟩
 |ret u=>obtain⟨v,σ',H',I,r,q⟩:=h;exact⟨v,σ',H',I.unwish,r,q⟩
theorem PSs.nox{st:List Stmt}{t:TS}(h:PSs X.nox st t):PSs X st t:=fun pins s σ H D I hw=>
 Z6 (h pins s σ H D (I.wish _) hw) (fun _ _ q=>q.unwish) fun _ _ z=>False.elim z
end
section
variable{X:Cx}{st:Stmt}{rest:List Stmt}{t u:TS}{e:Expr}{te:TE}{pos:Pos}
def DU:TS:=fun D σ H=>D.nx σ H
def HX(t u:TS):TS:=fun D σ H=>t { D with nx:=u D } σ H
theorem BB:PSs X [] DU:=fun _ _ σ H _ I h=>wpAny_execs_nil ⟨σ,H,I,h⟩
theorem xQ(h1:PS X st t)(h2:PSs X rest u):PSs X (st::rest) (HX t u):=by
 intro pins s σ H D I h
 refine wpAny_execs_cons (thn (h1 pins s σ H { D with nx:=u D } I h) fun f s1 q=>?_)
 cases f with
 |next=>
  obtain⟨σ',H',I',q⟩:=q
  exact h2 pins s1 σ' H' D I' q
 |ret v=>exact q
 |brk=>exact q
 |cont=>exact q
theorem BA(h1:PS X st t):PSs X [st] t:=by
 intro pins s σ H D I h
 refine wpAny_execs_cons (thn (h1 pins s σ H D I h) fun f s1 q=>?_)
 cases f with
 |next=>exact wpAny_execs_nil q
 |ret v=>exact q
 |brk=>exact q
 |cont=>exact q
theorem Inv.quiet{pins:List (Addr×Obj)}{σ:St}{H:Hp}{s:Shared}(I:Inv X pins σ H s):interactive X.env=false:=by simp[interactive,I.ok.kind]
def DV(te:TE):TS:=fun D σ H=>te σ H fun _ H1=>D.nx σ H1
theorem BC(he:PE X e te)(hs:swapsWith e none pos.line X.env=pure false:=by rfl):PS X (.Expr e pos) (DV te):=by
 intro pins s σ H D I h
 exact wpAny_Expr_any (thn (he pins s σ H _ I h) fun v s1 ⟨x,H1,I1,r1,q1⟩=>⟨σ,H1,I1,q1⟩) I.quiet hs
def HY(te:TE):TS:=fun D σ H=>te σ H D.rt
theorem En(he:PE X e te):PS X (.Return (some e) pos) (HY te):=by
 intro pins s σ H D I h
 exact wpAny_Return_some (thn (he pins s σ H _ I h) fun v s1 ⟨x,H1,I1,r1,q1⟩=>⟨x,σ,H1,I1,r1,q1⟩)
def Ib(c:TT)(t u:TS):TS:=fun D σ H=>c σ H fun b H1=>if b=true then t D σ H1 else u D σ H1
theorem Ha{c:Expr}{a b:List Stmt}{tc:TT}(hc:PT X c tc)(ha:PSs X a t)(hb:PSs X b u):PS X (.If c a b pos) (Ib tc t u):=by
 intro pins s σ H D I h
 refine wpAny_If (thn (hc pins s σ H _ I h) fun d s1 ⟨H1,I1,q1⟩=>?_)
 cases d with
 |true=>exact ha pins s1 σ H1 D I1 q1
 |false=>exact hb pins s1 σ H1 D I1 q1
end
abbrev TG:=V->St->Hp->(St->Hp->Prop)->Prop
abbrev TGs:=List V->St->Hp->(St->Hp->Prop)->Prop
def PG(X:Cx)(target:Expr)(t:TG):Prop:=
 ∀(pins:List (Addr×Obj)) (s:Shared) (σ:St) (H:Hp) (v:V) (u:Value) (Q:St->Hp->Prop),Inv X pins σ H s->bN v u->t v σ H Q->
  wpAny (model X.prog X.w) X.A (assign target X.env u) (fun _ s'=>∃σ' H',Inv X pins σ' H' s'/\Q σ' H') X.xe s
def PGs(X:Cx)(ts:List Expr)(t:TGs):Prop:=
 ∀(pins:List (Addr×Obj)) (s:Shared) (σ:St) (H:Hp) (vs:List V) (us:List Value) (Q:St->Hp->Prop),Inv X pins σ H s->a5 vs us->t vs σ H Q->
  wpAny (model X.prog X.w) X.A (assignInOrder ((assignEach ts X.env).map (·.2)) us) (fun _ s'=>∃σ' H',Inv X pins σ' H' s'/\Q σ' H') X.xe s
abbrev F9:=V->V->V->Hp->(Hp->Prop)->Prop
def HU(X:Cx)(t:F9):Prop:=
 ∀(pins:List (Addr×Obj)) (s:Shared) (σ:St) (H:Hp) (o i v:V) (ov iv u:Value) (Q:Hp->Prop),Inv X pins σ H s->bN o ov->bN i iv->bN v u->t o i v H Q->
  wpAny (model X.prog X.w) X.A (setItem ov iv u) (fun _ s'=>∃H',Inv X pins σ H' s'/\Q H') X.xe s
section
variable{X:Cx}{pos:Pos}
def sA(i:Nat):TG:=fun v σ H Q=>Q (σ.set i (some v)) H
theorem BL{i:Nat}{x:Str}(hN:X.N.Nodup)(hi:X.N[i]?=some x)(hx:Loc X.env.scope x)(hf:X.fn x=true\/X.env.scope.names.lookup x=some .local:=by first|exact .inl rfl|exact .inr rfl|assumption):PG X (.Name x pos) (sA i):=by
 intro pins s σ H v u Q I r h
 exact wpAny_assign_Name (pY I hN hi hx r (fun s' I'=>⟨_,H,I',h⟩) hf)
def IE:TGs:=fun vs σ H Q=>vs=[]/\Q σ H
def Fo(t:TG)(u:TGs):TGs:=fun vs σ H Q=>∃v r,vs=v::r/\t v σ H fun σ' H'=>u r σ' H' Q
theorem BK:PGs X [] IE:=by
 intro pins s σ H vs us Q I r h
 obtain⟨e,h⟩:=h
 subst e
 cases r
 exact assignInOrder_nil ⟨σ,H,I,h⟩
theorem xV{e:Expr}{es:List Expr}{t:TG}{u:TGs}(h1:PG X e t)(h2:PGs X es u)
  (hs:(assignEach (e::es) X.env).map (·.2)=assign e X.env::(assignEach es X.env).map (·.2):=by rfl):PGs X (e::es) (Fo t u):=by
 intro pins s σ H vs us Q I r h
 obtain⟨v,vr,e1,h⟩:=h
 subst e1
 cases r with
 |cons r rr=>
  rw[hs]
  refine assignInOrder_cons (thn (h1 pins s σ H _ _ _ I r h) fun _ s1 hz=>?_)
  obtain⟨σ1,H1,I1,q1⟩:=hz
  exact h2 pins s1 σ1 H1 _ _ Q I1 rr q1
def IC(K:Q5)(n:Nat)(t:TGs):TG:=fun v σ H Q=>∃a xs,v=.ref a/\SqT K H a xs/\xs.length=n/\t xs σ H Q
theorem Es{es:List Expr}{k:Nat}{t:TGs}{n:Nat}(hc:X.calm=true)(h:PGs X es t)
  (hn:(assignEach es X.env).length=n:=by rfl) (hst:(assignEach es X.env).findIdx? (·.1)=none:=by rfl):PG X (.Tuple es k pos) (IC X.K n t):=by
 intro pins s σ H v u Q I r hw
 obtain⟨a,xs,e1,hq,hl,hw⟩:=hw
 subst e1
 cases r
 obtain⟨its,rv,ht,hz⟩:=I.tuple hq
 refine assign_Tuple_tuple (I.ok.hd hc) ht (by simp[hn,<-hl,rv.length]) hst fun h' hx=>?_
 have I1:Inv X pins σ H { s with heap:=h' }:=I.kept (t':=s.toks) fun b o e=>hx b o (QC (QX e)) e
 exact h pins _ σ H xs _ Q I1 (by simpa using rv) hw
def ID(to ti:TE)(t:F9):TG:=fun v σ H Q=>to σ H fun o H1=>ti σ H1 fun i H2=>t o i v H2 fun H3=>Q σ H3
theorem Et{o i:Expr}{to ti:TE}{t:F9}(ho:PE X o to)(hi:PE X i ti)(hs:HU X t)
  (ha:∀v,assign (.Subscript o i pos) X.env v=(do
   let ov <-holding [v] (eval o X.env)
   let iv <-holding [v,ov] (eval i X.env)
   standAt pos
   holding [v,ov,iv] (setItem ov iv v)
   release [v,ov,iv] []):=by intro _;rfl):PG X (.Subscript o i pos) (ID to ti t):=by
 intro pins s σ H v u Q I r h
 rw[ha]
 refine Q2 (wpAny_holding (thn (ho pins s σ H _ I h) fun ov s1 hz=>?_))
 obtain⟨x,H1,I1,r1,q1⟩:=hz
 refine Q2 (wpAny_holding (thn (hi pins s1 σ H1 _ I1 q1) fun iv s2 hz=>?_))
 obtain⟨y,H2,I2,r2,q2⟩:=hz
 refine Q2 (wpAny_standAt (Q2 (wpAny_holding (thn (hs pins s2 σ H2 x y v ov iv u _ I2 r1 r2 r q2) fun _ s3 ⟨H3,I3,q3⟩=>?_))))
 exact wpAny_release ⟨σ,H3,I3,q3⟩
def D0(te:TE)(g:TG):TS:=fun D σ H=>te σ H fun x H1=>g x σ H1 D.nx
theorem Ep{tg e:Expr}{te:TE}{g:TG}(he:PE X e te)(hg:PG X tg g)(hs:swapsWithSole [tg] e pos.line X.env=pure false:=by rfl)(hw:swappedStores [tg] e X.env=pure none:=by rfl)
  (h1:(assignEach [tg] X.env).map (·.2)=[assign tg X.env]:=by rfl):PS X (.Assign [tg] e pos) (D0 te g):=by
 intro pins s σ H D I h
 refine wpAny_Assign_stores (thn (he pins s σ H _ I h) fun v s1 hz=>?_) hs hw
 obtain⟨x,H1,I1,r1,q1⟩:=hz
 rw[h1]
 exact thn (hg pins s1 σ H1 x v _ I1 r1 q1) fun _ s2 q=>q
theorem Em{i:Nat}{x:Str}{e:Expr}{te:TE}{pos':Pos}(hN:X.N.Nodup)(hi:X.N[i]?=some x)(hx:Loc X.env.scope x)(he:PE X e te)(hs:swapsWith e (some (.Name x pos')) pos.line X.env=pure false:=by rfl)(hf:X.fn x=true\/X.env.scope.names.lookup x=some .local:=by first|exact .inl rfl|exact .inr rfl|assumption) :
  PS X (.Assign [.Name x pos'] e pos) (D0 te (sA i)):=by
 intro pins s σ H D I h
 refine wpAny_Assign_Name (thn (he pins s σ H _ I h) fun v s1 hz=>?_) hs
 obtain⟨y,H1,I1,r1,q1⟩:=hz
 exact pY I1 hN hi hx r1 (fun s2 I2=>⟨_,H1,I2,q1⟩) hf
end
section
variable{X:Cx}{pos:Pos}
def tW(c:TT)(tb:TS):TS:=fun D σ H=>∃W:Nat->St->Hp->Prop,(∃m,W m σ H)/\∀m σ H,W m σ H->
 c σ H fun b H1=>if b=true then ∃N:St->Hp->Prop,(∀σ' H',N σ' H'->∃m',m'<m/\W m' σ' H')/\tb { D with nx:=N,ct:=N,bk:=D.nx } σ H1 else D.nx σ H1
theorem xR{c:Expr}{body:List Stmt}{tc:TT}{tb:TS}(hp:PassesOwn (model X.prog X.w) X.A X.env X.xe)(hc:PT X c tc)(hb:PSs X body tb):PS X (.While c body [] pos) (tW tc tb):=by
 intro pins s σ H D I h
 obtain⟨W,⟨m0,w0⟩,turn⟩:=h
 refine wpAny_While (codeAny_whileLoop (fun n s'=>∃σ' H',Inv X pins σ' H' s'/\W n σ' H') ?_ m0 ⟨σ,H,I,w0⟩)
 rintro n s1 ⟨σ1,H1,I1,w1⟩
 refine wpAny_passesOwn hp (thn (hc pins s1 σ1 H1 _ I1 (turn n σ1 H1 w1)) fun b s2 ⟨H2,I2,q2⟩=>?_)
 cases b with
 |true=>
  obtain⟨N,hN,q2⟩:=q2
  rw[if_pos rfl]
  refine wpAny_passesOwn hp (thn (hb pins s2 σ1 H2 _ I2 q2) fun f s3 q3=>?_)
  cases f with
  |next=>
   obtain⟨σ3,H3,I3,n3⟩:=q3
   obtain⟨m',hm,w3⟩:=hN σ3 H3 n3
   exact⟨m',hm,σ3,H3,I3,w3⟩
  |cont=>
   obtain⟨σ3,H3,I3,n3⟩:=q3
   obtain⟨m',hm,w3⟩:=hN σ3 H3 n3
   exact⟨m',hm,σ3,H3,I3,w3⟩
  |brk=>exact q3
  |ret v=>exact q3
 |false=>
  rw[if_neg QF]
  exact wpAny_execs_nil ⟨σ1,H2,I2,q2⟩
end
structure It where
 go:Nat->Hp->Prop
 yld:Nat->Hp->V->Hp->Prop
 stop:Nat->Hp->Prop
def pL(X:Cx)(pins:List (Addr×Obj))(H:Hp)(b:Addr):Prop:=
 H b=none/\b≠X.env.locals/\b∉X.fs/\(b∈X.ex\/X.s₀.heap.objs.size<=b)/\(∀x c,X.env.cells.lookup x=some c->c≠b)/\∀p∈X.pn++pins,p.1≠b
theorem Inv.fpOk{X:Cx}{pins:List (Addr×Obj)}{σ:St}{H H':Hp}{s:Shared}{b:Addr}(I:Inv X pins σ H s)(hb:s.heap.objs.size<=b)(hn:H' b=none):pL X pins H' b:=by
 refine⟨hn,ZS (Qq I.lt hb),I.nofs hb,.inr (Qy I.sz hb),fun x c e z=>?_,fun p hp z=>?_⟩
 ·obtain⟨v,q⟩:=I.cell x c e
  exact absurd (Qq q.lt (by rw[z];exact hb)) (Nat.lt_irrefl _)
 ·exact absurd (Qq (QX (I.pin p hp).1) (by rw[z];exact hb)) (Nat.lt_irrefl _)
structure C5(P:Program)(w:World)(K:Q5)(tg:Expr)(J:It)(fp:List Addr)(it:Addr)(tn:Nat->Heap->Prop):Prop where
 mem:it∈fp
 obj:∀i h,tn i h->∀b∈fp,∃o,h.get? b=some o/\∀v,o.data≠.cell v
 keep:∀i h h',tn i h->(∀b∈fp,∀o,h.get? b=some o->h'.get? b=some o)->tn i h'
 item:∀(X:Cx),X.prog=P->X.w=w->X.K=K->X.calm=true->∀(i:Nat) (pins:List (Addr×Obj)) (s:Shared) (σ:St) (H:Hp) (E:Value->Shared->Prop),Inv X pins σ H s->(∀b∈fp,pL X pins H b)->tn i s.heap->J.go i H->
  wpAny (model P w) X.A (pyNext (.ref it)) (fun r s1=>∃u,r=some u/\
   wpAny (model P w) X.A (letOwnedTupleGo tg (.ref it) u) (fun _ s2=>∃x H',Inv X pins σ H' s2/\bN x u/\J.yld i H x H'/\tn (i+1) s2.heap/\∀b∈fp,H' b=none) E s1) E s
 done:∀(X:Cx),X.prog=P->X.w=w->X.K=K->X.calm=true->∀(i:Nat) (pins:List (Addr×Obj)) (s:Shared) (σ:St) (H:Hp) (E:Value->Shared->Prop),Inv X pins σ H s->(∀b∈fp,pL X pins H b)->tn i s.heap->J.stop i H->
  wpAny (model P w) X.A (pyNext (.ref it)) (fun r s1=>r=none/\Inv X pins σ H s1) E s
 self:∀(A:Around) (i:Nat) (s:Shared) (Q:Value->Shared->Prop) (E:Value->Shared->Prop),tn i s.heap->Q (.ref it) s->wpAny (model P w) A (pyIter (.ref it)) Q E s
abbrev TI:=St->Hp->(It->Hp->Prop)->Prop
def PIE(X:Cx)(pins:List (Addr×Obj))(σ:St)(tg:Expr)(R:It->Hp->Prop)(itv:Value)(s2:Shared):Prop:=
 ∃(it:Addr) (fp:List Addr) (tn:Nat->Heap->Prop) (J:It) (H':Hp),itv=.ref it/\Inv X pins σ H' s2/\C5 X.prog X.w X.K tg J fp it tn/\tn 0 s2.heap/\(∀b∈fp,pL X pins H' b)/\R J H'
def PI(X:Cx)(tg iter:Expr)(wi:TI):Prop:=
 ∀(pins:List (Addr×Obj)) (s:Shared) (σ:St) (H:Hp) (R:It->Hp->Prop),Inv X pins σ H s->wi σ H R->
  wpAny (model X.prog X.w) X.A (eval iter X.env) (fun v s1=>wpAny (model X.prog X.w) X.A (pyIter v) (PIE X pins σ tg R) X.xe s1) X.xe s
theorem yK {M : Model} {A : Around} {E : Value -> Shared -> Prop} {s : Shared} {tg : Expr} {it : Addr} {u : Value} {o : Obj} {n : String} {vs : Array Value} {Q : Unit -> Shared -> Prop} (ho : s.heap.get? it = some o) (hc : o.cls = .type n) (hd : o.data = .fields vs)
    (hn:["enumerate","zip","dict_itemiterator","dict_reverseitemiterator","odict_iterator","itertools.zip_longest","itertools.pairwise"].contains n=false) (hQ:Q () s):wpAny M A (letOwnedTupleGo tg (.ref it) u) Q E s:=by
  unfold letOwnedTupleGo
  cases tg<;>first
    |exact Q8 hQ
    | (cases u <;> first
        |exact Q8 hQ
        | (refine Q2 (wpAny_load ho ?_)
           rw[hc,hd]
           show wpAny M A (if (["enumerate","zip","dict_itemiterator","dict_reverseitemiterator","odict_iterator","itertools.zip_longest","itertools.pairwise"].contains n&&vs[0]? == some (rawInt _))=true then _ else _) Q E s
           rw[if_neg (by intro h;rw[hn,Bool.false_and]at h;cases h)]
           exact Q8 hQ))
def Itl(K:Q5)(a:Addr):It:=
 ⟨fun i H=>∃xs x,SqL K H a xs/\xs[i]?=some x,fun i H x H'=>H'=H/\∀xs,SqL K H a xs->xs[i]?=some x,fun i H=>∃xs,SqL K H a xs/\xs.length<=i⟩
def Itt(K:Q5)(a:Addr):It:=
 ⟨fun i H=>∃xs x,SqT K H a xs/\xs[i]?=some x,fun i H x H'=>H'=H/\∀xs,SqT K H a xs->xs[i]?=some x,fun i H=>∃xs,SqT K H a xs/\xs.length<=i⟩
def Itr(lo:Int)(n:Nat):It:=⟨fun i _=>i<n,fun i H x H'=>H'=H/\x=.int (lo+i),fun i _=>n<=i⟩
theorem tU{P:Program}{w:World}{K:Q5}{tg:Expr}(a it:Addr):C5 P w K tg (Itl K a) [it] it (fun i h=>h.IsListIter it a i) where
 mem:=by simp
 obj:=fun i h st b hb=>by
  have e:b=it:=by simpa using hb
  subst e
  obtain⟨o,e,c,d⟩:=st
  exact⟨o,e,fun v z=>by rw[d]at z;cases z⟩
 keep:=fun i h h' st k=>st.at fun o e=>k it (by simp) o e
 item:=by
  intro X hP hw hK hc i pins s σ H E I hf st hg
  subst hP hw hK
  obtain⟨xs,x,hq,hx⟩:=hg
  obtain⟨its,rv,p,hz⟩:=I.list hq
  obtain⟨u,hu,ru⟩:=rv.get hx
  obtain⟨f0,f1,f2,f3,f4,f5⟩:=hf it (by simp)
  refine wpAny_pyNext_list_item st p.isList (x:=u) (by simpa using hu) fun h' st' sb=>?_
  have I1:Inv X pins σ H { s with heap:=h' }:=I.turned (t':=s.toks) (fun b o hb e=>(sb.2 b hb).trans e) f0 f1 f3 f4 f5
  obtain⟨o,e,c,d⟩:=id st'
  exact⟨u,rfl,yK (s:={ s with heap:=h' }) e c d (by decide) ⟨x,H,I1,ru,⟨rfl,fun ys hy=>by rw[I.list_inj hy hq];exact hx⟩,st',fun b hb=>(hf b hb).1⟩⟩
 done:=by
  intro X hP hw hK hc i pins s σ H E I hf st hg
  subst hP hw hK
  obtain⟨xs,hq,hx⟩:=hg
  obtain⟨its,rv,p,hz⟩:=I.list hq
  obtain⟨f0,f1,f2,f3,f4,f5⟩:=hf it (by simp)
  have hl:=rv.length
  exact wpAny_pyNext_list_end (I.ok.hd hc) st p.isList (by simp;omega) fun h' eb=>⟨rfl,I.turned (t':=s.toks) (fun b o hb e=>eb b o hb e) f0 f1 f3 f4 f5⟩
 self:=fun _ _ _ _ _ st h=>wpAny_pyIter_listiter st h
theorem rQ{P:Program}{w:World}{K:Q5}{tg:Expr}(a it:Addr):C5 P w K tg (Itt K a) [it] it (fun i h=>h.IsTupleIter it a i) where
 mem:=by simp
 obj:=fun i h st b hb=>by
  have e:b=it:=by simpa using hb
  subst e
  obtain⟨o,e,c,d⟩:=st
  exact⟨o,e,fun v z=>by rw[d]at z;cases z⟩
 keep:=fun i h h' st k=>st.at fun o e=>k it (by simp) o e
 item:=by
  intro X hP hw hK hc i pins s σ H E I hf st hg
  subst hP hw hK
  obtain⟨xs,x,hq,hx⟩:=hg
  obtain⟨its,rv,p,hz⟩:=I.tuple hq
  obtain⟨u,hu,ru⟩:=rv.get hx
  obtain⟨f0,f1,f2,f3,f4,f5⟩:=hf it (by simp)
  refine wpAny_pyNext_tuple_item st (show s.heap.IsTuple a its.toArray from p) (x:=u) (by simpa using hu) fun h' st' sb=>?_
  have I1:Inv X pins σ H { s with heap:=h' }:=I.turned (t':=s.toks) (fun b o hb e=>(sb.2 b hb).trans e) f0 f1 f3 f4 f5
  obtain⟨o,e,c,d⟩:=id st'
  exact⟨u,rfl,yK (s:={ s with heap:=h' }) e c d (by decide) ⟨x,H,I1,ru,⟨rfl,fun ys hy=>by rw[I.tuple_inj hy hq];exact hx⟩,st',fun b hb=>(hf b hb).1⟩⟩
 done:=by
  intro X hP hw hK hc i pins s σ H E I hf st hg
  subst hP hw hK
  obtain⟨xs,hq,hx⟩:=hg
  obtain⟨its,rv,p,hz⟩:=I.tuple hq
  obtain⟨f0,f1,f2,f3,f4,f5⟩:=hf it (by simp)
  have hl:=rv.length
  exact wpAny_pyNext_tuple_end (I.ok.hd hc) st (show s.heap.IsTuple a its.toArray from p) (by simp;omega) fun h' eb=>⟨rfl,I.turned (t':=s.toks) (fun b o hb e=>eb b o hb e) f0 f1 f3 f4 f5⟩
 self:=fun _ _ _ _ _ st h=>wpAny_pyIter_tupleiter st h
theorem rR{P:Program}{w:World}{K:Q5}{tg:Expr}(it:Addr)(lo:Int)(n:Nat):C5 P w K tg (Itr lo n) [it] it (fun i h=>IsRangeIter h it (lo+(i:Nat)*1) ((n:Int)-(i:Nat)) 1) where
 mem:=by simp
 obj:=fun i h st b hb=>by
  have e:b=it:=by simpa using hb
  subst e
  exact⟨_,st,fun v z=>by
   have z':Data.fields _=Data.cell v:=z
   cases z'⟩
 keep:=fun i h h' st k=>k it (by simp) _ st
 item:=by
  intro X hP hw hK hc i pins s σ H E I hf st hg
  subst hP hw hK
  obtain⟨f0,f1,f2,f3,f4,f5⟩:=hf it (by simp)
  have W:=Walks.range (prog:=X.prog) (w:=X.w) (I.ok.hd hc) it lo 1 n
  refine W.item i s _ _ hg st fun v h' tk hv st' kk=>?_
  obtain⟨t,rfl⟩:=hv
  have I1:Inv X pins σ H { s with heap:=h',toks:=tk }:=I.turned (fun b o hb e=>kk b o (by simpa using hb) e) f0 f1 f3 f4 f5
  refine⟨_,rfl,yK (s:={ s with heap:=h',toks:=tk }) (n:="range_iterator") st' rfl rfl (by decide) ⟨.int (lo+i),H,I1,⟨t,?_⟩,⟨rfl,rfl⟩,st',fun b hb=>(hf b hb).1⟩⟩
  rw[Int.mul_one]
 done:=by
  intro X hP hw hK hc i pins s σ H E I hf st hg
  subst hP hw hK
  obtain⟨f0,f1,f2,f3,f4,f5⟩:=hf it (by simp)
  exact wpAny_pyNext_range_end (I.ok.hd hc) st (by have:n<=i:=hg;omega) fun h' eb=>⟨rfl,I.turned (t':=s.toks) (fun b o hb e=>eb b o hb e) f0 f1 f3 f4 f5⟩
 self:=fun _ _ _ _ _ st h=>wpAny_pyIter_rangeiter st h
section
variable{X:Cx}{tg:Expr}
def Fm(K:Q5)(tl:TE):TI:=fun σ H R=>tl σ H fun x H1=>∃a,x=.ref a/\(∃xs,SqL K H1 a xs)/\R (Itl K a) H1
def IB(K:Q5)(tl:TE):TI:=fun σ H R=>tl σ H fun x H1=>∃a,x=.ref a/\(∃xs,SqT K H1 a xs)/\R (Itt K a) H1
theorem BJ{l:Expr}{tl:TE}(hl:PE X l tl):PI X tg l (Fm X.K tl):=by
 intro pins s σ H R I h
 refine thn (hl pins s σ H _ I h) fun v s1 hz=>?_
 obtain⟨x,H1,I1,r1,q1⟩:=hz
 obtain⟨a,e,⟨xs,hq⟩,q⟩:=q1
 subst e
 cases r1
 obtain⟨its,rv,p,hz⟩:=I1.list hq
 refine wpAny_pyIter_list p.isList ?_
 refine⟨s1.heap.objs.size,[s1.heap.objs.size],_,_,H1,rfl,I1.kept (t':=s1.toks) fun b o e=>Q4 _ e,tU a _,⟨_,QY _ rfl,rfl,rfl⟩,fun b hb=>?_,q⟩
 have e:b=s1.heap.objs.size:=by simpa using hb
 subst e
 exact I1.fpOk (QJ _) (I1.hok.fresh (QJ _))
theorem Er{l:Expr}{tl:TE}(hl:PE X l tl):PI X tg l (IB X.K tl):=by
 intro pins s σ H R I h
 refine thn (hl pins s σ H _ I h) fun v s1 hz=>?_
 obtain⟨x,H1,I1,r1,q1⟩:=hz
 obtain⟨a,e,⟨xs,hq⟩,q⟩:=q1
 subst e
 cases r1
 obtain⟨its,rv,p,hz⟩:=I1.tuple hq
 refine wpAny_pyIter_tuple (show s1.heap.IsTuple a its.toArray from p) ?_
 refine⟨s1.heap.objs.size,[s1.heap.objs.size],_,_,H1,rfl,I1.kept (t':=s1.toks) fun b o e=>Q4 _ e,rQ a _,⟨_,QY _ rfl,rfl,rfl⟩,fun b hb=>?_,q⟩
 have e:b=s1.heap.objs.size:=by simpa using hb
 subst e
 exact I1.fpOk (QJ _) (I1.hok.fresh (QJ _))
theorem xJ{pins:List (Addr×Obj)}{σ:St}{H:Hp}{s:Shared}{R:It->Hp->Prop}{E:Value->Shared->Prop}{lo hi:Int}{t u v:Tok}{tk:Nat}(I:Inv X pins σ H s)(h1:-(2^62)<=lo)(h2:lo<2^62)(h3:-(2^62)<=hi)(h4:hi<2^62)
  (q:R (Itr lo (hi-lo).toNat) H):wpAny (model X.prog X.w) X.A (pyIter (.ref s.heap.objs.size)) (PIE X pins σ tg R) E { s with heap:=s.heap.push { cls:=.type "range",data:=.fields #[.int lo t,.int hi u,.int 1 v] },toks:=tk }:=by
 refine wpAny_pyIter_range (IsRange.new ..) (small_one h1 h2 h3 h4) ?_
 have I1:Inv X pins σ H { s with heap:=s.heap.push { cls:=.type "range",data:=.fields #[.int lo t,.int hi u,.int 1 v] },toks:=tk }:=I.kept fun b o e=>Q4 _ e
 refine⟨(s.heap.push { cls:=.type "range",data:=.fields #[.int lo t,.int hi u,.int 1 v] }).objs.size,[(s.heap.push { cls:=.type "range",data:=.fields #[.int lo t,.int hi u,.int 1 v] }).objs.size],_,_,H,rfl,
  I1.kept (t':=tk) fun b o e=>Q4 _ e,rR _ lo (hi-lo).toNat,?_,fun b hb=>?_,q⟩
 ·have e1:lo+((0:Nat):Int)*1=lo:=by simp
  have e2:(((hi-lo).toNat:Nat):Int)-((0:Nat):Int)=Builtin.Range.rangeSize lo hi 1:=by rw[rangeSize_one];split<;>omega
  show IsRangeIter _ _ (lo+((0:Nat):Int)*1) ((((hi-lo).toNat:Nat):Int)-((0:Nat):Int)) 1
  rw[e1,e2]
  exact QY _ rfl
 ·have e:b=(s.heap.push { cls:=.type "range",data:=.fields #[.int lo t,.int hi u,.int 1 v] }).objs.size:=by simpa using hb
  subst e
  exact I1.fpOk (QJ _) (I1.hok.fresh (QJ _))
def Fl(ta:TA):TI:=fun σ H R=>ta σ H fun vs H1=>∃j:Int,vs=[.int j]/\-(2^62)<=j/\j<2^62/\R (Itr 0 j.toNat) H1
theorem uO{a:Expr}{ta:TA}{p pos:Pos}(hg:Gl X "range")(hm:X.mg "range"=none)(ha:PA X [a] ta)(hs:starEach [a] X.env=[(false,eval a X.env)]:=by rfl):PI X tg (.Call (.Name "range" p) [a] [] pos) (Fl ta):=by
 intro pins s σ H R I h
 refine Call_ (gY I hg hm boot_range (PyProof.Rows.callWith_type1 (thn (ha pos pins s σ H _ I h) fun us s1 ⟨vs,H1,I1,r1,q1⟩=>?_) hs rfl))
 obtain⟨j,e,q1,q2,q⟩:=q1
 subst e
 cases r1 with
 |cons r rr=>
  cases rr
  obtain⟨t,rfl⟩:=r
  exact call_range_1 (xJ I1 (by omega) (by omega) q1 q2 (by simpa using q))
def GL(wi:TI)(g:TG)(tb:TS):TS:=fun D σ H=>wi σ H fun J H1=>∃W:Nat->Nat->St->Hp->Prop,(∃m,W 0 m σ H1)/\∀i m σ H,W i m σ H->
 (J.stop i H/\D.nx σ H)\/(J.go i H/\∃N:St->Hp->Prop,(∀σ' H',N σ' H'->∃m',m'<m/\W (i+1) m' σ' H')/\∀x H',J.yld i H x H'->g x σ H' fun σ2 H2=>tb { D with nx:=N,ct:=N,bk:=D.nx } σ2 H2)
def qz(fp:List Addr)(h:Heap):List (Addr×Obj):=fp.filterMap fun b=>(h.get? b).map fun o=>(b,o)
theorem cf{fp:List Addr}{h:Heap}{b:Addr}{o:Obj}(hb:b∈fp)(e:h.get? b=some o):(b,o)∈qz fp h:=List.mem_filterMap.mpr ⟨b,hb,by rw[e];rfl⟩
theorem uX{fp:List Addr}{h:Heap}{p:Addr×Obj}(hp:p∈qz fp h):p.1∈fp/\h.get? p.1=some p.2:=by
 obtain⟨b,hb,e⟩:=List.mem_filterMap.mp hp
 cases q:h.get? b with
 |none=>rw[q]at e;cases e
 |some o=>
  rw[q]at e
  have e':(b,o)=p:=Option.some.inj e
  subst e'
  exact⟨hb,q⟩
theorem Inv.pinned{pins:List (Addr×Obj)}{σ:St}{H:Hp}{s:Shared}{fp:List Addr}(I:Inv X pins σ H s)(hf:∀b∈fp,pL X pins H b)(ho:∀b∈fp,∃o,s.heap.get? b=some o/\∀v,o.data≠.cell v):Inv X (pins++qz fp s.heap) σ H s:=
 I.pins_of fun p hp=>(Qt.mp hp).elim (fun z=>I.pin p (Qr _ z)) fun z=>by
  obtain⟨hb,e⟩:=uX z
  obtain⟨f0,f1,f2,_⟩:=hf p.1 hb
  obtain⟨o,e',d⟩:=ho p.1 hb
  rw[e]at e';cases e'
  exact⟨e,f0,f1,f2,d⟩
theorem Inv.unpinned{pins pl:List (Addr×Obj)}{σ:St}{H:Hp}{s:Shared}(I:Inv X (pins++pl) σ H s):Inv X pins σ H s:=I.pins_of fun p hp=>I.pin p (Qr _ (List.mem_append_left _ hp))
theorem Eo{iter:Expr}{body:List Stmt}{wi:TI}{g:TG}{tb:TS}{pos:Pos}(hp:PassesOwn (model X.prog X.w) X.A X.env X.xe)(hc:X.calm=true)(hi:PI X tg iter wi)(hg:PG X tg g)(hb:PSs X body tb)
  (hs:∀x,foldedSetIterable iter X.env x=pure x:=by intro _;rfl):PS X (.For tg iter body [] pos) (GL wi g tb):=by
 intro pins s σ H D I h
 refine wpAny_For (thn (hi pins s σ H _ I h) fun v s1 h1=>thn h1 fun itv s2 h2=>?_) hs
 obtain⟨it,fp,tn,J,H2,e,I2,T,st2,f2,W,⟨m0,w0⟩,turn⟩:=h2
 subst e
 have stat:∀{H':Hp},(∀b∈fp,H' b=none)->∀b∈fp,pL X pins H' b:=fun hn b hb=>⟨hn b hb,(f2 b hb).2⟩
 refine codeAny_forLoop_any (fun n s'=>∃i σ' H',Inv X pins σ' H' s'/\tn i s'.heap/\(∀b∈fp,H' b=none)/\W i n σ' H') ?_ m0 ⟨0,σ,H2,I2,st2,fun b hb=>(f2 b hb).1,w0⟩
 rintro n s3 ⟨i,σ3,H3,I3,st3,fr3,w3⟩
 rcases turn i n σ3 H3 w3 with⟨stop,qn⟩|⟨go,N,hN,step⟩
 ·refine wpAny_passesOwn hp (thn (T.done X rfl rfl rfl hc i pins s3 σ3 H3 X.xe I3 (stat fr3) st3 stop) fun r s4 ⟨hr,I4⟩=>?_)
  subst hr
  exact wpAny_execs_nil ⟨σ3,H3,I4,qn⟩
 ·refine wpAny_passesOwn hp (thn (T.item X rfl rfl rfl hc i pins s3 σ3 H3 X.xe I3 (stat fr3) st3 go) fun r s4 ⟨u,hr,h4⟩=>?_)
  subst hr
  refine wpAny_passesOwn hp (thn h4 fun _ s5 hz=>?_)
  obtain⟨x,H5,I5,r5,y5,st5,fr5⟩:=hz
  have I5':=I5.pinned (stat fr5) (T.obj _ _ st5)
  refine wpAny_passesOwn hp (thn (hg _ s5 σ3 H5 x u _ I5' r5 (step x H5 y5)) fun _ s6 hz=>?_)
  obtain⟨σ6,H6,I6,q6⟩:=hz
  refine wpAny_passesOwn hp (thn (hb _ s6 σ6 H6 _ I6 q6) fun f s7 q7=>?_)
  have again:∀{σ7:St} {H7:Hp},Inv X (pins++qz fp s5.heap) σ7 H7 s7->N σ7 H7->∃m,m<n/\∃i σ' H',Inv X pins σ' H' s7/\tn i s7.heap/\(∀b∈fp,H' b=none)/\W i m σ' H':=fun{σ7 H7} I7 n7=>by
   obtain⟨m',hm,w7⟩:=hN σ7 H7 n7
   refine⟨m',hm,i+1,σ7,H7,I7.unpinned,T.keep _ _ _ st5 fun b hb o e=>(I7.pin (b,o) (Qr _ (Qr _ (cf hb e)))).1,fun b hb=>?_,w7⟩
   obtain⟨o,e,d⟩:=T.obj _ _ st5 b hb
   exact(I7.pin (b,o) (Qr _ (Qr _ (cf hb e)))).2.1
  cases f with
  |next=>obtain⟨σ7,H7,I7,n7⟩:=q7;exact again I7 n7
  |cont=>obtain⟨σ7,H7,I7,n7⟩:=q7;exact again I7 n7
  |brk=>obtain⟨σ7,H7,I7,q7⟩:=q7;exact⟨σ7,H7,I7.unpinned,q7⟩
  |ret v=>obtain⟨x7,σ7,H7,I7,r7,q7⟩:=q7;exact⟨x7,σ7,H7,I7.unpinned,r7,q7⟩
end
abbrev R2:=V->V->Hp->VK->Prop
def OpR(X:Cx)(f:Value->Value->Sem Value)(r:R2):Prop:=
 ∀(pins:List (Addr×Obj)) (s:Shared) (σ:St) (H:Hp) (x y:V) (v u:Value) (Q:VK),Inv X pins σ H s->bN x v->bN y u->r x y H Q->
  wpAny (model X.prog X.w) X.A (f v u) (EP X pins σ Q) X.xe s
def UnR(X:Cx)(f:Value->Sem Value)(r:V->Hp->VK->Prop):Prop:=
 ∀(pins:List (Addr×Obj)) (s:Shared) (σ:St) (H:Hp) (x:V) (v:Value) (Q:VK),Inv X pins σ H s->bN x v->r x H Q->
  wpAny (model X.prog X.w) X.A (f v) (EP X pins σ Q) X.xe s
def cG(X:Cx)(f:Value)(r:List V->Hp->VK->Prop):Prop:=
 ∀(pins:List (Addr×Obj)) (s:Shared) (σ:St) (H:Hp) (xs:List V) (us:List Value) (Q:VK),Inv X pins σ H s->a5 xs us->r xs H Q->
  wpAny (model X.prog X.w) X.A (call f us) (EP X pins σ Q) X.xe s
def tOp(r:R2)(ta tb:TE):TE:=fun σ H Q=>ta σ H fun x H1=>tb σ H1 fun y H2=>r x y H2 Q
def tUn(r:V->Hp->VK->Prop)(ta:TE):TE:=fun σ H Q=>ta σ H fun x H1=>r x H1 Q
def rI(C:Int->Int->Prop)(g:Int->Int->V):R2:=fun x y H Q=>∃i j,x=.int i/\y=.int j/\C i j/\Q (g i j) H
def rI0(g:Int->Int->V):R2:=fun x y H Q=>∃i j,x=.int i/\y=.int j/\Q (g i j) H
def rU(g:Int->V):V->Hp->VK->Prop:=fun x H Q=>∃i,x=.int i/\Q (g i) H
section
variable{X:Cx}{a b c:Expr}{ta tb tc:TE}{pos:Pos}
theorem HP(ha:PE X a ta)(hb:PE X b tb){pins:List (Addr×Obj)}{s:Shared}{σ:St}{H:Hp}{R:V->V->Hp->Prop}(I:Inv X pins σ H s)
  (h:ta σ H fun x H1=>tb σ H1 fun y H2=>R x y H2) {Q:Value->Shared->Prop} {f:Value->Value->Sem Value}
  (hf:∀v u s2 x y H2,Inv X pins σ H2 s2->bN x v->bN y u->R x y H2->wpAny (model X.prog X.w) X.A (f v u) Q X.xe s2) :
  wpAny (model X.prog X.w) X.A (eval a X.env) (fun v s₁=>wpAny (model X.prog X.w) X.A (eval b X.env) (fun u s₂=>wpAny (model X.prog X.w) X.A (f v u) Q X.xe s₂) X.xe s₁) X.xe s:=by
 refine thn (ha pins s σ H _ I h) fun v s1 hz=>?_
 obtain⟨x,H1,I1,r1,q1⟩:=hz
 refine thn (hb pins s1 σ H1 _ I1 q1) fun u s2 hz=>?_
 obtain⟨y,H2,I2,r2,q2⟩:=hz
 exact hf v u s2 x y H2 I2 r1 r2 q2
theorem Hc{op:Operator}{r:R2}(ho:OpR X (binaryOp op) r)(ha:PE X a ta)(hb:PE X b tb):PE X (.BinOp a op b pos) (tOp r ta tb):=by
 intro pins s σ H Q I h
 exact wpAny_BinOp (HP ha hb I h fun v u s2 x y H2 I2 rx ry q=>ho pins s2 σ H2 x y v u Q I2 rx ry q)
theorem Hb{op:UnaryOp}{r:V->Hp->VK->Prop}(ho:UnR X (unaryOp op) r)(ha:PE X a ta):PE X (.UnaryOp op a pos) (tUn r ta):=by
 intro pins s σ H Q I h
 exact UnaryOp_ (thn (ha pins s σ H _ I h) fun v s1 ⟨x,H1,I1,r1,q1⟩=>ho pins s1 σ H1 x v Q I1 r1 q1)
theorem opI{f:Value->Value->Sem Value}{C:Int->Int->Prop}{g:Int->Int->Int}
  (rule:∀(i j:Int) (t u:Tok) (s:Shared) (Q:Value->Shared->Prop) (E:Value->Shared->Prop),C i j->Q (.int (g i j) s.toks) { s with toks:=s.toks+1 }->wpAny (model X.prog X.w) X.A (f (.int i t) (.int j u)) Q E s) :
  OpR X f (rI C fun i j=>.int (g i j)):=by
 intro pins s σ H x y v u Q I rx ry h
 obtain⟨i,j,rfl,rfl,hc,q⟩:=h
 obtain⟨t,rfl⟩:=rx
 obtain⟨t',rfl⟩:=ry
 exact rule i j t t' s _ _ hc ⟨.int (g i j),H,I.tok _,⟨_,rfl⟩,q⟩
theorem Il{f:Value->Value->Sem Value}{g:Int->Int->Int}
  (rule:∀(i j:Int) (t u:Tok) (s:Shared) (Q:Value->Shared->Prop) (E:Value->Shared->Prop),Q (.int (g i j) s.toks) { s with toks:=s.toks+1 }->wpAny (model X.prog X.w) X.A (f (.int i t) (.int j u)) Q E s) :
  OpR X f (rI0 fun i j=>.int (g i j)):=by
 intro pins s σ H x y v u Q I rx ry h
 obtain⟨i,j,rfl,rfl,q⟩:=h
 obtain⟨t,rfl⟩:=rx
 obtain⟨t',rfl⟩:=ry
 exact rule i j t t' s _ _ ⟨.int (g i j),H,I.tok _,⟨_,rfl⟩,q⟩
theorem Hl{f:Value->Value->Sem Value}{g:Int->Int->Bool}
  (rule:∀(i j:Int) (t u:Tok) (s:Shared) (Q:Value->Shared->Prop) (E:Value->Shared->Prop),Q (.bool (g i j)) s->wpAny (model X.prog X.w) X.A (f (.int i t) (.int j u)) Q E s) :
  OpR X f (rI0 fun i j=>.bl (g i j)):=by
 intro pins s σ H x y v u Q I rx ry h
 obtain⟨i,j,rfl,rfl,q⟩:=h
 obtain⟨t,rfl⟩:=rx
 obtain⟨t',rfl⟩:=ry
 exact rule i j t t' s _ _ ⟨.bl (g i j),H,I,rfl,q⟩
def C7(i j:Int):Prop:=0<=j/\j<=1000000/\i.natAbs<2^64
def Ag(i j:Int):Prop:=(-(2^64)<i/\i<2^64)\/(-(2^64)<j/\j<2^64)
theorem Ag.ok{i j:Int}(h:Ag i j):IntMulOk i j:=by
 rcases h with⟨h1,h2⟩|⟨h1,h2⟩
 ·exact .of_left (intBits_le_64 h1 h2)
 ·exact .of_right (intBits_le_64 h1 h2)
theorem EO:OpR X (binaryOp .Add) (rI0 fun i j=>.int (i+j)):=Il fun _ _ _ _ _ _ _ q=>add_int q
theorem uU:OpR X (binaryOp .Sub) (rI0 fun i j=>.int (i-j)):=Il fun _ _ _ _ _ _ _ q=>sub_int q
theorem gQ:OpR X (binaryOp .Mult) (rI Ag fun i j=>.int (i*j)):=opI fun _ _ _ _ _ _ _ hc q=>mul_int q hc.ok
theorem nE:OpR X (binaryOp .Mod) (rI (fun _ j=>0<j) fun i j=>.int (i % j)):=opI fun i j _ _ _ _ _ hc q=>by
 have h1:(0:Int)<j:=hc
 exact mod_int' (by omega) (by rw[Int.fmod_eq_emod_of_nonneg i (by omega)];exact q)
theorem EK:OpR X (binaryOp .Pow) (rI C7 fun i j=>.int (i^j.toNat)):=opI fun _ _ _ _ _ _ _ hc q=>pow_int_small hc.1 hc.2.1 hc.2.2 q
theorem unI{f:Value->Sem Value}{g:Int->Int}
  (rule:∀(i:Int) (t:Tok) (s:Shared) (Q:Value->Shared->Prop) (E:Value->Shared->Prop),Q (.int (g i) s.toks) { s with toks:=s.toks+1 }->wpAny (model X.prog X.w) X.A (f (.int i t)) Q E s) :
  UnR X f (rU fun i=>.int (g i)):=by
 intro pins s σ H x v Q I rx h
 obtain⟨i,rfl,q⟩:=h
 obtain⟨t,rfl⟩:=rx
 exact rule i t s _ _ ⟨.int (g i),H,I.tok _,⟨_,rfl⟩,q⟩
theorem zh:UnR X (unaryOp .USub) (rU fun i=>.int (-i)):=unI fun _ _ _ _ _ q=>neg_int q
end
def GP:V->V->Bool
 |.non,.non=>true|.non,.int _=>true|.int _,.non=>true|.non,.bl _=>true|.bl _,.non=>true|.non,.str _=>true|.str _,.non=>true
 |.int _,.int _=>true|.bl _,.bl _=>true|.str _,.str _=>true|.byt _,.byt _=>true
 |.int _,.str _=>true|.str _,.int _=>true|.bl _,.str _=>true|.str _,.bl _=>true
 |_,_=>false
def rEq:R2:=fun x y H Q=>GP x y=true/\Q (.bl (decide (x=y))) H
def rNe:R2:=fun x y H Q=>GP x y=true/\Q (.bl (!decide (x=y))) H
theorem vX{i j:Int}:decide (V.int i=V.int j)=(i == j):=by
 rw[ZY]
 simp
theorem zY{i j:Bool}:decide (V.bl i=V.bl j)=(i == j):=by
 rw[ZY]
 simp
theorem vW{i j:Str}:decide (V.str i=V.str j)=(i == j):=by
 rw[ZY]
 simp
theorem vY{i j:Array UInt8}:decide (V.byt i=V.byt j)=(i.toList == j.toList):=by
 rw[ZY]
 cases i
 cases j
 simp
section
variable{X:Cx}{a b c:Expr}{ta tb tc:TE}{pos:Pos}
theorem a9{pins:List (Addr×Obj)}{σ:St}{H:Hp}{s:Shared}{Q:VK}{k k':Bool}(I:Inv X pins σ H s)(q:Q (.bl k) H)(e:k=k'):EP X pins σ Q (.bool k') s:=by
 subst e
 exact⟨.bl k,H,I,rfl,q⟩
theorem si:OpR X (compareOp .Eq) rEq:=by
 intro pins s σ H x y v u Q I rx ry h
 obtain⟨hs,q⟩:=h
 cases x with
 |non=>
  cases rx
  cases y with
  |non=>cases ry;exact PySem.EqNone.eq_none_none (a9 I q (by simp))
  |bl j=>cases ry;exact PySem.EqNone.eq_none_bool (a9 I q (by simp))
  |int j=>obtain⟨t',rfl⟩:=ry;exact PySem.EqNone.eq_none_int (a9 I q (by simp))
  |str j=>obtain⟨t',rfl⟩:=ry;exact PySem.EqNone.eq_none_str (a9 I q (by simp))
  |_=>exact absurd (show false=true from hs) QF
 |bl i=>
  cases rx
  cases y with
  |non=>cases ry;exact PySem.EqNone.eq_bool_none (a9 I q (by simp))
  |bl j=>cases ry;exact eq_bool (a9 I q zY)
  |str j=>obtain⟨t',rfl⟩:=ry;exact PySem.EqMixed.eq_bool_str (a9 I q (by simp))
  |_=>exact absurd (show false=true from hs) QF
 |int i=>
  obtain⟨t,rfl⟩:=rx
  cases y with
  |non=>cases ry;exact PySem.EqNone.eq_int_none (a9 I q (by simp))
  |int j=>obtain⟨t',rfl⟩:=ry;exact eq_int (a9 I q vX)
  |str j=>obtain⟨t',rfl⟩:=ry;exact PySem.EqMixed.eq_int_str (a9 I q (by simp))
  |_=>exact absurd (show false=true from hs) QF
 |str i=>
  obtain⟨t,rfl⟩:=rx
  cases y with
  |non=>cases ry;exact PySem.EqNone.eq_str_none (a9 I q (by simp))
  |bl j=>cases ry;exact PySem.EqMixed.eq_str_bool (a9 I q (by simp))
  |int j=>obtain⟨t',rfl⟩:=ry;exact PySem.EqMixed.eq_str_int (a9 I q (by simp))
  |str j=>obtain⟨t',rfl⟩:=ry;exact eq_str (a9 I q vW)
  |_=>exact absurd (show false=true from hs) QF
 |byt i=>
  obtain⟨t,rfl⟩:=rx
  cases y with
  |byt j=>obtain⟨t',rfl⟩:=ry;exact PySem.W.eq_bytes (a9 I q vY)
  |_=>exact absurd (show false=true from hs) QF
 |_=>cases y<;>exact absurd (show false=true from hs) QF
theorem sh:OpR X (compareOp .NotEq) rNe:=by
 intro pins s σ H x y v u Q I rx ry h
 obtain⟨hs,q⟩:=h
 cases x with
 |non=>
  cases rx
  cases y with
  |non=>cases ry;exact PySem.EqNone.ne_none_none (a9 I q (by simp))
  |bl j=>cases ry;exact PySem.EqNone.ne_none_bool (a9 I q (by simp))
  |int j=>obtain⟨t',rfl⟩:=ry;exact PySem.EqNone.ne_none_int (a9 I q (by simp))
  |str j=>obtain⟨t',rfl⟩:=ry;exact PySem.EqNone.ne_none_str (a9 I q (by simp))
  |_=>exact absurd (show false=true from hs) QF
 |bl i=>
  cases rx
  cases y with
  |non=>cases ry;exact PySem.EqNone.ne_bool_none (a9 I q (by simp))
  |bl j=>cases ry;exact ne_bool (a9 I q (congrArg not zY))
  |str j=>obtain⟨t',rfl⟩:=ry;exact PySem.EqMixed.ne_bool_str (a9 I q (by simp))
  |_=>exact absurd (show false=true from hs) QF
 |int i=>
  obtain⟨t,rfl⟩:=rx
  cases y with
  |non=>cases ry;exact PySem.EqNone.ne_int_none (a9 I q (by simp))
  |int j=>obtain⟨t',rfl⟩:=ry;exact ne_int (a9 I q (congrArg not vX))
  |str j=>obtain⟨t',rfl⟩:=ry;exact PySem.EqMixed.ne_int_str (a9 I q (by simp))
  |_=>exact absurd (show false=true from hs) QF
 |str i=>
  obtain⟨t,rfl⟩:=rx
  cases y with
  |non=>cases ry;exact PySem.EqNone.ne_str_none (a9 I q (by simp))
  |bl j=>cases ry;exact PySem.EqMixed.ne_str_bool (a9 I q (by simp))
  |int j=>obtain⟨t',rfl⟩:=ry;exact PySem.EqMixed.ne_str_int (a9 I q (by simp))
  |str j=>obtain⟨t',rfl⟩:=ry;exact ne_str (a9 I q (congrArg not vW))
  |_=>exact absurd (show false=true from hs) QF
 |byt i=>
  obtain⟨t,rfl⟩:=rx
  cases y with
  |byt j=>obtain⟨t',rfl⟩:=ry;exact PySem.W.ne_bytes (a9 I q (congrArg not vY))
  |_=>exact absurd (show false=true from hs) QF
 |_=>cases y<;>exact absurd (show false=true from hs) QF
theorem nF:OpR X (compareOp .Lt) (rI0 fun i j=>.bl (decide (i<j))):=Hl fun _ _ _ _ _ _ _ q=>lt_int q
theorem Hk:OpR X (compareOp .Gt) (rI0 fun i j=>.bl (decide (j<i))):=Hl fun _ _ _ _ _ _ _ q=>gt_int q
theorem EM:OpR X (compareOp .GtE) (rI0 fun i j=>.bl (decide (j<=i))):=Hl fun _ _ _ _ _ _ _ q=>ge_int q
theorem OpR.or{f:Value->Value->Sem Value}{r r':R2}(h:OpR X f r)(h':OpR X f r'):OpR X f (fun x y H Q=>r x y H Q\/r' x y H Q):=by
 intro pins s σ H x y v u Q I rx ry q
 rcases q with q|q
 ·exact h pins s σ H x y v u Q I rx ry q
 ·exact h' pins s σ H x y v u Q I rx ry q
theorem aZ(b:Expr){op:CmpOp}(h:op≠.In:=by decide)(h2:op≠.NotIn:=by decide):behindInMarks op b=false:=by
 have e1:(op == CmpOp.In)=false:=by cases op<;>first|rfl|exact absurd rfl h
 have e2:(op == CmpOp.NotIn)=false:=by cases op<;>first|rfl|exact absurd rfl h2
 cases b<;>simp[behindInMarks,e1,e2]
theorem BN{op:CmpOp}{r:R2}(ho:OpR X (compareOp op) r)(ha:PE X a ta)(hb:PE X b tb)(hm:behindInMarks op b=false):PE X (.Compare a [op] [b] pos) (tOp r ta tb):=by
 intro pins s σ H Q I h
 exact wpAny_Compare1 (HP ha hb I h fun v u s2 x y H2 I2 rx ry q=>ho pins s2 σ H2 x y v u Q I2 rx ry q) hm
def DR(t:TE):TT:=fun σ H Q=>t σ H fun x H'=>∃k,x=.bl k/\Q k H'
theorem Bz{op:CmpOp}{r:R2}(ho:OpR X (compareOp op) r)(ha:PE X a ta)(hb:PE X b tb)(hm:behindInMarks op b=false):PT X (.Compare a [op] [b] pos) (DR (tOp r ta tb)):=by
 intro pins s σ H Q I h
 refine wpAny_isTrue_Compare1 (thn (ha pins s σ H _ I h) fun v s1 ⟨x,H1,I1,r1,q1⟩=>thn (hb pins s1 σ H1 _ I1 q1) fun u s2 ⟨y,H2,I2,r2,q2⟩=>
  thn (ho pins s2 σ H2 x y v u _ I2 r1 r2 q2) fun c s3 ⟨z,H3,I3,r3,k,e,q3⟩=>?_) hm
 subst e
 cases r3
 exact wpAny_truthy_bool ⟨H3,I3,q3⟩
theorem qL:(sizeLine:Nat)<2^63:=by rw[sizeLine_eq];decide
theorem sj:OpR X (binaryOp .Add) (fun x y H Q=>∃i j,x=.str i/\y=.str j/\i.length+j.length<=sizeLine/\Q (.str (i++j)) H):=by
 intro pins s σ H x y v u Q I rx ry h
 obtain⟨i,j,rfl,rfl,hz,q⟩:=h
 obtain⟨t,rfl⟩:=rx
 obtain⟨t',rfl⟩:=ry
 exact add_str (fun t' tk=>⟨.str (i++j),H,I.tok _,⟨_,rfl⟩,q⟩) hz
theorem gC{x:V}{us:List Value}(r:a5 [x] us):∃u,us=[u]/\bN x u:=by
 cases r with
 |cons r1 r2=>cases r2;exact⟨_,rfl,r1⟩
theorem rP{x y:V}{us:List Value}(r:a5 [x,y] us):∃u w',us=[u,w']/\bN x u/\bN y w':=by
 cases r with
 |cons r1 r2=>
  cases r2 with
  |cons r3 r4=>cases r4;exact⟨_,_,rfl,r1,r3⟩
theorem we(hc:X.calm=true):cG X (.builtin "max") (fun xs H Q=>∃i j,xs=[.int i,.int j]/\Q (.int (if j>i then j else i)) H):=by
 intro pins s σ H xs us Q I r h
 obtain⟨i,j,rfl,q⟩:=h
 obtain⟨u,w',rfl,⟨t,rfl⟩,⟨t',rfl⟩⟩:=rP r
 refine max_two_ints (I.ok.hd hc) fun h' tk k=>⟨_,H,I.kept k,?_,q⟩
 by_cases hj:j>i
 ·rw[if_pos hj,if_pos hj];exact⟨_,rfl⟩
 ·rw[if_neg hj,if_neg hj];exact⟨_,rfl⟩
theorem wd(hc:X.calm=true):cG X (.builtin "min") (fun xs H Q=>∃i j,xs=[.int i,.int j]/\Q (.int (if j<i then j else i)) H):=by
 intro pins s σ H xs us Q I r h
 obtain⟨i,j,rfl,q⟩:=h
 obtain⟨u,w',rfl,⟨t,rfl⟩,⟨t',rfl⟩⟩:=rP r
 refine min_two_ints (I.ok.hd hc) fun h' tk k=>⟨_,H,I.kept k,?_,q⟩
 by_cases hj:j<i
 ·rw[if_pos hj,if_pos hj];exact⟨_,rfl⟩
 ·rw[if_neg hj,if_neg hj];exact⟨_,rfl⟩
theorem om:cG X (.type "int") (fun xs H Q=>(∃i,xs=[.int i]/\Q (.int i) H)\/∃k,xs=[.bl k]/\Q (.int (if k then 1 else 0)) H):=by
 intro pins s σ H xs us Q I r h
 rcases h with⟨i,rfl,q⟩|⟨k,rfl,q⟩
 ·obtain⟨u,rfl,t,rfl⟩:=gC r
  exact call_int_int ⟨.int i,H,I,⟨_,rfl⟩,q⟩
 ·obtain⟨u,rfl,r1⟩:=gC r
  cases r1
  exact call_int_bool ⟨.int (if k then 1 else 0),H,I.tok _,⟨_,rfl⟩,q⟩
end
structure HV(h:Heap)(x dx C:Addr)(mA:Str->Option Value):Prop where
 obj:h.get? x=some (PySem.W.instObj C dx)
 ns:h.Ns1 dx mA
 ne:dx≠x
theorem vj{h:Heap}{dx:Addr}{mA:Str->Option Value}(n:h.Ns1 dx mA):∃od,h.get? dx=some od/\∀name,PySem.W.lookIn name od=some (mA name):=by
 obtain⟨o,es,ep,ho,hd,hk,_,hm⟩:=n
 refine⟨o,ho,fun name=>?_⟩
 have e:=hm name
 unfold nsFind findBy at e
 rw[<-Array.find?_toList]at e
 unfold PySem.W.lookIn
 rw[hd]
 dsimp only
 split
 ·rename_i y q
  rw[q]at e
  exact congrArg some e
 ·rename_i q
  rw[q]at e
  have a:es.toList.any (·.refKey)=false:=by
   rw[List.any_eq_false]
   intro y hy
   obtain⟨z,t,hkey⟩:=hk y (Array.mem_toList_iff.mp hy)
   simp[DictEntry.refKey,hkey]
  have a':¬es.toList.any (·.refKey)=true:=by rw[a];exact QF
  rw[if_neg a']
  exact congrArg some e
theorem HV.look{h:Heap}{x dx C:Addr}{mA:Str->Option Value}(I:HV h x dx C mA):∃od,PySem.W.InstAt h x (PySem.W.instObj C dx) C (some od)/\∀name,PySem.W.lookIn name od=some (mA name):=
 let ⟨od,ho,hl⟩:=vj I.ns
 ⟨od,⟨I.obj,rfl,rfl,ho⟩,hl⟩
theorem sO.some_of{v:V}{o:Option Value}(r:sO (some v) o):∃u,o=some u/\bN v u:=by
 cases o with
 |none=>exact(show False from r).elim
 |some u=>exact⟨u,rfl,r⟩
section
variable{P:Program}{w:World}{H H':Hp}{h h':Heap}{a C dx:Addr}{fs fs':List (Str×V)}
theorem Cp(hok:HOk P w H h)(e:H a=some (.ins C dx fs)):∃mA,HV h a dx C mA/\(∀f,sO (fs.lookup f) (mA f))/\PySem.Within mA (fs.map (·.1))/\fs.length<=1000/\H dx=some (.own a):=by
 obtain⟨d,z,ne,ob,mA,n,r,q⟩:=(show bC P w H h a (.ins C dx fs)from hok a _ e)
 exact⟨mA,⟨ob,n,ne⟩,r,q,z,d⟩
end
structure Cls(K:Q5)(C:Addr):Prop where
 pg:PySem.W.plainGet K C Str.empty=true
 hd:PySem.W.hasDictIn K C=true
 po:PySem.W.plainOver K C=true
 sa:PySem.W.findIn K (.ref C) "__setattr__"=some (some (.builtin "object.__setattr__"))
theorem Cls.get{K:Q5}{C:Addr}(c:Cls K C)(f:Str):PySem.W.plainGet K C f=true:=c.pg
section
variable{X:Cx}{pins:List (Addr×Obj)}{σ:St}{H:Hp}{s:Shared}{A:Around}{E:Value->Shared->Prop}{Q:Value->Shared->Prop}{c:Value}{b:Bool}
inductive rE(K:Q5)(H:Hp):V->Value->Prop where
 |non:rE K H .non (.type "NoneType")
 |bl (x:Bool):rE K H (.bl x) (.type "bool")
 |int (i:Int):rE K H (.int i) (.type "int")
 |str (x:Str):rE K H (.str x) (.type "str")
 |flt (x:UInt64):rE K H (.flt x) (.type "float")
 |lst {a:Addr} {xs:List V} (e:H a=some (.lst xs)):rE K H (.ref a) (.type "list")
 |frz {a:Addr} {o:Obj} {xs:List V} (e:H a=some (.frz o (.lst xs))):rE K H (.ref a) (.type "list")
 |tup {a:Addr} {xs:List V} (e:H a=some (.tup xs)):rE K H (.ref a) (.type "tuple")
 |dK {a:Addr} {kvs:List (Key×V)} (e:H a=some (.dK kvs)):rE K H (.ref a) (.type "dict")
 |dT {a:Addr} {kvs:List (List Key×V)} (e:H a=some (.dT kvs)):rE K H (.ref a) (.type "dict")
 | ins {a C dx:Addr} {fs:List (Str×V)} (e:H a=some (.ins C dx fs)) (cl:Cls K C) (ha:PySem.W.findIn K (.ref C) "__class__"=some (some (.builtin "object.__class__")))
   (hn:PySem.W.specialIn K (.builtin "object.__class__") "__get__"=some (some (.builtin "getset_descriptor.__get__"))) (htk:PySem.W.takesIn K (.builtin "object.__class__")=some true)
   (hm:PySem.W.mroIn K C (.type "object")=some true):rE K H (.ref a) (.ref C)
theorem vC{x:V}{u t:Value}(I:Inv X pins σ H s)(rx:bN x u)(ty:rE X.K H x t)(e:PySem.W.kitOne X.K t c=some b)(h:∀tk,Q (.bool b) { s with toks:=tk }) :
  wpAny (model X.prog X.w) A (call (.builtin "isinstance") [u,c]) Q E s:=by
 cases ty with
 |non=>cases (show u=Value.none from rx);exact PySem.W.kia_one PySem.W.kitx_none I.kIn True.intro e (fun z=>nomatch z) h
 |bl y=>cases (show u=Value.bool y from rx);exact PySem.W.kia_one PySem.W.kitx_bool I.kIn True.intro e (fun z=>nomatch z) h
 |int i=>obtain⟨t,q⟩:=(show ∃t,u=Value.int i t from rx);cases q;exact PySem.W.kia_one PySem.W.kitx_int I.kIn True.intro e (fun z=>nomatch z) h
 |str y=>obtain⟨t,q⟩:=(show ∃t,u=Value.str y t from rx);cases q;exact PySem.W.kia_one PySem.W.kitx_str I.kIn True.intro e (fun z=>nomatch z) h
 |flt y=>obtain⟨t,q⟩:=(show ∃t,u=Value.float y t from rx);cases q;exact PySem.W.kia_one PySem.W.kitx_float I.kIn True.intro e (fun z=>nomatch z) h
 |@lst a xs ea=>
  cases (show u=Value.ref a from rx)
  obtain⟨_,_,n,_,h1⟩:=(show bC X.prog X.w H s.heap a (.lst xs)from I.hok a _ ea)
  exact PySem.W.kia_one PySem.W.kitx_list I.kIn ⟨_,h1,rfl⟩ e (fun z=>nomatch z) h
 |@frz a ob xs ea=>
  cases (show u=Value.ref a from rx)
  obtain⟨_,_,_,n,_,h1⟩:=(show bC X.prog X.w H s.heap a (.frz ob (.lst xs))from I.hok a _ ea)
  exact PySem.W.kia_one PySem.W.kitx_list I.kIn ⟨_,h1,rfl⟩ e (fun z=>nomatch z) h
 |@tup a xs ea=>
  cases (show u=Value.ref a from rx)
  obtain⟨_,_,_,p⟩:=(show bC X.prog X.w H s.heap a (.tup xs)from I.hok a _ ea)
  obtain⟨o,h1,h2,_⟩:=p
  exact PySem.W.kia_one PySem.W.kitx_tuple I.kIn ⟨o,h1,h2⟩ e (fun z=>nomatch z) h
 |@dK a kvs ea=>
  cases (show u=Value.ref a from rx)
  obtain⟨_,_,vs,_,p⟩:=(show bC X.prog X.w H s.heap a (.dK kvs)from I.hok a _ ea)
  obtain⟨o,es,ep,h1,h2,_⟩:=p
  exact PySem.W.kia_one PySem.W.kitx_dict I.kIn ⟨o,h1,h2.1⟩ e (fun z=>nomatch z) h
 |@dT a kvs ea=>
  cases (show u=Value.ref a from rx)
  obtain⟨_,_,xs,_,o,es,ep,h1,h2,_⟩:=(show bC X.prog X.w H s.heap a (.dT kvs)from I.hok a _ ea)
  exact PySem.W.kia_one PySem.W.kitx_dict I.kIn ⟨o,h1,h2.1⟩ e (fun z=>nomatch z) h
 |@ins a C dx fs ea cl ha hn htk hm=>
  cases (show u=Value.ref a from rx)
  obtain⟨mA,O,_⟩:=Cp I.hok ea
  obtain⟨od,J,_⟩:=O.look
  exact PySem.W.kia_one (PySem.W.kitx_own (cl.get _) cl.hd ha hn htk hm) I.kIn J e (fun z=>nomatch z) h
end
structure km(k:Nat)(A:Around):Prop where
 hd:A.handled=none
 dp:A.depth+3*k+5<recursionLimit
 un:A.units+16*k+200<cLine
 gd:A.guards=some []
theorem km.mono{j k:Nat}{A:Around}(r:km k A)(h:j<=k):km j A:=⟨r.hd,by have:=r.dp;omega,by have:=r.un;omega,r.gd⟩
theorem km.deeper{k:Nat}{A:Around}(r:km (k+1) A)(env:Env):km k (A.deeper env):=
 ⟨r.hd,by have:=r.dp;show A.depth+1+3*k+5<_;omega,by have:=r.un;show A.units+3+16*k+200<_;omega,r.gd⟩
theorem km.depth{k:Nat}{A:Around}(r:km k A):A.depth<recursionLimit:=by have:=r.dp;omega
theorem km.units{k:Nat}{A:Around}(r:km k A):A.units+64<cLine:=by have:=r.un;omega
def H0:TA:=fun _ H Q=>Q [] H
def DY(ta:TE)(tr:TA):TA:=fun σ H Q=>ta σ H fun x H1=>tr σ H1 fun xs H2=>Q (x::xs) H2
section
variable{X:Cx}{e:Expr}{es:List Expr}{te:TE}{t:TA}{pos:Pos}
theorem EF:PA X [] H0:=fun _ _ _ _ H Q I h=>Calls.spliced_nil ⟨[],H,I,.nil,h⟩
theorem BR(ha:PE X e te)(hr:PA X es t)(hs:starEach (e::es) X.env=(false,eval e X.env)::starEach es X.env:=by rfl):PA X (e::es) (DY te t):=by
 intro pos pins s σ H Q I h
 rw[hs]
 show wpAny _ _ (spliced ((false,eval e X.env)::backTo pos (starEach es X.env))) _ _ s
 refine Calls.spliced_cons (thn (ha pins s σ H _ I h) fun u s1 hz=>?_)
 obtain⟨x,H1,I1,r1,q1⟩:=hz
 exact thn (hr pos pins s1 σ H1 _ I1 q1) fun us s2 ⟨xs,H2,I2,r2,q2⟩=>⟨x::xs,H2,I2,.cons r1 r2,q2⟩
def HW(t:TA):TE:=fun σ H Q=>t σ H fun xs H1=>xs.length<=sizeLine/\∀p,H1 p=none->Q (.ref p) (upd H1 p (.tup xs))
def Ia(t:TA):TE:=fun σ H Q=>t σ H fun xs H1=>xs.length<=sizeLine/\∀p,H1 p=none->Q (.ref p) (upd H1 p (.lst xs))
theorem Ew{x1}(h:PA X es t):PE X (.Tuple es x1 pos) (HW t):=by
 intro pins s σ H Q I hq
 refine wpAny_Tuple_spliced (thn (h pos pins s σ H _ I hq) fun us s1 ⟨xs,H1,I1,r,z,q⟩=>⟨by rw[<-r.length];exact z,?_⟩)
 have hf:H1 s1.heap.objs.size=none:=I1.hok.fresh (QJ _)
 refine⟨.ref s1.heap.objs.size,upd H1 s1.heap.objs.size (.tup xs),I1.laid (t':=s1.toks) (fun b u e=>Q4 _ e) (QJ _) ?_,rfl,q _ hf⟩
 exact⟨z,us,r,⟨_,QY _ rfl,rfl,_,rfl⟩⟩
theorem Ez(h:PA X es t):PE X (.List es pos) (Ia t):=by
 intro pins s σ H Q I hq
 refine wpAny_List_spliced (thn (h pos pins s σ H _ I hq) fun us s1 ⟨xs,H1,I1,r,z,q⟩=>⟨by rw[<-r.length];exact z,?_⟩)
 have hf:H1 s1.heap.objs.size=none:=I1.hok.fresh (QJ _)
 refine⟨.ref s1.heap.objs.size,upd H1 s1.heap.objs.size (.lst xs),I1.laid (t':=s1.toks) (fun b u e=>Q4 _ e) (QJ _) ?_,rfl,q _ hf⟩
 exact⟨z,us,0,r,QY _ rfl⟩
end
abbrev Sp:=List V->Hp->VK->XK->Prop
abbrev CXT:=List Env->Hp->Shared->XK->Value->Shared->Prop
structure Ge(P:Program)(w:World)(K:Q5)(mg:Str->Option Value)(base:Heap)(A:Around)(outer:List Env)(s:Shared)(H:Hp):Prop where
 frames:A.frames=some outer
 mod:Mod K mg base
 bs:∀b o,base.get? b=some o->s.heap.get? b=some o/\H b=none
 bsz:base.objs.size<=s.heap.objs.size
 funs:s.heap.FunFrames base outer
 frf:∀b∈frs outer,H b=none
 hok:HOk P w H s.heap
 bare:AllBare s.gens
def CE(outer:List Env)(P:Program)(w:World)(H:Hp)(s:Shared)(Q:VK)(u:Value)(s':Shared):Prop:=
 ∃v H',s'.os=s.os/\AllBare s'.gens/\Un (frs outer) [] H H' s.heap s'.heap/\HOk P w H' s'.heap/\bN v u/\Q v H'
def CR(CX:CXT)(outer:List Env)(P:Program)(w:World)(H:Hp)(s:Shared)(Q:VK)(E:XK)(r:Result)(s':Shared):Prop:=
 match r with
 |.ok (.ret u)=>CE outer P w H s Q u s'
 |.ok _=>False
 |.error e=>CX outer H s E e s'
structure oI(P:Program)(w:World)(K:Q5)(mg:Str->Option Value)(base:Heap)(CX:CXT)(k:Nat)(f:Addr)(fd:FuncData)(ps:List Str)(sp:Sp):Prop where
 len:∀vs H Q E,sp vs H Q E->vs.length=ps.length
 run:∀(A:Around) (outer:List Env) (s:Shared) (H:Hp) (args:Args) (us:List Value) (vs:List V) (Q:VK) (E:XK),km k A->Ge P w K mg base A outer s H->BindsTo s fd args (ps.zip us)->a5 vs us->sp vs H Q E->
  codeAny (model P w) A (.call (.ref f) args) (CR CX outer P w H s Q E) s
theorem oI.mono{P:Program}{w:World}{K:Q5}{mg:Str->Option Value}{base:Heap}{CX:CXT}{j k:Nat}{f:Addr}{fd:FuncData}{ps:List Str}{sp:Sp}(F:oI P w K mg base CX j f fd ps sp)(h:j<=k) :
  oI P w K mg base CX k f fd ps sp:=⟨F.len,fun A outer s H args us vs Q E hr=>F.run A outer s H args us vs Q E (hr.mono h)⟩
section
variable{X:Cx}{pins:List (Addr×Obj)}{σ:St}{H:Hp}{s s':Shared}
theorem Inv.env0(I:Inv X pins σ H s):Ge X.prog X.w X.K X.mg X.base X.A X.stack s H:=
 ⟨I.ok.frames,I.ok.mod,I.bs,Qy I.ok.bsz I.sz,I.stack,I.stkFree,I.hok,I.bare⟩
theorem Inv.after{Q:VK}{u:Value}(I:Inv X pins σ H s)(h:CE X.stack X.prog X.w H s Q u s'):EP X pins σ Q u s':=by
 obtain⟨v,H',os,bare,un,hok,r,q⟩:=h
 obtain⟨hh,g,d,t,os'⟩:=s'
 obtain rfl:os'=s.os:=os
 exact⟨v,H',I.call (h':=hh) (g':=g) (d':=d) (t':=t) (ch:=[]) un hok bare (fun b z=>absurd z (by simp)),r,q⟩
end
def DZ(sp:Sp)(dvs:List V)(E:XK)(t:TA):TE:=fun σ H Q=>t σ H fun vs H1=>sp (vs++dvs) H1 Q E
def pM(K:Q5)(fd:FuncData)(ps:List Str)(ds:List Value):Prop:=
 ∀(s:Shared) (us:List Value),K.In s.heap->(us++ds).length=ps.length->BindsTo s fd ⟨us,[]⟩ (ps.zip (us++ds))
theorem pM.all{K:Q5}{fd:FuncData}{ps:List Str}(h:∀us:List Value,us.length=ps.length->bindArgs fd ⟨us,[]⟩=pure (ps.zip us)):pM K fd ps []:=fun s us _ hl=>by
 rw[QL]at hl ⊢
 exact .of_eq (h us hl)
def wI(CX:CXT)(X:Cx)(E:XK):Prop:=∀(pins:List (Addr×Obj)) (σ:St) (H:Hp) (s:Shared) (e:Value) (s':Shared),Inv X pins σ H s->CX X.stack H s E e s'->X.xe e s'
section
variable{X:Cx}{CX:CXT}{k:Nat}{f C:Addr}{fd:FuncData}{ps:List Str}{sp:Sp}{dvs:List V}{ds:List Value}{E:XK}{x m:Str}{p pos apos:Pos}{e o:Expr}{es:List Expr}{ta:TE}{t:TA}
theorem D9{pins:List (Addr×Obj)}{σ:St}{H:Hp}{s:Shared}{Q:VK}{us:List Value}{vs:List V}(F:oI X.prog X.w X.K X.mg X.base CX k f fd ps sp)(hr:km k X.A)(hb:pM X.K fd ps ds)(hd:a5 dvs ds)(hx:wI CX X E)
  (I:Inv X pins σ H s) (r:a5 vs us) (h:sp (vs++dvs) H Q E):wpAny (model X.prog X.w) X.A (call (.ref f) us) (EP X pins σ Q) X.xe s:=by
 have r2:a5 (vs++dvs) (us++ds):=r.append hd
 have hl:(us++ds).length=ps.length:=by rw[<-r2.length];exact F.len _ _ _ _ h
 refine wpAny_call (codeAny_mono (F.run X.A X.stack s H ⟨us,[]⟩ (us++ds) (vs++dvs) Q E hr I.env0 (hb s us I.kIn hl) r2 h) fun r s' hq=>?_)
 cases r with
 |error e=>exact hx pins σ H s e s' I hq
 |ok fl=>
  cases fl with
  |ret u=>exact I.after hq
  |next=>exact False.elim hq
  |brk=>exact False.elim hq
  |cont=>exact False.elim hq
theorem BO(F:oI X.prog X.w X.K X.mg X.base CX k f fd ps sp)(hr:km k X.A)(hg:Gl X x)(hm:X.mg x=some (.ref f))(hk:PySem.W.keepIn X.K (.ref f)=true)(hb:pM X.K fd ps ds)(hd:a5 dvs ds)(hx:wI CX X E)
  (ha:PA X (e::es) t) (hdb:(x == ("__debug__":Str))=false:=by decide) (he:starEach (e::es) X.env=(false,eval e X.env)::starEach es X.env:=by rfl) (hpl:(backTo pos (starEach es X.env)).any (·.1)=false:=by rfl) :
  PE X (.Call (.Name x p) (e::es) [] pos) (DZ sp dvs E t):=by
 intro pins s σ H Q I h
 refine wpAny_Call_Name_kw (Ce I hg hm ?_ hdb)
 refine PySem.W.callWith_K (h₀:=X.base) I.ok.mod.kin hk (thn (ha pos pins s σ H _ I h) fun us s1 ⟨vs,H1,I1,r,q⟩=>⟨I1.kIn,?_⟩) he hpl
 exact D9 F hr hb hd hx I1 r q
end
structure bp(N P:List Str)(sc:Scope):Prop where
 kind:sc.kind=.function
 co:sc.isCoroutine=false
 gen:sc.isGenerator=false
 nd:N.Nodup
 pre:N.take P.length=P
 par:∀x∈P,sc.names.lookup x=some .local\/sc.names.lookup x=some .cell
 nofree:∀y∈sc.names,y.2≠.free
theorem oy{kindOf:Str->Option NameKind}{x:Str}:∀{binds:List (Str×Value)} {m:Str->Option Value},(∀v,(x,v)∉binds)->bindL kindOf binds m x=m x
 |[],_,_=>rfl
 |(n,v)::r,m,h=>by
  unfold bindL
  rw[oy fun w hw=>h w (QU _ hw)]
  split
  ·have:x≠n:=by rintro rfl;exact h v QK
   simp[this]
  ·rfl
theorem oA{kindOf:Str->Option NameKind}{x:Str}:∀{binds:List (Str×Value)} {m:Str->Option Value},(∀v,(x,v)∉binds)->bindC kindOf binds m x=m x
 |[],_,_=>rfl
 |(n,v)::r,m,h=>by
  unfold bindC
  rw[oA fun w hw=>h w (QU _ hw)]
  split
  ·rfl
  ·have:x≠n:=by rintro rfl;exact h v QK
   simp[this]
theorem oz{kindOf:Str->Option NameKind}{x:Str}{v:Value}:∀{P:List Str} {vs:List Value} {i:Nat} {m:Str->Option Value},P.Nodup->P[i]?=some x->vs[i]?=some v->kindOf x=some .local->
  bindL kindOf (P.zip vs) m x=some v
 |[],_,_,_,_,h,_,_=>by simp at h
 |_::_,[],_,_,_,_,h,_=>by simp at h
 |p::P,w::vs,0,m,nd,h1,h2,hk=>by
  simp at h1 h2;subst h1;subst h2
  show bindL kindOf ((p,w)::P.zip vs) m p=_
  unfold bindL
  rw[oy fun v hv=>(ZV.mp nd).1 (List.of_mem_zip hv).1,if_pos hk]
  simp
 |p::P,w::vs,i+1,m,nd,h1,h2,hk=>by
  show bindL kindOf ((p,w)::P.zip vs) m x=_
  unfold bindL
  exact oz (i:=i) (ZV.mp nd).2 (by simpa using h1) (by simpa using h2) hk
theorem oB{kindOf:Str->Option NameKind}{x:Str}{v:Value}:∀{P:List Str} {vs:List Value} {i:Nat} {m:Str->Option Value},P.Nodup->P[i]?=some x->vs[i]?=some v->kindOf x≠some .local->
  bindC kindOf (P.zip vs) m x=some v
 |[],_,_,_,_,h,_,_=>by simp at h
 |_::_,[],_,_,_,_,h,_=>by simp at h
 |p::P,w::vs,0,m,nd,h1,h2,hk=>by
  simp at h1 h2;subst h1;subst h2
  show bindC kindOf ((p,w)::P.zip vs) m p=_
  unfold bindC
  rw[oA fun v hv=>(ZV.mp nd).1 (List.of_mem_zip hv).1,if_neg hk]
  simp
 |p::P,w::vs,i+1,m,nd,h1,h2,hk=>by
  show bindC kindOf ((p,w)::P.zip vs) m x=_
  unfold bindC
  exact oB (i:=i) (ZV.mp nd).2 (by simpa using h1) (by simpa using h2) hk
def gD(N:List Str)(vs:List V):St:=vs.map some++Zv (N.length-vs.length) none
def wV(CX:CXT)(P:Program)(w:World)(K:Q5)(mg:Str->Option Value)(base:Heap)(N:List Str)(qual:Str)(scope:Scope)(f:Addr)(cd:Value)(A:Around)(outer:List Env)(s:Shared)(H:Hp)(E:XK):Cx where
 prog:=P
 w:=w
 K:=K
 mg:=mg
 base:=base
 A:=A.deeper (envOfC qual scope s.heap.objs.size f cd)
 N:=N
 s₀:=s
 H₀:=H
 env:=envOfC qual scope s.heap.objs.size f cd
 outer:=outer
 stack:=envOfC qual scope s.heap.objs.size f cd::outer
 ex:=[]
 calm:=true
 fn:=fun _=>true
 pn:=[]
 xe:=fun e s'=>wpAny (model P w) (A.deeper (envOfC qual scope s.heap.objs.size f cd)) (leaving (envOfC qual scope s.heap.objs.size f cd) e) (fun _ s''=>CX outer H s E e s'') (fun e' s''=>CX outer H s E e' s'') s'
theorem rp{sc:Scope}{n:Nat}{x:Str}(h:sc.names.lookup x=some .cell):∃c,(cellsFrom n sc.names []).lookup x=some c:=by
 have q:=PySem.W.cellsFrom_some sc.names n [] (.inl h)
 exact Option.isSome_iff_exists.mp q
theorem vH{CX:CXT}{P:Program}{w:World}{K:Q5}{mg:Str->Option Value}{base:Heap}{N ps:List Str}{qual:Str}{scope:Scope}{f:Addr}{cd:Value}{A:Around}{outer:List Env}{s s1:Shared}{H:Hp}{E:XK}{us:List Value}{vs:List V}
  (S:bp N ps scope) (hd:A.handled=none) (e0:Ge P w K mg base A outer s H) (hl:vs.length=ps.length) (r:a5 vs us)
  (x:InCallC s s.heap.objs.size (bindL (envOfC qual scope s.heap.objs.size f cd).kindOf (ps.zip us) fun _=>none) (cellsFrom (s.heap.objs.size+1) scope.names []) (bindC (envOfC qual scope s.heap.objs.size f cd).kindOf (ps.zip us) fun _=>none) s1) :
  Inv (wV CX P w K mg base N qual scope f cd A outer s H E) [] (gD N vs) H s1:=by
 have hpl:ps.length<=N.length:=by have:=congrArg List.length S.pre;rw[Zx]at this;omega
 obtain⟨h1,tk,rfl,hk⟩:=x.done
 have noA:∀b:Addr,b∉(wV CX P w K mg base N qual scope f cd A outer s H E).ex:=fun b z=>absurd (show b∈([]:List Addr)from z) (by simp)
 refine⟨⟨e0.mod,S.kind,rfl,rfl,QJ _,fun y z c h1 h2=>?_,fun y hy=>?_,fun y c _ h=>?_,fun _=>hd,Around.frames_deeper e0.frames,.inr ⟨rfl,rfl⟩,fun b z=>absurd z (noA b),e0.bs,e0.bsz,fun b _ _=>noA b,fun b z=>absurd z (noA b),e0.funs,e0.frf⟩,
  rfl,e0.bare,Un.kept hk,⟨_,x.toInCall.ns,fun i y v h1 h2 h3=>?_⟩,fun y c h=>⟨_,x.cell y c h⟩,e0.hok.fresh (QJ _),fun y c h=>?_,fun p hp=>absurd (show p∈([]:List (Addr×Obj))from hp) (by simp),e0.hok.kept hk,?_⟩
 ·exact name_of_addr x.apart (PySem.mem_of_lookup h1) (PySem.mem_of_lookup h2)
 ·have hy:scope.names.lookup y=some .cell\/scope.names.lookup y=some .free:=hy
  rcases hy with hy|hy
  ·exact rp hy
  ·exact absurd rfl (S.nofree _ (PySem.mem_of_lookup hy))
 ·exact Nat.le_of_lt (x.above y c (PySem.mem_of_lookup h))
 ·have hi:i<vs.length:=by
   unfold gD at h2
   by_cases hi:i<vs.length
   ·exact hi
   ·rw[Qz (by simpa using hi)]at h2
    rw[ZP]at h2
    split at h2<;>cases h2
  have ha:vs[i]?=some v:=by
   unfold gD at h2
   rw[QN (by simpa using hi),Qv]at h2
   cases e:vs[i]? with
   |none=>rw[e]at h2;cases h2
   |some a=>rw[e]at h2;cases h2;rfl
  obtain⟨u,hu,rv⟩:=r.get ha
  have hp:ps[i]?=some y:=by
   rw[<-S.pre,List.getElem?_take_of_lt (by omega)];exact h1
  have ndP:ps.Nodup:=by rw[<-S.pre];exact S.nd.sublist (List.take_sublist _ _)
  refine⟨u,rv,?_⟩
  rcases S.par y (Qo hp)with k|k
  ·exact .inl ⟨k,oz ndP hp hu k⟩
  ·obtain⟨c,e⟩:=rp (n:=s.heap.objs.size+1) k
   refine .inr ⟨.inl k,c,e,?_⟩
   have q:=x.cell y c e
   rw[oB ndP hp hu (by show scope.names.lookup y≠_;rw[k];decide)]at q
   exact q
 ·exact e0.hok.fresh (Nat.le_of_lt (x.above y c (PySem.mem_of_lookup h)))
 ·unfold gD
  show _=N.length
  rw[QQ,QZ,Zy]
  omega
theorem HF{CX:CXT}{P:Program}{w:World}{K:Q5}{mg:Str->Option Value}{base:Heap}{k:Nat}{f:Addr}{name qual:Str}{params:Arguments}{body:List Stmt}{scope:Scope}{dV kV doc pm cdv ct oc:Value}{an od:Option Addr}
  {osl:Array (Option Value)} {N ps:List Str} {sp:Sp} (lk:K.lookup f=some ⟨oc,od,.func (PySem.W.fnOf name qual params body scope dV kV doc pm an cdv ct),osl⟩) (hcd:PySem.W.codeIn K cdv qual=true) (S:bp N ps scope)
  (len:∀vs H Q E,sp vs H Q E->vs.length=ps.length)
  (hbody:∀(A:Around) (outer:List Env) (s:Shared) (H:Hp) (vs:List V) (Q:VK) (E:XK),km k (A.deeper (envOfC qual scope s.heap.objs.size f cdv))->sp vs H Q E->
   ∃t,PSs (wV CX P w K mg base N qual scope f cdv A outer s H E) body t/\t { nx:=fun _ H'=>Q .non H',rt:=Q } (gD N vs) H) :
  oI P w K mg base CX (k+1) f (PySem.W.fnOf name qual params body scope dV kV doc pm an cdv ct) ps sp:=by
 refine⟨len,fun A outer s H args us vs Q E hr e0 hb r hsp=>?_⟩
 have hl:=len _ _ _ _ hsp
 have KX:K.In s.heap:=e0.mod.kin.keeps fun b o e=>(e0.bs b o e).1
 have lim:s.heap.NoLimit:=e0.mod.nolimit.keeps fun b o e=>(e0.bs b o e).1
 have hkind:∀y∈ps.zip us,scope.names.lookup y.1=some .local\/(scope.names.lookup y.1=some .cell/\((cellsFrom (s.heap.objs.size+1) scope.names []).lookup y.1).isSome=true):=fun⟨n,v⟩ hy=>by
  rcases S.par n (List.of_mem_zip hy).1 with q|q
  ·exact .inl q
  ·exact .inr ⟨q,PySem.W.cellsFrom_some _ _ _ (.inl q)⟩
 refine codeAny_call_function hr.depth (KX _ _ lk) rfl S.co S.gen rfl (PySem.W.codeRec_of KX hcd) (hb _ _ _ _ ?_)
 refine wpAny_newFunctionEnv_cells S.kind hkind fun env he s1 x=>?_
 subst he
 refine⟨lim.keeps x.toInCall.keep,codeAny_func ?_⟩
 obtain⟨t,ht,hq⟩:=hbody A outer s H vs Q E (hr.deeper _) hsp
 have I:Inv (wV CX P w K mg base N qual scope f cdv A outer s H E) [] (gD N vs) H s1:=vH S hr.hd e0 hl r x
 refine Z6 (ht [] s1 (gD N vs) H _ I hq) (fun fl s' hs=>?_) fun e s' hs=>hs
 have fin:∀{σ':St} {H':Hp} {v:V} {u:Value},Inv (wV CX P w K mg base N qual scope f cdv A outer s H E) [] σ' H' s'->bN v u->Q v H'->CE outer P w H s Q u s':=
  fun{σ' H' v u} J rv q=>⟨v,H',J.os,J.bare,J.base,J.hok,rv,q⟩
 cases fl with
 |ret u=>
  obtain⟨v,σ',H',J,rv,q⟩:=hs
  exact fin J rv q
 |next=>
  obtain⟨σ',H',J,q⟩:=hs
  exact fin (v:=V.non) (u:=Value.none) J rfl q
 |brk=>
  obtain⟨_,_,_,q⟩:=hs
  exact False.elim q
 |cont=>
  obtain⟨_,_,_,q⟩:=hs
  exact False.elim q
section
variable{X:Cx}{x:Str}{p pos:Pos}{e:Expr}{es:List Expr}{t:TA}{id T:String}{r:List V->Hp->VK->Prop}
def tCB(r:List V->Hp->VK->Prop)(t:TA):TE:=fun σ H Q=>t σ H fun vs H1=>r vs H1 Q
theorem xY(hc:cG X (.builtin id) r)(hg:Gl X x)(hm:X.mg x=none)(hv:bootBuiltins x=some (.builtin id))(ha:PA X (e::es) t)(hn:x≠"__name__":=by decide)(hdb:(x == ("__debug__":Str))=false:=by decide)
  (he:starEach (e::es) X.env=(false,eval e X.env)::starEach es X.env:=by rfl) (hpl:(backTo pos (starEach es X.env)).any (·.1)=false:=by rfl):PE X (.Call (.Name x p) (e::es) [] pos) (tCB r t):=by
 intro pins s σ H Q I h
 refine wpAny_Call_Name_kw (gY I hg hm hv ?_ hn hdb)
 exact PyProof.Rows.callWith_builtin1 (thn (ha pos pins s σ H _ I h) fun us s1 ⟨vs,H1,I1,r1,q1⟩=>hc pins s1 σ H1 vs us Q I1 r1 q1) he hpl
theorem uP(hc:cG X (.type T) r)(hg:Gl X x)(hm:X.mg x=none)(hv:bootBuiltins x=some (.type T))(ha:PA X (e::es) t)(hn:x≠"__name__":=by decide)(hdb:(x == ("__debug__":Str))=false:=by decide)
  (he:starEach (e::es) X.env=(false,eval e X.env)::starEach es X.env:=by rfl) (hpl:(backTo pos (starEach es X.env)).any (·.1)=false:=by rfl):PE X (.Call (.Name x p) (e::es) [] pos) (tCB r t):=by
 intro pins s σ H Q I h
 refine wpAny_Call_Name_kw (gY I hg hm hv ?_ hn hdb)
 exact PyProof.Rows.callWith_type1 (thn (ha pos pins s σ H _ I h) fun us s1 ⟨vs,H1,I1,r1,q1⟩=>hc pins s1 σ H1 vs us Q I1 r1 q1) he hpl
end
end L2
namespace HT
open PySem PyProof.Rows
section
variable{prog:Program}{w:World}{A:Around}{E:Value->Shared->Prop}{s:Shared}
theorem cat_tup{t b:Addr}{vs ws:List Value}{Q:Value->Shared->Prop}(ht:IsTup s.heap t vs.toArray)(hb:IsTup s.heap b ws.toArray)(hv:vs≠[])
  (h1:ws=[]->Q (.ref t) s) (h2:ws≠[]->Q (.ref s.heap.objs.size) { s with heap:=s.heap.push { cls:=.type "tuple",data:=.seq (vs++ws).toArray } })
  (hsz:vs.length+ws.length<=sizeLine):wpAny (model prog w) A (binaryOp .Add (.ref t) (.ref b)) Q E s:=by
 obtain⟨⟨cls,dd,data,sl⟩,ho,hc,n,hd⟩:=id ht
 obtain⟨⟨cls2,dd2,data2,sl2⟩,ho2,hc2,n2,hd2⟩:=id hb
 simp only at hc hd hc2 hd2
 subst hc hd hc2 hd2
 have e:vs.toArray++ws.toArray=(vs++ws).toArray:=by simp
 by_cases hw:ws=[]
 ·exact concat_meets ⟨_,ho,rfl⟩ ⟨_,ho2,rfl⟩ noFill_tuple_add seq_tuple_add PySem.F.slot_tuple_add PySem.F.entry_tuple_add (PySem.F.args_tuple_add_2 _ _)
   (tuple_addW1 t b vs.toArray ws.toArray n n2 dd dd2 sl sl2 (by simpa using hv) (by simp[hw])) ⟨ho,ho2,h1 hw⟩
 ·refine concat_meets ⟨_,ho,rfl⟩ ⟨_,ho2,rfl⟩ noFill_tuple_add seq_tuple_add PySem.F.slot_tuple_add PySem.F.entry_tuple_add (PySem.F.args_tuple_add_2 _ _)
   (tuple_addW2 t b vs.toArray ws.toArray n n2 dd dd2 sl sl2 (by simpa using hv) (by simpa using hw) (by rw[QD,QD];exact hsz)) ⟨ho,ho2,?_⟩
  rw[e]
  exact h2 hw
def sIx(n d:Nat):Option Int->Nat
 |none=>d
 |some v=>if v<0 then(v+(n:Int)).toNat else min v.toNat n
theorem sIx_none(n d:Nat):sIx n d none=d:=rfl
theorem sIx_nat(n d k:Nat):sIx n d (some (k:Int))=min k n:=by
 show(if (k:Int)<0 then((k:Int)+(n:Int)).toNat else min (k:Int).toNat n)=min k n
 rw[if_neg (by omega),Z3]
theorem D7(n d:Nat)(hd:d<=n)(o:Option Int):sIx n d o<=n:=by
 cases o with
 |none=>exact hd
 |some v=>
  show(if v<0 then(v+(n:Int)).toNat else min v.toNat n)<=n
  by_cases hv:v<0
  ·rw[if_pos hv];omega
  ·rw[if_neg hv];exact Nat.min_le_right _ _
theorem wc(v:Int)(n d:Nat):(if v<0 then max (v+(n:Int)) 0 else min v (n:Int))=((sIx n d (some v):Nat):Int):=by
 show(if v<0 then max (v+(n:Int)) 0 else min v (n:Int))=(((if v<0 then(v+(n:Int)).toNat else min v.toNat n):Nat):Int)
 by_cases hv:v<0
 ·simp only[if_pos hv];omega
 ·simp only[if_neg hv];omega
theorem sJ(lo hi:Option Int)(n:Nat):Builtin.Slice.sliceAdjust lo hi 1 (n:Int)=(((sIx n 0 lo:Nat):Int),((sIx n n hi:Nat):Int)):=by
 have h1:¬((1:Int)<0):=by omega
 unfold Builtin.Slice.sliceAdjust
 simp only[h1,if_false]
 refine Prod.ext ?_ ?_
 ·cases lo with
  |none=>rfl
  |some v=>exact wc v n 0
 ·cases hi with
  |none=>rfl
  |some v=>exact wc v n n
theorem sf(i j:Nat):Builtin.Slice.slicePlaces (i:Int) (j:Int) 1=j-i:=by
 unfold Builtin.Slice.slicePlaces
 have h1:(1:Int)>0:=by omega
 simp only[h1,if_true,Int.ediv_one]
 split<;>omega
theorem kM{v:Value}{o:Option Int}{Q:Option Int->Shared->Prop}(p:IsPart v o)(h:Q o s):wpAny (model prog w) A (Builtin.Slice.slicePartIndex v) Q E s:=by
 cases p with
 |none=>exact slicePart_none h
 |int i t=>exact slicePart_int h
theorem eS{sl:Addr}{vl vu:Value}{lo hi:Option Int}{n:Nat}{Q:Int×Int×Nat->Shared->Prop}(hs:s.heap.IsSliceOf sl vl vu .none)(pl:IsPart vl lo)(pu:IsPart vu hi)
  (h:Q (((sIx n 0 lo:Nat):Int),1,sIx n n hi-sIx n 0 lo) s):wpAny (model prog w) A (Builtin.Slice.sliceApplied (.ref sl) (pure (n:Int))) Q E s:=by
 obtain⟨os,hos,hcs,hds⟩:=id hs
 unfold Builtin.Slice.sliceApplied Builtin.Slice.sliceFields
 refine Q2 (Q2 (Qh hos hds (x:=vl) rfl (Q2 (Qh hos hds (x:=vu) rfl (Q2 (Qh hos hds (x:=.none) rfl (Q8 ?_)))))))
 refine Q2 (slicePart_none ?_)
 show wpAny _ _ (if ((1:Int) == 0)=true then _ else _) _ _ s
 rw[if_neg (by decide)]
 refine Q2 (kM pl (Q2 (kM pu (Q2 (Q8 ?_)))))
 show wpAny _ _ (match Builtin.Slice.sliceAdjust lo hi 1 (n:Int)with|(lo,hi)=>pure (lo,(1:Int),Builtin.Slice.slicePlaces lo hi 1)) _ _ s
 rw[sJ lo hi n]
 show wpAny _ _ (pure (((sIx n 0 lo:Nat):Int),(1:Int),Builtin.Slice.slicePlaces ((sIx n 0 lo:Nat):Int) ((sIx n n hi:Nat):Int) 1)) _ _ s
 rw[sf]
 exact Q8 h
theorem xT(xs:Array Value)(i k:Nat):((Qj k).filterMap fun(m:Nat)=>xs[((i:Int)+(m:Int)*1).toNat]?).toArray=((xs.toList.drop i).take k).toArray:=by
 have e:(fun(m:Nat)=>xs[((i:Int)+(m:Int)*1).toNat]?)=fun m=>xs[i+m]?:=by
  funext m
  have:((i:Int)+(m:Int)*1).toNat=i+m:=by omega
  rw[this]
 rw[e]
 have:=pick_run xs i k
 rw[List.filterMap_map]at this
 have e2:((fun x=>xs[x]?) ∘ fun x=>i+x)=fun m=>xs[i+m]?:=rfl
 rw[e2]at this
 rw[this]
theorem getItem_tuple_cut{t sl:Addr}{items:Array Value}{vl vu:Value}{lo hi:Option Int}{Q:Value->Shared->Prop}(ht:IsTup s.heap t items)(hs:s.heap.IsSliceOf sl vl vu .none)(pl:IsPart vl lo)(pu:IsPart vu hi)
  (hw:¬(sIx items.size 0 lo=0/\sIx items.size items.size hi=items.size))
  (h:Q (.ref s.heap.objs.size) { s with heap:=s.heap.push { cls:=.type "tuple",data:=.seq ((items.toList.drop (sIx items.size 0 lo)).take (sIx items.size items.size hi-sIx items.size 0 lo)).toArray } })
  (hsz:items.size<=sizeLine):wpAny (model prog w) A (getItem (.ref t) (.ref sl)) Q E s:=by
 have htake:sizeOk (.seq ((items.toList.drop (sIx items.size 0 lo)).take (sIx items.size items.size hi-sIx items.size 0 lo)).toArray):=by
  show((items.toList.drop (sIx items.size 0 lo)).take (sIx items.size items.size hi-sIx items.size 0 lo)).toArray.size<=sizeLine
  rw[QD,Zx,ZE,QH]
  omega
 have hj:sIx items.size items.size hi<=items.size:=D7 _ _ (QJ _) hi
 obtain⟨os,hos,hcs,hds⟩:=id hs
 have hTs:s.TypeIs (.ref sl) "slice":=⟨os,hos,hcs⟩
 unfold getItem
 try with_reducible refine wpAny_holding ?_
 first|refine Q2 (Q8 ?_)|skip
 refine Q2 (wpAny_sequenceKey ht.typeIs (by decide) ?_)
 refine Q2 (wpAny_callSpecial?_slot (name:=Str.ofString "__getitem__") ht.typeIs PyProof.Rows.slot_tuple_getitem
  (wpAny_call_entry PyProof.Rows.slot_tuple_getitem ht.typeIs entry_tuple_getitem ?_ (args_tuple_getitem _ _)))
 show wpAny _ _ (Builtin.Tuple.tupleItemsOf (.ref t) >>= _) _ _ s
 refine Q2 (tupleItemsOf_ ht ?_)
 refine Q2 (wpAny_typeOf hTs ?_)
 rw[if_pos (by decide)]
 refine Q2 (eS hs pl pu ?_)
 have hno:¬((((sIx items.size 0 lo:Nat):Int) == 0&&(1:Int) == 1&&(sIx items.size items.size hi-sIx items.size 0 lo) == items.size)=true):=by
  intro q
  rw[Bool.and_eq_true,Bool.and_eq_true]at q
  have q1:((sIx items.size 0 lo:Nat):Int)=0:=eq_of_beq q.1.1
  have q2:sIx items.size items.size hi-sIx items.size 0 lo=items.size:=eq_of_beq q.2
  exact hw ⟨by omega,by omega⟩
 show wpAny _ _ (if (((sIx items.size 0 lo:Nat):Int) == 0&&(1:Int) == 1&&(sIx items.size items.size hi-sIx items.size 0 lo) == items.size)=true then _ else _) _ _ s
 rw[if_neg hno,xT]
 first
  |exact Q2 (m:=Builtin.Tuple.tupleExact _) (wpAny_newObj_type (Q8 ⟨_,rfl,Q8 h⟩) htake)
  |exact Q2 (m:=Builtin.Tuple.tupleExact _) (wpAny_newObj_type (Q2 (Q8 (Q8 ⟨_,rfl,Q8 h⟩))) htake)
  |exact Q2 (Q2 (m:=Builtin.Tuple.tupleExact _) (wpAny_newObj_type (Q8 (Q8 ⟨_,rfl,Q8 h⟩)) htake))
  |exact Q2 (Q2 (m:=Builtin.Tuple.tupleExact _) (wpAny_newObj_type (Q8 ⟨_,rfl,Q8 h⟩) htake))
end
end HT
namespace L2
open PySem PySem.Spec PyProof.Rows
abbrev TO:=St->Hp->(Option Int->Hp->Prop)->Prop
def PO(X:Cx)(e:Option Expr)(t:TO):Prop:=
 ∀(pins:List (Addr×Obj)) (s:Shared) (σ:St) (H:Hp) (Q:Option Int->Hp->Prop),Inv X pins σ H s->t σ H Q->
  wpAny (model X.prog X.w) X.A (evalPart e X.env) (fun u s'=>∃o H',Inv X pins σ H' s'/\IsPart u o/\Q o H') X.xe s
def tX:TO:=fun _ H Q=>Q none H
def DS(t:TE):TO:=fun σ H Q=>t σ H fun x H1=>∃i,x=.int i/\Q (some i) H1
section
variable{X:Cx}{e:Expr}{te:TE}{lo hi:Option Expr}{tl th:TO}{pos p2:Pos}
theorem BH:PO X none tX:=by
 intro pins s σ H Q I h
 rw[evalPart_none]
 exact Q8 ⟨none,H,I,.none,h⟩
theorem BG(h:PE X e te):PO X (some e) (DS te):=by
 intro pins s σ H Q I hw
 rw[evalPart_some]
 refine thn (h pins s σ H _ I hw) fun u s1 hz=>?_
 obtain⟨x,H1,I1,r1,q1⟩:=hz
 obtain⟨i,rfl,q⟩:=q1
 obtain⟨t,rfl⟩:=r1
 exact⟨some i,H1,I1,.int i t,q⟩
def SlR(X:Cx)(r:V->Option Int->Option Int->Hp->VK->Prop):Prop:=
 ∀(pins:List (Addr×Obj)) (s:Shared) (σ:St) (H:Hp) (x:V) (v vl vu:Value) (lo hi:Option Int) (sl:Addr) (Q:VK),Inv X pins σ H s->bN x v->s.heap.IsSliceOf sl vl vu .none->IsPart vl lo->IsPart vu hi->r x lo hi H Q->
  ∃T id,typeLookup (.type T) "__getitem__"=pure (some (.builtin id))/\s.TypeIs v T/\wpAny (model X.prog X.w) X.A (getItem v (.ref sl)) (EP X pins σ Q) X.xe s
theorem SlR.or{r r':V->Option Int->Option Int->Hp->VK->Prop}(h:SlR X r)(h':SlR X r'):SlR X (fun x lo hi H Q=>r x lo hi H Q\/r' x lo hi H Q):=by
 intro pins s σ H x v vl vu lo hi sl Q I rx hs pl pu q
 rcases q with q|q
 ·exact h pins s σ H x v vl vu lo hi sl Q I rx hs pl pu q
 ·exact h' pins s σ H x v vl vu lo hi sl Q I rx hs pl pu q
def tSl(r:V->Option Int->Option Int->Hp->VK->Prop)(te:TE)(tl th:TO):TE:=fun σ H Q=>te σ H fun x H1=>tl σ H1 fun l H2=>th σ H2 fun u H3=>r x l u H3 Q
theorem xW{r:V->Option Int->Option Int->Hp->VK->Prop}(hr:SlR X r)(he:PE X e te)(hl:PO X lo tl)(hu:PO X hi th):PE X (.Subscript e (.Slice lo hi none p2) pos) (tSl r te tl th):=by
 intro pins s σ H Q I h
 refine Subscript_ (thn (he pins s σ H _ I h) fun v s1 hz=>?_)
 obtain⟨x,H1,I1,r1,q1⟩:=hz
 refine wpAny_Slice (thn (hl pins s1 σ H1 _ I1 q1) fun vl s2 ⟨l,H2,I2,pl,q2⟩=>thn (hu pins s2 σ H2 _ I2 q2) fun vu s3 hz=>?_)
 obtain⟨u,H3,I3,pu,q3⟩:=hz
 rw[evalPart_none]
 refine Q8 ?_
 have I4:Inv X pins σ H3 { s3 with heap:=s3.heap.push { cls:=.type "slice",data:=.fields #[vl,vu,.none] } }:=I3.kept (t':=s3.toks) fun b ob q=>Q4 _ q
 obtain⟨T,id,hT,ht,hg⟩:=hr pins { s3 with heap:=s3.heap.push { cls:=.type "slice",data:=.fields #[vl,vu,.none] } } σ H3 x v vl vu l u s3.heap.objs.size Q I4 r1 (Heap.IsSliceOf.new ..) pl pu q3
 show wpAny (model X.prog X.w) X.A (subscriptTail e (.Slice lo hi none p2) v (.ref s3.heap.objs.size)) (EP X pins σ Q) X.xe { s3 with heap:=s3.heap.push { cls:=.type "slice",data:=.fields #[vl,vu,.none] } }
 exact tail_any (ops:=[.ref s3.heap.objs.size,v]) ht hT hg (by with_unfolding_all rfl)
def zZ(xs:List V)(lo hi:Option Int):List V:=(xs.drop (HT.sIx xs.length 0 lo)).take (HT.sIx xs.length xs.length hi-HT.sIx xs.length 0 lo)
theorem kb(xs:List V)(lo hi:Option Int):(zZ xs lo hi).length<=xs.length:=by
 unfold zZ
 rw[Zx,ZE]
 omega
def IU(K:Q5):V->Option Int->Option Int->Hp->VK->Prop:=fun x lo hi H Q=>∃a xs,x=.ref a/\SqT K H a xs/\
 ¬(HT.sIx xs.length 0 lo=0/\HT.sIx xs.length xs.length hi=xs.length)/\∀p,H p=none->Q (.ref p) (upd H p (.tup (zZ xs lo hi)))
theorem zm:SlR X (IU X.K):=by
 intro pins s σ H x v vl vu lo hi sl Q I rx hs pl pu h
 obtain⟨a,xs,rfl,hx,hw,q⟩:=h
 cases rx
 obtain⟨its,r,ht,hz⟩:=I.tuple hx
 have hlen:its.toArray.size=xs.length:=by rw[QD];exact r.length.symm
 refine⟨"tuple",_,PyProof.Rows.slot_tuple_getitem.lookup,ht.typeIs,?_⟩
 refine HT.getItem_tuple_cut ht hs pl pu (by rw[hlen];exact hw) ?_ (by rw[hlen];exact hz)
 rw[hlen]
 refine⟨.ref s.heap.objs.size,_,I.laid (t':=s.toks) (o:=.tup (zZ xs lo hi)) (fun b ob q=>Q4 _ q) (QJ _) ?_,rfl,q _ (I.hok.fresh (QJ _))⟩
 exact⟨Qy (kb xs lo hi) hz,_,(r.drop (HT.sIx xs.length 0 lo)).take (HT.sIx xs.length xs.length hi-HT.sIx xs.length 0 lo),IsTup.new _ _⟩
def GW(K:Q5):R2:=fun x y H Q=>∃a b xs ys,x=.ref a/\y=.ref b/\SqT K H a xs/\SqT K H b ys/\xs≠[]/\xs.length+ys.length<=sizeLine/\
 (ys=[]->Q (.ref a) H)/\(ys≠[]->∀p,H p=none->Q (.ref p) (upd H p (.tup (xs++ys))))
theorem a5.nil_iff{xs:List V}{us:List Value}(r:a5 xs us):us=[]↔xs=[]:=by
 cases r with
 |nil=>simp
 |cons _ _=>simp
theorem BX:OpR X (binaryOp .Add) (GW X.K):=by
 intro pins s σ H x y v u Q I rx ry h
 obtain⟨a,b,xs,ys,rfl,rfl,ha,hb,hx,hz,q1,q2⟩:=h
 cases rx
 cases ry
 obtain⟨its,r1,p1,_⟩:=I.tuple ha
 obtain⟨its2,r2,p2,_⟩:=I.tuple hb
 refine HT.cat_tup p1 p2 (fun z=>hx (r1.nil_iff.mp z)) (fun z=>⟨.ref a,H,I,rfl,q1 (r2.nil_iff.mp z)⟩) (fun z=>?_) (by rw[<-r1.length,<-r2.length];exact hz)
 refine⟨.ref s.heap.objs.size,_,I.laid (t':=s.toks) (o:=.tup (xs++ys)) (fun b ob q=>Q4 _ q) (QJ _) ?_,rfl,q2 (fun w=>z (r2.nil_iff.mpr w)) _ (I.hok.fresh (QJ _))⟩
 exact⟨by rw[QQ];exact hz,_,r1.append r2,IsTup.new _ _⟩
end
def ixN(n:Nat)(i:Int):Option Nat:=if 0<=i then(if i<n then some i.toNat else none)else if -(n:Int)<=i then some (i+n).toNat else none
def atI{α:Type}(xs:List α)(i:Int):Option α:=(ixN xs.length i).bind fun j=>xs[j]?
theorem vB{n:Nat}{i:Int}{j:Nat}(h:ixN n i=some j):seqIndex? i n=some j/\j<n/\-(n:Int)<=i/\i<n:=by
 unfold ixN at h
 by_cases h0:0<=i
 ·rw[if_pos h0]at h
  by_cases h1:i<n
  ·rw[if_pos h1]at h
   have e:i.toNat=j:=Option.some.inj h
   exact⟨by rw[seqIndex_of h0 h1,e],by omega,by omega,h1⟩
  ·rw[if_neg h1]at h;cases h
 ·rw[if_neg h0]at h
  by_cases h1:-(n:Int)<=i
  ·rw[if_pos h1]at h
   have e:(i+n).toNat=j:=Option.some.inj h
   exact⟨by rw[seqIndex_neg (by omega) h1,e],by omega,h1,by omega⟩
  ·rw[if_neg h1]at h;cases h
theorem wA{α:Type}{xs:List α}{i:Int}{v:α}(h:atI xs i=some v):∃j,seqIndex? i xs.length=some j/\xs[j]?=some v/\j<xs.length/\-(xs.length:Int)<=i/\i<xs.length:=by
 unfold atI at h
 cases e:ixN xs.length i with
 |none=>rw[e]at h;cases h
 |some j=>
  rw[e]at h
  obtain⟨h1,h2,h3,h4⟩:=vB e
  exact⟨j,h1,h,h2,h3,h4⟩
theorem eB{α:Type}{xs:List α}{j:Nat}{v:α}(h:xs[j]?=some v):atI xs (j:Int)=some v:=by
 have hj:j<xs.length:=(Q6.mp h).1
 have e:ixN xs.length (j:Int)=some j:=by
  unfold ixN
  rw[if_pos (by omega),if_pos (by omega)];simp
 unfold atI;rw[e];exact h
def pI(b:Expr):Prop:=∀o i,subscripted b false o i=operate [o,i] (getItem o i)
def IxR(X:Cx)(r:R2):Prop:=
 ∀(value slice:Expr) (pins:List (Addr×Obj)) (s:Shared) (σ:St) (H:Hp) (x y:V) (v u:Value) (Q:VK),Inv X pins σ H s->bN x v->bN y u->r x y H Q->
  subscripted slice false v u=operate [v,u] (getItem v u)->wpAny (model X.prog X.w) X.A (subscriptTail value slice v u) (EP X pins σ Q) X.xe s
def MtR(X:Cx)(id:String)(r:V->List V->Hp->VK->Prop):Prop:=
 ∀(pins:List (Addr×Obj)) (s:Shared) (σ:St) (H:Hp) (x:V) (xs:List V) (v:Value) (us:List Value) (Q:VK),Inv X pins σ H s->bN x v->a5 xs us->r x xs H Q->
  wpAny (model X.prog X.w) X.A (call (.builtin id) (v::us)) (EP X pins σ Q) X.xe s
section
variable{X:Cx}{a b:Expr}{ta tb:TE}{pos:Pos}
theorem IxR.or{r r':R2}(h:IxR X r)(h':IxR X r'):IxR X (fun x y H Q=>r x y H Q\/r' x y H Q):=by
 intro value slice pins s σ H x y v u Q I rx ry q hs
 rcases q with q|q
 ·exact h value slice pins s σ H x y v u Q I rx ry q hs
 ·exact h' value slice pins s σ H x y v u Q I rx ry q hs
theorem Hd{r:R2}(hr:IxR X r)(ha:PE X a ta)(hb:PE X b tb)(hs:pI b):PE X (.Subscript a b pos) (tOp r ta tb):=by
 intro pins s σ H Q I h
 exact Subscript_ (HP ha hb I h fun v u s2 x y H2 I2 rx ry q=>hr a b pins s2 σ H2 x y v u Q I2 rx ry q (hs _ _))
def IY(K:Q5):R2:=fun x y H Q=>∃p xs i v,x=.ref p/\y=.int i/\SqL K H p xs/\atI xs i=some v/\Q v H
def IX(K:Q5):R2:=fun x y H Q=>∃p xs i v,x=.ref p/\y=.int i/\SqT K H p xs/\atI xs i=some v/\Q v H
theorem Co:IxR X (IY X.K):=by
 intro value slice pins s σ H x y v u Q I rx ry h hs
 obtain⟨p,xs,i,z,rfl,rfl,hq,he,q⟩:=h
 cases rx
 obtain⟨t,rfl⟩:=ry
 obtain⟨its,r,pl,hz⟩:=I.list hq
 obtain⟨j,h1,h2,h3,h4,h5⟩:=wA he
 obtain⟨w,ew,rw'⟩:=r.get h2
 have hl:=r.length
 have hn:=qL
 have fin:EP X pins σ Q w s:=⟨z,H,I,rw',q⟩
 by_cases h0:0<=i
 ·have hj:i.toNat=j:=by
   rw[seqIndex_of h0 h5]at h1
   exact Option.some.inj h1
  exact item_listR pl.isList h0 (by omega) (by rw[hj];simpa using ew) fin hs
 ·have hj:(i+(its.toArray.size:Int)).toNat=j:=by
   rw[seqIndex_neg (by omega) h4]at h1
   rw[QD,<-hl]
   exact Option.some.inj h1
  exact subscriptTail_builtinR (x:=w) pl.isList.typeIs slot_list_getitem.lookup
   (wpAny_getItem_list_neg (Q:=fun r s'=>r=w/\EP X pins σ Q r s') pl.isList (by omega) (by rw[QD]<;>omega) (by omega) (by rw[hj];simpa using ew) ⟨rfl,fin⟩) hs
theorem Fd:IxR X (IX X.K):=by
 intro value slice pins s σ H x y v u Q I rx ry h hs
 obtain⟨p,xs,i,z,rfl,rfl,hq,he,q⟩:=h
 cases rx
 obtain⟨t,rfl⟩:=ry
 obtain⟨its,r,pl,hz⟩:=I.tuple hq
 obtain⟨j,h1,h2,h3,h4,h5⟩:=wA he
 obtain⟨w,ew,rw'⟩:=r.get h2
 have hl:=r.length
 have hn:=qL
 have fin:EP X pins σ Q w s:=⟨z,H,I,rw',q⟩
 exact subscriptTail_builtinR (x:=w) pl.typeIs slot_tuple_getitem.lookup
  (getItem_tuple (j:=j) (Q:=fun r s'=>r=w/\EP X pins σ Q r s') pl (by omega) (by omega) (by rw[QD,<-hl];exact h1) (by simpa using ew) ⟨rfl,fin⟩) hs
theorem sk(its:List Value)(n j:Nat)(u:Value):Obj.mapSeq (·.setIfInBounds j u) { cls:=.type "list",data:=.seq its.toArray n }={ cls:=.type "list",data:=.seq (its.set j u).toArray n }:=by
 simp[Obj.mapSeq]
theorem Inv.lst{pins:List (Addr×Obj)}{σ:St}{H:Hp}{s:Shared}{p:Addr}{xs:List V}(I:Inv X pins σ H s)(h:H p=some (.lst xs)) :
  ∃(its:List Value) (n:Nat),a5 xs its/\s.heap.get? p=some { cls:=.type "list",data:=.seq its.toArray n }/\xs.length<=sizeLine:=by
 obtain⟨z,its,n,r,e⟩:=I.hok p _ h
 exact⟨its,n,r,e,z⟩
theorem Inv.lstUpd{pins:List (Addr×Obj)}{σ:St}{H:Hp}{s:Shared}{p:Addr}{xs ys:List V}{its its':List Value}{n n':Nat}{f:Obj->Obj}(I:Inv X pins σ H s)(h:H p=some (.lst xs))
  (ho:s.heap.get? p=some { cls:=.type "list",data:=.seq its.toArray n }) (hf:f { cls:=.type "list",data:=.seq its.toArray n }={ cls:=.type "list",data:=.seq its'.toArray n' }) (r:a5 ys its') (hz:ys.length<=sizeLine) (t:Nat) :
  Inv X pins σ (upd H p (.lst ys)) { s with heap:=s.heap.update p f,toks:=t }:=by
 have e:(s.heap.update p f).get? p=some { cls:=.type "list",data:=.seq its'.toArray n' }:=by
  rw[ZU f ho (by rw[hf]<;>rfl),hf]
 refine I.write (x:=p) (e:=p) (by rw[h];trivial) (.inl rfl) (fun b u hb q=>(Zq _ _ (Ne.symm hb)).trans q) ⟨_,e⟩ ?_
 exact⟨hz,its',n',r,e⟩
def GR:V->V->V->Hp->(Hp->Prop)->Prop:=fun o i v H Q=>∃p xs k j,o=.ref p/\i=.int k/\H p=some (.lst xs)/\ixN xs.length k=some j/\Q (upd H p (.lst (xs.set j v)))
theorem lV:HU X GR:=by
 intro pins s σ H o i v ov iv u Q I ro ri rv h
 obtain⟨p,xs,k,j,rfl,rfl,hp,hj,q⟩:=h
 cases ro
 obtain⟨t,rfl⟩:=ri
 obtain⟨its,n,r,ho,hz⟩:=I.lst hp
 obtain⟨h1,h2,h3,h4⟩:=vB hj
 have hl:=r.length
 have hn:=qL
 have I':Inv X pins σ (upd H p (.lst (xs.set j v))) { s with heap:=s.heap.update p (Obj.mapSeq (·.setIfInBounds j u)) }:=
  I.lstUpd hp ho (sk its n j u) (r.set rv j) (by rw[List.length_set];exact hz) s.toks
 by_cases h0:0<=k
 ·have hk:k.toNat=j:=by
   rw[seqIndex_of h0 h4]at h1
   exact Option.some.inj h1
  exact PySem.W.ki_setAt ho h0 (by omega) (by rw[QD,<-hl];exact h4) (by rw[hk];exact⟨_,I',q⟩)
 ·have hk:(k+(its.toArray.size:Int)).toNat=j:=by
   rw[seqIndex_neg (by omega) h3]at h1
   rw[QD,<-hl]
   exact Option.some.inj h1
  exact PySem.W.ki_setBack ho (by omega) (by rw[QD,<-hl];exact h3) (by omega) (by rw[hk];exact⟨_,I',q⟩)
theorem m8(lo hi:Option Int)(n:Nat):(sliceBounds lo hi none n).1=((HT.sIx n 0 lo:Nat):Int)/\(sliceBounds lo hi none n).2.1=((HT.sIx n n hi:Nat):Int)/\(sliceBounds lo hi none n).2.2=1:=by
 refine⟨?_,?_,rfl⟩
 ·cases lo with
  |none=>simp[sliceBounds,HT.sIx]
  |some i=>
   simp only[sliceBounds,HT.sIx,Option.getD_none,show(1:Int)>0 by decide,if_true]
   by_cases h:i<0
   ·simp only[h,if_true]<;>omega
   ·simp only[h,if_false]<;>omega
 ·cases hi with
  |none=>simp[sliceBounds,HT.sIx]
  |some i=>
   simp only[sliceBounds,HT.sIx,Option.getD_none,show(1:Int)>0 by decide,if_true]
   by_cases h:i<0
   ·simp only[h,if_true]<;>omega
   ·simp only[h,if_false]<;>omega
theorem lU(its:List Value)(lo hi:Option Int):slicePick its.toArray lo hi none=((its.drop (HT.sIx its.length 0 lo)).take (HT.sIx its.length its.length hi-HT.sIx its.length 0 lo)).toArray:=by
 obtain⟨h1,h2,h3⟩:=m8 lo hi its.toArray.size
 unfold slicePick
 rw[h1,h2,h3]
 simp only[sliceRange_one,pick_run,QD]<;>rfl
def IV(K:Q5):V->Option Int->Option Int->Hp->VK->Prop:=fun x lo hi H Q=>∃a xs,x=.ref a/\SqL K H a xs/\∀p,H p=none->Q (.ref p) (upd H p (.lst (zZ xs lo hi)))
theorem ub:SlR X (IV X.K):=by
 intro pins s σ H x v vl vu lo hi sl Q I rx hs pl pu h
 obtain⟨a,xs,rfl,hx,q⟩:=h
 cases rx
 obtain⟨its,r,ht,hz⟩:=I.list hx
 have hlen:=r.length
 refine⟨"list",_,slot_list_getitem.lookup,ht.isList.typeIs,?_⟩
 refine wpAny_getItem_list_slice ht.isList hs pl pu .none (by simp) ?_ (by rw[QD]<;>omega)
 rw[lU,<-hlen]
 refine⟨.ref s.heap.objs.size,_,I.laid (t':=s.toks) (o:=.lst (zZ xs lo hi)) (fun b ob q=>Q4 _ q) (QJ _) ?_,rfl,q _ (I.hok.fresh (QJ _))⟩
 exact⟨Qy (kb xs lo hi) hz,_,0,(r.drop (HT.sIx xs.length 0 lo)).take (HT.sIx xs.length xs.length hi-HT.sIx xs.length 0 lo),QY _ rfl⟩
def kE:V->Bool
 |.non=>true
 |.bl _=>true
 |.int _=>true
 |.str _=>true
 |_=>false
def eqV:V->V->Bool
 |.non,.non=>true
 |.bl a,.bl b=>a == b
 |.bl a,.int b=>(if a then 1 else 0) == b
 |.int a,.bl b=>a == (if b then 1 else 0)
 |.int a,.int b=>a == b
 |.str a,.str b=>a == b
 |_,_=>false
theorem Fy{A:Around}{s:Shared}{y x:V}{u v:Value}(ry:bN y u)(rx:bN x v)(fy:kE y=true)(fx:kE x=true):SeqAt.EqAt A s u v (eqV y x):=by
 cases y with
 |non=>
  cases ry
  cases x with
  |non=>cases rx;exact SeqAt.EqAt.same _
  |bl b=>cases rx;exact SeqAt.EqAt.none_bool b
  |int b=>obtain⟨t,rfl⟩:=rx;exact SeqAt.EqAt.none_int b t
  |str b=>obtain⟨t,rfl⟩:=rx;exact SeqAt.EqAt.none_str b t
  |_=>exact absurd (show false=true from fx) QF
 |bl a=>
  cases ry
  cases x with
  |non=>cases rx;exact SeqAt.EqAt.bool_none a
  |bl b=>cases rx;exact SeqAt.EqAt.bool_bool a b
  |int b=>obtain⟨t,rfl⟩:=rx;exact SeqAt.EqAt.bool_int a b t
  |str b=>obtain⟨t,rfl⟩:=rx;exact SeqAt.EqAt.bool_str a b t
  |_=>exact absurd (show false=true from fx) QF
 |int a=>
  obtain⟨t',rfl⟩:=ry
  cases x with
  |non=>cases rx;exact SeqAt.EqAt.int_none a t'
  |bl b=>cases rx;exact SeqAt.EqAt.int_bool a t' b
  |int b=>obtain⟨t,rfl⟩:=rx;exact SeqAt.EqAt.int_int a t' b t
  |str b=>obtain⟨t,rfl⟩:=rx;exact SeqAt.EqAt.int_str a t' b t
  |_=>exact absurd (show false=true from fx) QF
 |str a=>
  obtain⟨t',rfl⟩:=ry
  cases x with
  |non=>cases rx;exact SeqAt.EqAt.str_none a t'
  |bl b=>cases rx;exact SeqAt.EqAt.str_bool a t' b
  |int b=>obtain⟨t,rfl⟩:=rx;exact SeqAt.EqAt.str_int a t' b t
  |str b=>obtain⟨t,rfl⟩:=rx;exact SeqAt.EqAt.str_str a t' b t
  |_=>exact absurd (show false=true from fx) QF
 |_=>exact absurd (show false=true from fy) QF
def eqU(x:V)(u:Value):Bool:=match u with
 |.none=>eqV .non x
 |.bool b=>eqV (.bl b) x
 |.int i _=>eqV (.int i) x
 |.str z _=>eqV (.str z) x
 |_=>false
theorem zT{x y:V}{u:Value}(r:bN y u)(f:kE y=true):eqU x u=eqV y x:=by
 cases y with
 |non=>cases r;rfl
 |bl b=>cases r;rfl
 |int i=>obtain⟨t,rfl⟩:=r;rfl
 |str z=>obtain⟨t,rfl⟩:=r;rfl
 |_=>exact absurd (show false=true from f) QF
theorem kj{x:V}:∀{xs:List V} {us:List Value},a5 xs us->xs.all kE=true->us.any (eqU x)=xs.any fun y=>eqV y x
 |_,_,.nil,_=>rfl
 |y::xs,u::us,.cons r t,f=>by
  rw[List.all_cons,Bool.and_eq_true]at f
  rw[Zw,Zw,zT r f.1,kj t f.2]
theorem gU{A:Around}{s:Shared}{x:V}{v:Value}(rx:bN x v)(fx:kE x=true):∀{xs:List V} {us:List Value},a5 xs us->xs.all kE=true->∀u∈us,SeqAt.EqAt A s u v (eqU x u)
 |_,_,.nil,_=>fun u hu=>by cases hu
 |y::xs,u::us,.cons r t,f=>fun u' hu=>by
  rw[List.all_cons,Bool.and_eq_true]at f
  rcases QM.mp hu with rfl|hu
  ·rw[zT r f.1];exact Fy r rx f.1 fx
  ·exact gU rx fx t f.2 u' hu
def inV(x:V)(xs:List V):Bool:=xs.any fun y=>eqV y x
def rIn(K:Q5)(neg:Bool):R2:=fun x y H Q=>∃p xs,y=.ref p/\(SqL K H p xs\/SqT K H p xs)/\kE x=true/\xs.all kE=true/\Q (.bl (if neg then !inV x xs else inV x xs)) H
theorem uV:OpR X (compareOp .In) (rIn X.K false):=by
 intro pins s σ H x y v u Q I rx ry h
 obtain⟨p,xs,rfl,hq,fx,fs,q⟩:=h
 cases ry
 rcases hq with hq|hq
 ·obtain⟨its,r,pl,hz⟩:=I.list hq
  refine SeqAt.in_listAt (eqU x) pl.isList (fun w hw=>gU rx fx r fs w (by simpa using hw)) ⟨.bl _,H,I,rfl,?_⟩
  rw[show its.toArray.any (eqU x)=its.any (eqU x)by simp,kj r fs]
  exact q
 ·obtain⟨its,r,pl,hz⟩:=I.tuple hq
  refine SeqAt.in_tupleAt (eqU x) pl (fun w hw=>gU rx fx r fs w (by simpa using hw)) ⟨.bl _,H,I,rfl,?_⟩
  rw[show its.toArray.any (eqU x)=its.any (eqU x)by simp,kj r fs]
  exact q
theorem nD:OpR X (compareOp .NotIn) (rIn X.K true):=by
 intro pins s σ H x y v u Q I rx ry h
 obtain⟨p,xs,rfl,hq,fx,fs,q⟩:=h
 cases ry
 rcases hq with hq|hq
 ·obtain⟨its,r,pl,hz⟩:=I.list hq
  refine SeqAt.notIn_listAt (eqU x) pl.isList (fun w hw=>gU rx fx r fs w (by simpa using hw)) ⟨.bl _,H,I,rfl,?_⟩
  rw[show its.toArray.any (eqU x)=its.any (eqU x)by simp,kj r fs]
  exact q
 ·obtain⟨its,r,pl,hz⟩:=I.tuple hq
  refine SeqAt.notIn_tupleAt (eqU x) pl (fun w hw=>gU rx fx r fs w (by simpa using hw)) ⟨.bl _,H,I,rfl,?_⟩
  rw[show its.toArray.any (eqU x)=its.any (eqU x)by simp,kj r fs]
  exact q
theorem oj:cG X (.builtin "len") (fun xs H Q=>∃p ys,xs=[.ref p]/\(SqL X.K H p ys\/SqT X.K H p ys)/\Q (.int ys.length) H):=by
 intro pins s σ H xs us Q I r h
 obtain⟨p,ys,rfl,hq,q⟩:=h
 obtain⟨u,rfl,rx⟩:=gC r
 cases rx
 have hn:=qL
 rcases hq with hq|hq
 ·obtain⟨its,r',pl,hz⟩:=I.list hq
  have hlen:=r'.length
  exact Calls.call_len_list pl.isList (by simp only[QD]<;>omega) ⟨.int ys.length,H,I.tok _,⟨s.toks+1,by rw[QD,hlen]⟩,q⟩
 ·obtain⟨its,r',pl,hz⟩:=I.tuple hq
  have hlen:=r'.length
  exact len_tuple pl (by simp only[QD]<;>omega) ⟨.int ys.length,H,I.tok _,⟨s.toks+1,by rw[QD,hlen]⟩,q⟩
theorem cG.or{f:Value}{r r':List V->Hp->VK->Prop}(h:cG X f r)(h':cG X f r'):cG X f (fun xs H Q=>r xs H Q\/r' xs H Q):=by
 intro pins s σ H xs us Q I rs q
 rcases q with q|q
 ·exact h pins s σ H xs us Q I rs q
 ·exact h' pins s σ H xs us Q I rs q
theorem cV:cG X (.type "list") (fun xs H Q=>∃p ys,xs=[.ref p]/\(SqL X.K H p ys\/SqT X.K H p ys)/\∀l,H l=none->Q (.ref l) (upd H l (.lst ys))):=by
 intro pins s σ H xs us Q I r h
 obtain⟨p,ys,rfl,hq,q⟩:=h
 obtain⟨u,rfl,rx⟩:=gC r
 cases rx
 have fin:∀(its:List Value),a5 ys its->ys.length<=sizeLine->∀(h':Heap) (c':Nat),(∀b o',s.heap.get? b=some o'->h'.get? b=some o')->
   h'.get? s.heap.objs.size=some { cls:=.type "list",dict:=none,data:=.seq its.toArray c',slots:=#[] }->EP X pins σ Q (.ref s.heap.objs.size) { s with heap:=h' }:=fun its r' hz h' c' kp e=>
  ⟨.ref s.heap.objs.size,_,I.laid (t':=s.toks) kp (QJ _) (show bC X.prog X.w _ h' _ (.lst ys)from⟨hz,its,c',r',e⟩),rfl,q _ (I.hok.fresh (QJ _))⟩
 rcases hq with hq|hq
 ·obtain⟨its,r',pl,hz⟩:=I.list hq
  have hlen:=r'.length
  obtain⟨o,ho,hc,n,hd⟩:=pl.isList
  exact call_list_seq p (.inl rfl) ho hc hd (fun h' c' kp e=>fin its r' hz h' c' kp e) (by simp only[QD]<;>omega)
 ·obtain⟨its,r',pl,hz⟩:=I.tuple hq
  have hlen:=r'.length
  obtain⟨o,ho,hc,n,hd⟩:=pl
  exact call_list_seq p (.inr rfl) ho hc hd (fun h' c' kp e=>fin its r' hz h' c' kp e) (by simp only[QD]<;>omega)
theorem dw:cG X (.type "tuple") (fun xs H Q=>∃p ys,xs=[.ref p]/\((SqL X.K H p ys/\∀l,H l=none->Q (.ref l) (upd H l (.tup ys)))\/(SqT X.K H p ys/\Q (.ref p) H))):=by
 intro pins s σ H xs us Q I r h
 obtain⟨p,ys,rfl,h⟩:=h
 obtain⟨u,rfl,rx⟩:=gC r
 cases rx
 rcases h with⟨hq,q⟩|⟨hq,q⟩
 ·obtain⟨its,r',pl,hz⟩:=I.list hq
  have hlen:=r'.length
  refine call_tuple_list pl.isList (fun h' kp=>?_) (by simp only[QD]<;>omega)
  have I1:Inv X pins σ H { s with heap:=h' }:=I.kept (t':=s.toks) kp
  have I2:Inv X pins σ (upd H h'.objs.size (.tup ys)) { s with heap:=h'.push { cls:=.type "tuple",data:=.seq its.toArray } }:=
   I1.laid (t':=s.toks) (fun b o e=>Q4 _ e) (QJ _) (show bC X.prog X.w _ _ _ (.tup ys)from⟨hz,its,r',IsTup.new _ _⟩)
  exact⟨.ref h'.objs.size,_,I2,rfl,q _ (I1.hok.fresh (QJ _))⟩
 ·obtain⟨its,r',pl,hz⟩:=I.tuple hq
  exact call_tuple_same pl ⟨.ref p,H,I,rfl,q⟩
def tyV(K:Q5)(T:String)(x:V)(H:Hp):Prop:=match x with
 |.str _=>T="str"
 |.int _=>T="int"
 | .ref p=>(T="list"/\∃xs,SqL K H p xs)\/(T="tuple"/\∃o,K.lookup p=some o/\o.cls=.type "tuple"/\o.dict=none)\/
   (T="dict"/\((∃kvs,H p=some (.dK kvs))\/∃kvs,H p=some (.dT kvs)))\/(T="set"/\∃S n,H p=some (.set S n))
 |_=>False
theorem DQ{pins:List (Addr×Obj)}{σ:St}{H:Hp}{s:Shared}{T:String}{x:V}{v:Value}(I:Inv X pins σ H s)(r:bN x v)(ty:tyV X.K T x H) :
  s.TypeIs v T/\∀a,v=.ref a->∃ob,s.heap.get? a=some ob/\ob.dict=none:=by
 cases x with
 |str z=>
  obtain⟨t,rfl⟩:=r
  cases (show T="str" from ty)
  exact⟨typeIs_str s z t,fun _ e=>nomatch e⟩
 |int i=>
  obtain⟨t,rfl⟩:=r
  cases (show T="int" from ty)
  exact⟨typeIs_int s i t,fun _ e=>nomatch e⟩
 |ref p=>
  cases r
  rcases ty with⟨rfl,xs,hq⟩|⟨rfl,o,hk,hc,hd⟩|⟨rfl,hk⟩|⟨rfl,S,n,hk⟩
  ·obtain⟨its,_,pl,_⟩:=I.list hq
   refine⟨pl.isList.typeIs,fun a e=>?_⟩
   cases e
   obtain⟨o,n,e,c,hd,_⟩:=pl
   exact⟨o,e,hd⟩
  ·refine⟨⟨o,I.kIn p o hk,hc⟩,fun a e=>?_⟩
   cases e
   exact⟨o,I.kIn _ o hk,hd⟩
  ·have z:∃o,s.heap.get? p=some o/\o.ExactDict:=by
    rcases hk with⟨kvs,hk⟩|⟨kvs,hk⟩
    ·obtain⟨_,_,_,_,o,_,_,e,ex,_⟩:=I.hok p _ hk
     exact⟨o,e,ex⟩
    ·obtain⟨_,_,_,_,o,_,_,e,ex,_⟩:=I.hok p _ hk
     exact⟨o,e,ex⟩
   obtain⟨o,e,ex⟩:=z
   refine⟨⟨o,e,ex.1⟩,fun a e2=>?_⟩
   cases e2
   exact⟨o,e,ex.2.1⟩
  ·obtain⟨o,_,_,_,e,ex,_⟩:=I.hok p _ hk
   refine⟨⟨o,e,ex.1⟩,fun a e2=>?_⟩
   cases e2
   exact⟨o,e,ex.2.1⟩
 |_=>exact False.elim ty
def tBM(K:Q5)(T:String)(r:V->List V->Hp->VK->Prop)(to:TE)(t:TA):TE:=fun σ H Q=>to σ H fun x H1=>tyV K T x H1/\t σ H1 fun xs H2=>r x xs H2 Q
variable{o e:Expr}{es:List Expr}{to:TE}{t:TA}{name:Str}{apos cpos:Pos}{T id:String}{r:V->List V->Hp->VK->Prop}
theorem He(pa:PlainAttrs T)(slot:Slot T name id)(hty:typeOf (.builtin id)=pure (.type "method_descriptor"))(hm:MtR X id r)(ho:PE X o to)(ha:PA X (e::es) t)
  (hbase:attributeBase o name X.env (eval o X.env)=eval o X.env:=by rfl)
  (hfew:((backTo cpos (starEach (e::es) X.env)).all (fun x=>!x.1)&&(backToKw cpos (keywordEach [] X.env)).all (fun x=>x.1.isSome)
   && decide ((e::es).length+([]:List Keyword).length+(if ([]:List Keyword).isEmpty then 0 else 1)<30))=true:=by rfl)
  (hline:(apos.endLine == cpos.line)=true:=by rfl) (hs:starEach (e::es) X.env=(false,eval e X.env)::starEach es X.env:=by rfl) (hplain:(backTo cpos (starEach es X.env)).any (·.1)=false:=by rfl) :
  PE X (.Call (.Attribute o name apos) (e::es) [] cpos) (tBM X.K T r to t):=by
 intro pins s σ H Q I h
 refine wpAny_Call_method_late hbase hfew hline rfl (thn (ho pins s σ H _ I h) fun v s1 hz=>?_)
 obtain⟨x,H1,I1,r1,ty,q1⟩:=hz
 obtain⟨h1,h2⟩:=DQ I1 r1 ty
 refine⟨T,id,pa,slot,hty,h1,h2,?_⟩
 have hA:=ha cpos pins s1 σ H1 _ I1 q1
 rw[hs]at hA ⊢
 refine Calls.callWith_builtin (by show(false||(backTo cpos (starEach es X.env)).any (·.1))=false;rw[hplain]<;>rfl) (Calls.evalArgs_plain ?_)
 exact thn hA fun us s2 ⟨vs,H2,I2,r2,q2⟩=>hm pins s2 σ H2 x vs v us Q I2 r1 r2 q2
end
def MtM(X:Cx)(id:String)(r:V->List V->Hp->VK->Prop):Prop:=
 ∀(pins:List (Addr×Obj)) (s:Shared) (σ:St) (H:Hp) (x:V) (xs:List V) (v:Value) (us:List Value) (Q:VK),Inv X pins σ H s->bN x v->a5 xs us->r x xs H Q->
  wpAny (model X.prog X.w) X.A (call (.builtin id) (v::us)) (EP X pins σ Q) X.xe s
theorem a5.one:∀{x:V} {us:List Value},a5 [x] us->∃u,us=[u]/\bN x u
 |_,_,.cons r .nil=>⟨_,rfl,r⟩
theorem a5.eraseIdx:∀{xs:List V} {us:List Value} (i:Nat),a5 xs us->a5 (xs.eraseIdx i) (us.eraseIdx i)
 |_,_,_,.nil=>.nil
 |_,_,0,.cons _ t=>t
 |_,_,i+1,.cons r t=>.cons r (a5.eraseIdx i t)
theorem nJ{α:Type}:∀(l:List α) (i:Nat),(l.eraseIdx i).length<=l.length
 |[],_=>QJ _
 |_::_,0=>Zm _
 |_::r,i+1=>Nat.succ_le_succ (nJ r i)
section
variable{X:Cx}{pins:List (Addr×Obj)}{σ:St}{H:Hp}{s:Shared}{l b:Addr}{xs ys zs:List V}
theorem Inv.lset{its its':List Value}{n:Nat}{f:Array Value->Array Value}{t':Nat}(I:Inv X pins σ H s)(hH:H l=some (.lst xs))
  (e:s.heap.get? l=some { cls:=.type "list",data:=.seq its.toArray n }) (hf:f its.toArray=its'.toArray) (hv:a5 ys its') (hz:ys.length<=sizeLine) :
  Inv X pins σ (upd H l (.lst ys)) { s with heap:=s.heap.update l (Obj.mapSeq f),toks:=t' }:=by
 have q:=PySem.IsL.update e f
 rw[hf]at q
 refine I.write (x:=l) (e:=l) (by rw[hH];exact trivial) (.inl rfl) (fun b' u hb hu=>(Zq s.heap (Obj.mapSeq f) (Ne.symm hb)).trans hu) ⟨_,q⟩ ?_
 exact⟨hz,its',_,hv,q⟩
theorem Inv.lnew{its:List Value}{t':Nat}(I:Inv X pins σ H s)(hv:a5 ys its)(hz:ys.length<=sizeLine) :
  Inv X pins σ (upd H s.heap.objs.size (.lst ys)) { s with heap:=s.heap.push { cls:=.type "list",data:=.seq its.toArray },toks:=t' }:=
 I.laid (fun _ _ q=>Q4 _ q) (QJ _) ⟨hz,its,0,hv,QY _ rfl⟩
theorem Inv.fresh(I:Inv X pins σ H s):H s.heap.objs.size=none:=I.hok.fresh (QJ _)
theorem Inv.lstM(I:Inv X pins σ H s)(hH:H l=some (.lst xs)):xs.length<=sizeLine/\∃(its:List Value) (n:Nat),a5 xs its/\xs.length=its.length/\s.heap.get? l=some { cls:=.type "list",data:=.seq its.toArray n }:=by
 obtain⟨z,its,n,r,e⟩:=I.hok l _ hH
 exact⟨z,its,n,r,r.length,e⟩
theorem yi{n:Nat}(h:n<=sizeLine):Builtin.List.listTooLong n=false:=by
 unfold Builtin.List.listTooLong
 exact decide_eq_false (by omega)
end
section
variable{X:Cx}
def uw:V->List V->Hp->VK->Prop:=fun x vs H Q=>∃l xs y,x=.ref l/\vs=[y]/\H l=some (.lst xs)/\xs.length<sizeLine/\Q .non (upd H l (.lst (xs++[y])))
theorem gR:MtM X "list.append" uw:=by
 intro pins s σ H x vs v us Q I rx rv h
 obtain⟨l,xs,y,rfl,rfl,hH,hz,q⟩:=h
 cases rx
 obtain⟨u,rfl,ru⟩:=rv.one
 obtain⟨z,its,n,r,hl,e⟩:=I.lstM hH
 refine call_meets F.slot_list_append ⟨_,e,rfl⟩ F.entry_list_append (F.args_list_append_2 _ _) (PySem.list_append l its.toArray n u (by rw[QD];omega)) ⟨e,?_⟩
 refine⟨.non,_,I.lset (its':=its++[u]) hH e (by simp) (r.append (.cons ru .nil)) ?_,rfl,q⟩
 rw[QQ,Z0]
 omega
def uv:V->List V->Hp->VK->Prop:=fun x vs H Q=>∃l b xs zs,x=.ref l/\vs=[.ref b]/\H l=some (.lst xs)/\H b=some (.lst zs)/\xs.length+zs.length<=sizeLine/\Q .non (upd H l (.lst (xs++zs)))
theorem u0:MtM X "list.extend" uv:=by
 intro pins s σ H x vs v us Q I rx rv h
 obtain⟨l,b,xs,zs,rfl,rfl,hH,hB,hz,q⟩:=h
 cases rx
 obtain⟨u,rfl,ru⟩:=rv.one
 cases ru
 obtain⟨z,its,n,r,hl,e⟩:=I.lstM hH
 obtain⟨z2,its2,n2,r2,hl2,e2⟩:=I.lstM hB
 have hsz:its.toArray.size+its2.toArray.size<=sizeLine:=by rw[QD,QD];omega
 have hlong:¬(!its.toArray.isEmpty&&Builtin.List.listTooLong (its.toArray.size+its2.toArray.size))=true:=by
  rw[yi hsz,Bool.and_false]
  exact QF
 refine call_meets F.slot_list_extend ⟨_,e,rfl⟩ F.entry_list_extend (F.args_list_extend_2 _ _)
  (AutoSeq1.list_extend_list_list_0 l its.toArray n b its2.toArray n2 hlong (by rw[QD];omega) (by omega)) ⟨e,e2,?_⟩
 refine⟨.non,_,I.lset (its':=its++its2) hH e (by simp) (r.append r2) ?_,rfl,q⟩
 rw[QQ]
 omega
def zr:V->List V->Hp->VK->Prop:=fun x vs H Q=>∃l xs i k y,x=.ref l/\vs=[.int i]/\H l=some (.lst xs)/\-(2^63)<=i/\i<2^63/\seqIndex? i xs.length=some k/\xs[k]?=some y/\Q y (upd H l (.lst (xs.eraseIdx k)))
theorem yj:MtM X "list.pop" zr:=by
 intro pins s σ H x vs v us Q I rx rv h
 obtain⟨l,xs,i,k,y,rfl,rfl,hH,h1,h2,hk,hy,q⟩:=h
 cases rx
 obtain⟨u,rfl,ru⟩:=rv.one
 obtain⟨t,rfl⟩:=ru
 obtain⟨z,its,n,r,hl,e⟩:=I.lstM hH
 obtain⟨w,hw,rw'⟩:=r.get hy
 refine call_meets F.slot_list_pop ⟨_,e,rfl⟩ F.entry_list_pop (F.args_list_pop_2 _ _)
  (MeetsSeq.list_pop_at l its.toArray n i t k w (fitsIndex_both h1 h2) (by rw[QD,<-hl];exact hk) (by rw[<-Qw];exact hw) (by rw[QD];omega)) ⟨e,?_⟩
 refine⟨y,_,I.lset (its':=its.eraseIdx k) hH e ?_ (r.eraseIdx k) ?_,rw',q⟩
 ·show its.toArray.eraseIdxIfInBounds k=(its.eraseIdx k).toArray
  rw[List.eraseIdxIfInBounds_toArray]
 ·have:=nJ xs k
  omega
def F0:R2:=fun x y H Q=>∃l b xs zs,x=.ref l/\y=.ref b/\H l=some (.lst xs)/\H b=some (.lst zs)/\xs.length+zs.length<=sizeLine/\∀p,H p=none->Q (.ref p) (upd H p (.lst (xs++zs)))
theorem EN:OpR X (binaryOp .Add) F0:=by
 intro pins s σ H x y v u Q I rx ry h
 obtain⟨l,b,xs,zs,rfl,rfl,hH,hB,hz,q⟩:=h
 cases rx
 cases ry
 obtain⟨z,its,n,r,hl,e⟩:=I.lstM hH
 obtain⟨z2,its2,n2,r2,hl2,e2⟩:=I.lstM hB
 refine PySem.P.add_list e e2 ?_ (by rw[QD,QD];omega)
 have ea:its.toArray++its2.toArray=(its++its2).toArray:=by simp
 rw[ea]
 exact⟨.ref _,_,I.lnew (t':=s.toks) (r.append r2) (by rw[QQ];omega),rfl,q _ I.fresh⟩
end
section
variable{κ:Type}[DecidableEq κ]
def ku(kvs:List (κ×V))(k:κ):Option V:=(kvs.find? fun kv=>decide (kv.1=k)).map (·.2)
def oG(kvs:List (κ×V))(k:κ)(v:V):List (κ×V):=
 if (kvs.any fun kv=>decide (kv.1=k))=true then kvs.map (fun kv=>if kv.1=k then(kv.1,v)else kv)else kvs++[(k,v)]
theorem lQ{p:κ×V}{r:List (κ×V)}{k:κ}(e:p.1=k):ku (p::r) k=some p.2:=by simp[ku,ZK,e]
theorem lR{p:κ×V}{r:List (κ×V)}{k:κ}(e:¬p.1=k):ku (p::r) k=ku r k:=by simp[ku,ZK,e]
theorem pW(k:κ):∀kvs:List (κ×V),(kvs.any fun kv=>decide (kv.1=k))=(ku kvs k).isSome
 |[]=>rfl
 |p::r=>by
  rw[Zw]
  by_cases e:p.1=k
  ·simp only[lQ e,decide_eq_true e,Bool.true_or,Option.isSome_some]
  ·rw[lR e,decide_eq_false e,Bool.false_or];exact pW k r
theorem jN(kvs:List (κ×V))(k:κ)(v:V):(oG kvs k v).length<=kvs.length+1:=by
 unfold oG
 split
 ·rw[QZ];omega
 ·rw[QQ,QB,List.length_nil];omega
theorem sO.isSome_eq{o:Option V}{u:Option Value}(r:sO o u):o.isSome=u.isSome:=by
 cases o with
 |none=>cases u with
  |none=>rfl
  |some _=>exact(show False from r).elim
 |some _=>cases u with
  |none=>exact(show False from r).elim
  |some _=>rfl
theorem KV.val{kvs:List (κ×V)}{vs:List (κ×Value)}(r:KV kvs vs)(k:κ):sO (ku kvs k) (valueAt vs k):=by
 unfold KV at r
 induction r with
 |nil=>exact True.intro
 |@cons p q ps qs h t ih=>
  obtain⟨h1,h2⟩:=h
  by_cases e:p.1=k
  ·have e':q.1=k:=h1.symm.trans e
   have b:valueAt (q::qs) k=some q.2:=by simp[valueAt,ZK,e']
   rw[lQ e,b];exact h2
  ·have e':¬q.1=k:=fun z=>e (h1.trans z)
   have b:valueAt (q::qs) k=valueAt qs k:=by simp[valueAt,ZK,e']
   rw[lR e,b];exact ih
theorem KV.any{kvs:List (κ×V)}{vs:List (κ×Value)}(r:KV kvs vs)(k:κ):(kvs.any fun kv=>decide (kv.1=k))=vs.any fun kv=>decide (kv.1=k):=by
 unfold KV at r
 induction r with
 |nil=>rfl
 |cons h t ih=>rw[Zw,Zw,ih,h.1]
theorem KV.repl{kvs:List (κ×V)}{vs:List (κ×Value)}(r:KV kvs vs)(k:κ){y:V}{u:Value}(ry:bN y u) :
  KV (kvs.map fun kv=>if kv.1=k then(kv.1,y)else kv) (vs.map fun kv=>if kv.1=k then(kv.1,u)else kv):=by
 unfold KV at r ⊢
 induction r with
 |nil=>exact .nil
 |@cons p q ps qs h t ih=>
  rw[Qx,Qx]
  refine .cons ?_ ih
  obtain⟨h1,h2⟩:=h
  by_cases e:p.1=k
  ·rw[if_pos e,if_pos (h1.symm.trans e)];exact⟨h1,ry⟩
  ·rw[if_neg e,if_neg (fun z=>e (h1.trans z))];exact⟨h1,h2⟩
theorem KV.put{kvs:List (κ×V)}{vs:List (κ×Value)}(r:KV kvs vs)(k:κ){y:V}{u:Value}(ry:bN y u):KV (oG kvs k y) (stored vs k u):=by
 unfold oG stored
 rw[r.any k]
 by_cases e:(vs.any fun kv=>decide (kv.1=k))=true
 ·rw[if_pos e,if_pos e];exact r.repl k ry
 ·rw[if_neg e,if_neg e];exact Paired.snoc r ⟨rfl,ry⟩
theorem KV.length{kvs:List (κ×V)}{vs:List (κ×Value)}(r:KV kvs vs):kvs.length=vs.length:=Paired.length r
end
theorem vx{P:Program}{w:World}{k:Key}{u:Value}(r:bN (kV k) u):(bA P w).is k u=true:=by
 cases k with
 |inl i=>obtain⟨t,e⟩:=(show ∃t,u=Value.int i t from r);subst e;exact o2 P w i t
 |inr x=>obtain⟨t,e⟩:=(show ∃t,u=Value.str x t from r);subst e;exact oZ P w x t
theorem jP{P:Program}{w:World}:∀{ks:List Key} {us:List Value},a5 (ks.map kV) us->ItemsAre (bA P w) ks us
 |[],_,r=>by rw[Zh]at r;cases r;exact .nil
 |k::ks,_,r=>by
  rw[Qx]at r
  cases r with
  |cons h t=>exact .cons (vx h) (jP t)
abbrev KT(H:Hp):List (List Key×V)->List (List Key×Addr×Value)->Prop:=Paired fun p q=>p.1=q.1/\H q.2.1=some (.tup (p.1.map kV))/\bN p.2 q.2.2
theorem KT.val{H:Hp}{kvs:List (List Key×V)}{xs:List (List Key×Addr×Value)}(r:KT H kvs xs)(k:List Key):sO (ku kvs k) ((atKey xs k).map (·.2)):=by
 induction r with
 |nil=>exact True.intro
 |@cons p q ps qs h t ih=>
  obtain⟨h1,_,h2⟩:=h
  by_cases e:p.1=k
  ·have e':q.1=k:=h1.symm.trans e
   have b:atKey (q::qs) k=some q.2:=by simp[atKey,ZK,e']
   rw[lQ e,b];exact h2
  ·have e':¬q.1=k:=fun z=>e (h1.trans z)
   have b:atKey (q::qs) k=atKey qs k:=by simp[atKey,ZK,e']
   rw[lR e,b];exact ih
theorem KT.repl{H:Hp}{kvs:List (List Key×V)}{xs:List (List Key×Addr×Value)}(r:KT H kvs xs)(k:List Key){y:V}{u:Value}(ry:bN y u) :
  KT H (kvs.map fun kv=>if kv.1=k then(kv.1,y)else kv) (xs.map (putAt k u)):=by
 induction r with
 |nil=>exact .nil
 |@cons p q ps qs h t ih=>
  rw[Qx,Qx]
  refine .cons ?_ ih
  obtain⟨h1,h2,h3⟩:=h
  unfold putAt
  by_cases e:p.1=k
  ·rw[if_pos e,if_pos (h1.symm.trans e)];exact⟨h1,h2,ry⟩
  ·rw[if_neg e,if_neg (fun z=>e (h1.trans z))];exact⟨h1,h2,h3⟩
theorem KT.put{H:Hp}{kvs:List (List Key×V)}{xs:List (List Key×Addr×Value)}(r:KT H kvs xs)(k:List Key){b:Addr}{y:V}{u:Value}(hb:H b=some (.tup (k.map kV)))(ry:bN y u) :
  KT H (oG kvs k y) (storedH xs k b u):=by
 have e:(kvs.any fun kv=>decide (kv.1=k))=(atKey xs k).isSome:=by
  rw[pW,(r.val k).isSome_eq,Option.isSome_map]
 unfold oG storedH
 rw[e]
 by_cases q:(atKey xs k).isSome=true
 ·rw[if_pos q,if_pos q];exact r.repl k ry
 ·rw[if_neg q,if_neg q];exact Paired.snoc r ⟨rfl,hb,ry⟩
theorem KT.keeps{H H':Hp}{kvs:List (List Key×V)}{xs:List (List Key×Addr×Value)}(r:KT H kvs xs)(ht:∀b ys,H b=some (.tup ys)->H' b=some (.tup ys)):KT H' kvs xs:=
 Paired.mapP r fun _ _ z=>⟨z.1,ht _ _ z.2.1,z.2.2⟩
section
variable{P:Program}{w:World}{H:Hp}{h:Heap}{a:Addr}
theorem Ec{u:HO}(ok:HOk P w H h)(e:Rd H a u):bC P w H h a u:=e.ok ok
theorem sH{kvs:List (Key×V)}(ok:HOk P w H h)(e:Rd H a (.dK kvs)):kvs.length<=sizeLine/\(a == sysModules)=false/\∃vs,KV kvs vs/\h.DictOf (bA P w) a vs:=
 show bC P w H h a (.dK kvs)from Ec ok e
theorem FF{kvs:List (Key×V)}(ok:HOk P w H h)(e:H a=some (.dK kvs)):kvs.length<=sizeLine/\(a == sysModules)=false/\∃vs,KV kvs vs/\h.DictOf (bA P w) a vs:=sH ok (.inl e)
theorem nK{ks:List Key}(ok:HOk P w H h)(e:H a=some (.tup (ks.map kV))):(tupleKind (bA P w)).is h ks a:=by
 obtain⟨_,its,r,o,h1,h2,n,h3⟩:=(show bC P w H h a (.tup (ks.map kV))from ok a _ e)
 exact⟨o,its.toArray,n,h1,h2,h3,by simpa using jP r⟩
theorem px{kvs:List (List Key×V)}(ok:HOk P w H h)(e:Rd H a (.dT kvs)):kvs.length<=sizeLine/\(a == sysModules)=false/\
  ∃xs,KT H kvs xs/\h.DictOfH (tupleKind (bA P w)) a xs:=by
 obtain⟨z,y,xs,r,o,es,ep,h1,h2,h3,h4,h5⟩:=(show bC P w H h a (.dT kvs)from Ec ok e)
 refine⟨z,y,xs,r,o,es,ep,h1,h2,h3,h4,fun x hx=>?_,h5⟩
 have all:∀{l:List (List Key×V)} {m:List (List Key×Addr×Value)},KT H l m->∀x∈m,(tupleKind (bA P w)).is h x.1 x.2.1:=by
  intro l m q
  induction q with
  |nil=>intro x hx;exact nomatch hx
  |@cons p q ps qs hq t ih=>
   intro x hx
   rcases QM.mp hx with e|hx
   ·subst e
    exact nK ok (by rw[<-hq.1];exact hq.2.1)
   ·exact ih x hx
 exact all r x hx
theorem HL{kvs:List (List Key×V)}(ok:HOk P w H h)(e:H a=some (.dT kvs)):kvs.length<=sizeLine/\(a == sysModules)=false/\
  ∃xs,KT H kvs xs/\h.DictOfH (tupleKind (bA P w)) a xs:=px ok (.inl e)
end
def DGet(H:Hp)(a:Addr)(y:V)(r:Option V):Prop:=
 (∃kvs k,Rd H a (.dK kvs)/\y=kV k/\r=ku kvs k)\/∃kvs k b,Rd H a (.dT kvs)/\y=.ref b/\H b=some (.tup (k.map kV))/\r=ku kvs k
def Af(H:Hp)(a:Addr)(y v:V)(H':Hp):Prop:=
 (∃kvs k,H a=some (.dK kvs)/\y=kV k/\kvs.length<sizeLine/\H'=upd H a (.dK (oG kvs k v)))\/
 ∃kvs k b,H a=some (.dT kvs)/\y=.ref b/\H b=some (.tup (k.map kV))/\kvs.length<sizeLine/\H'=upd H a (.dT (oG kvs k v))
theorem DGet.k{H:Hp}{a:Addr}{kvs:List (Key×V)}{k:Key}(e:H a=some (.dK kvs)):DGet H a (kV k) (ku kvs k):=.inl ⟨kvs,k,.inl e,rfl,rfl⟩
theorem Af.k{H:Hp}{a:Addr}{kvs:List (Key×V)}{k:Key}{v:V}(e:H a=some (.dK kvs))(hl:kvs.length<sizeLine):Af H a (kV k) v (upd H a (.dK (oG kvs k v))):=.inl ⟨kvs,k,e,rfl,hl,rfl⟩
theorem Af.t{H:Hp}{a b:Addr}{kvs:List (List Key×V)}{k:List Key}{v:V}(e:H a=some (.dT kvs))(eb:H b=some (.tup (k.map kV)))(hl:kvs.length<sizeLine) :
  Af H a (.ref b) v (upd H a (.dT (oG kvs k v))):=.inr ⟨kvs,k,b,e,rfl,eb,hl,rfl⟩
section
variable{X:Cx}{pins:List (Addr×Obj)}{σ:St}{H:Hp}{s:Shared}{a:Addr}{y v:V}{u r:Value}{o:Option V}{A:Around}{E:Value->Shared->Prop}
theorem Inv.big(I:Inv X pins σ H s):sysModules<s.heap.objs.size:=by
 have h:mainGlobals<s.heap.objs.size:=(I.mod.glob.keeps I.bk).lt
 exact Nat.lt_trans (by decide) h
theorem v8{Q:Value->Shared->Prop}(hu:A.units+1<cLine)(I:Inv X pins σ H s)(g:DGet H a y (some v))(ry:bN y u)(h:∀w' s',Inv X pins σ H s'->bN v w'->Q w' s') :
  wpAny (model X.prog X.w) A (getItem (.ref a) u) Q E s:=by
 rcases g with⟨kvs,k,e,ey,l⟩|⟨kvs,k,b,e,ey,eb,l⟩
 ·subst ey
  obtain⟨z,hd,vs,rel,dd⟩:=sH I.hok e
  obtain⟨w',hw,rw'⟩:=sO.some_of (v:=v) (o:=valueAt vs k) (by rw[l];exact rel.val k)
  exact wpAny_getItem_of (vx ry) dd.mapOf hw (h w' _ (I.tok _) rw')
 ·subst ey
  cases (show u=Value.ref b from ry)
  obtain⟨z,hd,xs,rel,dd⟩:=px I.hok e
  obtain⟨w',hw,rw'⟩:=sO.some_of (v:=v) (o:=(atKey xs k).map (·.2)) (by rw[l];exact rel.val k)
  obtain⟨p,hp,hp2⟩:=Qm.mp hw
  refine wpAny_getItem_heap (tupleKind_room_in1 hu) (nK I.hok eb) dd hp ?_
  rw[hp2]
  exact h w' _ (I.tok _) rw'
theorem Jd{Q:Value->Shared->Prop}(hu:A.units+1<cLine)(I:Inv X pins σ H s)(g:DGet H a y o)(ry:bN y u)(h:∀s',Inv X pins σ H s'->Q (.bool o.isSome) s') :
  wpAny (model X.prog X.w) A (compareOp .In u (.ref a)) Q E s:=by
 rcases g with⟨kvs,k,e,ey,l⟩|⟨kvs,k,b,e,ey,eb,l⟩
 ·subst ey
  obtain⟨z,hd,vs,rel,dd⟩:=sH I.hok e
  refine wpAny_in_of (vx ry) hd dd.mapOf ?_
  rw[<-(rel.val k).isSome_eq,<-l]
  exact h _ (I.tok _)
 ·subst ey
  cases (show u=Value.ref b from ry)
  obtain⟨z,hd,xs,rel,dd⟩:=px I.hok e
  refine wpAny_in_heap (tupleKind_room_in1 hu) (nK I.hok eb) hd dd ?_
  have q:=(rel.val k).isSome_eq
  rw[Option.isSome_map]at q
  rw[<-q,<-l]
  exact h _ (I.tok _)
theorem CL{Q:Value->Shared->Prop}(hu:A.units+1<cLine)(I:Inv X pins σ H s)(g:DGet H a y o)(ry:bN y u)(h:∀s',Inv X pins σ H s'->Q (.bool (!o.isSome)) s') :
  wpAny (model X.prog X.w) A (compareOp .NotIn u (.ref a)) Q E s:=by
 rcases g with⟨kvs,k,e,ey,l⟩|⟨kvs,k,b,e,ey,eb,l⟩
 ·subst ey
  obtain⟨z,hd,vs,rel,dd⟩:=sH I.hok e
  refine wpAny_notIn_of (vx ry) hd dd.mapOf ?_
  rw[<-(rel.val k).isSome_eq,<-l]
  exact h _ (I.tok _)
 ·subst ey
  cases (show u=Value.ref b from ry)
  obtain⟨z,hd,xs,rel,dd⟩:=px I.hok e
  refine wpAny_notIn_heap (tupleKind_room_in1 hu) (nK I.hok eb) hd dd ?_
  have q:=(rel.val k).isSome_eq
  rw[Option.isSome_map]at q
  rw[<-q,<-l]
  exact h _ (I.tok _)
theorem vZ{h':Heap}{t':Nat}{ob:HO}(I:Inv X pins σ H s)(mu:Mut (H a))(hs:Ze a s.heap h')(he:∃q,h'.get? a=some q)(new:bC X.prog X.w (upd H a ob) h' a ob) :
  Inv X pins σ (upd H a ob) { s with heap:=h',toks:=t' }:=
 I.write (x:=a) (e:=a) mu (.inl rfl) (fun b q hb z=>(hs.2 b hb).trans z) he new
theorem FG{P:Program}{w:World}{H':Hp}{h':Heap}{kvs:List (Key×V)}{vs:List (Key×Value)}(z:kvs.length<=sizeLine)(hd:(a == sysModules)=false)(rel:KV kvs vs)(dd:h'.DictOf (bA P w) a vs) :
  bC P w H' h' a (.dK kvs):=⟨z,hd,vs,rel,dd⟩
theorem v7{H':Hp}{Q:Unit->Shared->Prop}(hu:A.units+1<cLine)(I:Inv X pins σ H s)(g:Af H a y v H')(ry:bN y u)(rv:bN v r)(h:∀s',Inv X pins σ H' s'->Q () s') :
  wpAny (model X.prog X.w) A (setItem (.ref a) u r) Q E s:=by
 rcases g with⟨kvs,k,e,ey,l,eH⟩|⟨kvs,k,b,e,ey,eb,l,eH⟩
 ·subst ey eH
  obtain⟨z,hd,vs,rel,dd⟩:=FF I.hok e
  have hz:vs.length<=sizeLine:=by rw[<-rel.length];exact z
  have hl:(oG kvs k v).length<=sizeLine:=by have:=jN kvs k v;omega
  refine wpAny_setItem_pairs (hsz:=hz) (vx ry) dd fun h' dd' hs=>h _ ?_
  have he:∃q,h'.get? a=some q:=let ⟨q,_,_,hq,_⟩:=dd';⟨q,hq⟩
  exact vZ I (by rw[e];exact True.intro) hs he (FG hl hd (rel.put k rv) dd')
 ·subst ey eH
  cases (show u=Value.ref b from ry)
  obtain⟨z,hd,xs,rel,dd⟩:=HL I.hok e
  have hz:xs.length<=sizeLine:=by rw[<-Paired.length rel];exact z
  have hl:(oG kvs k v).length<=sizeLine:=by have:=jN kvs k v;omega
  refine wpAny_setItem_heap (hsz:=hz) (tupleKind_room_in1 hu) (nK I.hok eb) dd fun h' dd' hs=>h _ ?_
  obtain⟨q,es,ep,hq,h2,h3,h4,_,h5⟩:=dd'
  refine vZ I (by rw[e];exact True.intro) hs ⟨q,hq⟩ ⟨hl,hd,_,(rel.put k eb rv).keeps fun c ys ec=>?_,q,es,ep,hq,h2,h3,h4,h5⟩
  rw[aV (Ho ec e (fun z=>nomatch z))]
  exact ec
end
section
variable{X:Cx}{pins:List (Addr×Obj)}{σ:St}{H:Hp}{s:Shared}{a:Addr}{kvs:List (Key×V)}{k:Key}{u:Value}{A:Around}{E:Value->Shared->Prop}
theorem HM{Q:Value->Shared->Prop}(I:Inv X pins σ H s)(e:Rd H a (.dK kvs))(h:∀t s',Inv X pins σ H s'->Q (.int kvs.length t) s'):wpAny (model X.prog X.w) A (call (.builtin "len") [.ref a]) Q E s:=by
 obtain⟨z,hd,vs,rel,dd⟩:=sH I.hok e
 refine call_len_dict hd dd (by rw[<-rel.length];rw[sizeLine_eq]at z;omega) ?_
 rw[<-rel.length]
 exact h _ _ (I.tok _)
end
def C6(i:Expr):Prop:=∀ov iv,subscripted i false ov iv=operate [ov,iv] (getItem ov iv)
theorem tY{prog:Program}{w:World}{A:Around}{E:Value->Shared->Prop}{s:Shared}{env:Env}{value slice:Expr}{pos:Pos}{T id:String}{Q:Value->Shared->Prop}
  (hl:typeLookup (.type T) "__getitem__"=pure (some (.builtin id))) (hs:C6 slice)
  (h:wpAny (model prog w) A (eval value env) (fun o s₁=>wpAny (model prog w) A (eval slice env) (fun i s₂=>s₂.TypeIs o T/\wpAny (model prog w) A (getItem o i) Q E s₂) E s₁) E s) :
  wpAny (model prog w) A (eval (.Subscript value slice pos) env) Q E s:=by
 refine Subscript_ (Z6 h (fun o s₁ h₁=>Z6 h₁ (fun i s₂ h₂=>?_) fun _ _ x=>x) fun _ _ x=>x)
 obtain⟨hT,h₂⟩:=h₂
 unfold subscriptTail
 refine Q2 ?_
 rw[getitemInPython_of_ne hT.not_modules]
 refine Q2 (wpAny_specialOf hT hl ?_)
 have fin:wpAny (model prog w) A (subscripted slice false o i) (fun r s₃=>wpAny (model prog w) A (letTemporaryGo value o r >>= fun _=>pure r) Q E s₃) E s₂:=by
  rw[hs o i]
  exact wpAny_operating (Z6 h₂ (fun r s₃ h₃=>Q2 (wpAny_letTemporaryGo (Q8 h₃))) fun _ _ x=>x)
 first
  |exact Q8 (Q2 fin)
  |exact Q2 (Q8 (Q2 fin))
  |exact Q2 fin
theorem pA{X:Cx}{pins:List (Addr×Obj)}{σ:St}{H:Hp}{s:Shared}{a:Addr}{y:V}{o:Option V}(I:Inv X pins σ H s)(g:DGet H a y o):s.TypeIs (.ref a) "dict":=by
 rcases g with⟨kvs,k,e,_,_⟩|⟨kvs,k,b,e,_,_,_⟩
 ·obtain⟨_,_,vs,_,dd⟩:=sH I.hok e
  exact dd.typeIs
 ·obtain⟨_,_,xs,_,dd⟩:=px I.hok e
  exact dd.typeIs
def DX(td ty:TE):TE:=fun σ H Q=>td σ H fun x H1=>ty σ H1 fun y H2=>∃a v,x=.ref a/\DGet H2 a y (some v)/\Q v H2
def GN(ty td:TE):TE:=fun σ H Q=>ty σ H fun y H1=>td σ H1 fun x H2=>∃a o,x=.ref a/\DGet H2 a y o/\Q (.bl o.isSome) H2
def oS(ty td:TE):TE:=fun σ H Q=>ty σ H fun y H1=>td σ H1 fun x H2=>∃a o,x=.ref a/\DGet H2 a y o/\Q (.bl (!o.isSome)) H2
def D8(td ty tv:TE):TS:=fun D σ H=>tv σ H fun v H1=>td σ H1 fun x H2=>ty σ H2 fun y H3=>∃a H4,x=.ref a/\Af H3 a y v H4/\D.nx σ H4
section
variable{X:Cx}{o i e value:Expr}{pos pos' tpos:Pos}{td ty tv:TE}
theorem BM(hu:X.A.units+1<cLine)(ho:PE X o td)(hi:PE X i ty)(hs:C6 i):PE X (.Subscript o i pos) (DX td ty):=by
 intro pins s σ H Q I h
 refine tY PySem.F.slot_dict_getitem.lookup hs (thn (ho pins s σ H _ I h) fun u s1 ⟨x,H1,I1,rx,q1⟩=>thn (hi pins s1 σ H1 _ I1 q1) fun iv s2 hz=>?_)
 obtain⟨y,H2,I2,ry,a,v,ex,g,q2⟩:=hz
 subst ex
 obtain rfl:u=Value.ref a:=rx
 exact⟨pA I2 g,v8 hu I2 g ry fun w' s3 I3 rw'=>⟨v,H2,I3,rw',q2⟩⟩
theorem EE(hu:X.A.units+1<cLine)(hi:PE X i ty)(ho:PE X o td):PC X .In i o (GN ty td):=by
 intro pins s σ H Q I h
 refine thn (hi pins s σ H _ I h) fun iv s1 ⟨y,H1,I1,ry,q1⟩=>thn (ho pins s1 σ H1 _ I1 q1) fun u s2 hz=>?_
 obtain⟨x,H2,I2,rx,a,ov,ex,g,q2⟩:=hz
 subst ex
 obtain rfl:u=Value.ref a:=rx
 exact Jd hu I2 g ry fun s3 I3=>⟨.bl ov.isSome,H2,I3,rfl,q2⟩
theorem uQ(hu:X.A.units+1<cLine)(hi:PE X i ty)(ho:PE X o td):PC X .NotIn i o (oS ty td):=by
 intro pins s σ H Q I h
 refine thn (hi pins s σ H _ I h) fun iv s1 ⟨y,H1,I1,ry,q1⟩=>thn (ho pins s1 σ H1 _ I1 q1) fun u s2 hz=>?_
 obtain⟨x,H2,I2,rx,a,ov,ex,g,q2⟩:=hz
 subst ex
 obtain rfl:u=Value.ref a:=rx
 exact CL hu I2 g ry fun s3 I3=>⟨.bl (!ov.isSome),H2,I3,rfl,q2⟩
theorem BD(hu:X.A.units+1<cLine)(ho:PE X o td)(hi:PE X i ty)(hv:PE X value tv)(hs:swapsWith value (some (.Subscript o i pos')) pos.line X.env=pure false) :
  PS X (.Assign [.Subscript o i pos'] value pos) (D8 td ty tv):=by
 intro pins s σ H D I h
 refine wpAny_Assign_Subscript (thn (hv pins s σ H _ I h) fun r s1 ⟨v,H1,I1,rv,q1⟩=>thn (ho pins s1 σ H1 _ I1 q1) fun u s2 ⟨x,H2,I2,rx,q2⟩=>thn (hi pins s2 σ H2 _ I2 q2) fun iv s3 hz=>?_) hs
 obtain⟨y,H3,I3,ry,a,H4,ex,g,q3⟩:=hz
 subst ex
 obtain rfl:u=Value.ref a:=rx
 exact v7 hu I3 g ry rv fun s4 I4=>⟨σ,H4,I4,q3⟩
end
theorem yR{P:Program}{w:World}{H:Hp}(h:Heap)(hb:sysModules<h.objs.size):bC P w H (h.push { cls:=.type "dict",data:=.dict #[] }) h.objs.size (.dT []):=
 ⟨Qs _,beq_eq_false_iff_ne.mpr (Ne.symm (QC hb)),[],.nil,_,#[],0,QY _ rfl,⟨rfl,rfl,rfl⟩,rfl,rfl,List.nodup_nil⟩
def zi:TE:=fun _ H Q=>∀p,H p=none->Q (.ref p) (upd H p (.dT []))
section
variable{X:Cx}{pos:Pos}
theorem xX:PE X (.Dict [] [] pos) zi:=fun pins s σ H Q I h=>
 wpAny_Dict_empty ⟨.ref s.heap.objs.size,_,I.laid (a:=s.heap.objs.size) (o:=.dT []) (t':=s.toks) (fun _ _ q=>Q4 _ q) (QJ _) (yR s.heap I.big),rfl,h _ (I.hok.fresh (QJ _))⟩
end
end L2
namespace Att
open PySem PySem.W PySem.Calls PyProof.Rows
theorem jQ{P:Params}{h:Heap}:∀(ns:List Int) (vs:List Value),WellAll P h vs (ns.map WData.int)->IntsAre vs ns:=by
 intro ns
 induction ns with
 |nil=>
  intro vs w
  rw[Zh]at w
  cases w
  exact .nil
 |cons n ns ih=>
  intro vs w
  rw[Qx]at w
  cases w with
  |cons a b=>
   cases a
   exact .cons _ _ (ih _ b)
theorem ug{l:OpenLaw}{n:Nat}(hn:l.most=some n){P:Params}{h:Heap}{args:List WData}{vals:List Value}
  (hpre:l.row.toRowW.claim.pre args=true) (hwl:WellAll P h vals args) :
  ∃a vs ns,vals=[Value.ref a]/\args=[WData.list (ns.map WData.int)]/\h.get? a=some { cls:=.type "list",data:=.seq vs.toArray }/\IntsAre vs ns/\ns.length<=n:=by
 have hsh:WShape.hasAll [] args [.list .int]=true:=(pre_splitW hpre).1
 have hc:l.pre.holds [] { args:=args }=true:=(pre_splitW hpre).2
 obtain⟨d,r,rfl,h1,h2⟩:=hasAllW_cons hsh
 obtain rfl:=hasAllW_nil h2
 obtain⟨xs,rfl,h3⟩:=hasW_list h1
 obtain⟨ns,rfl⟩:=items_int h3
 have hlen:ns.length<=n:=by
  unfold OpenLaw.pre at hc
  have h4:(WTm.not (.lt (.lit (.int (n:Int))) (.len (.arg 0)))).holds [] { args:=[.list (ns.map .int)] }=true:=by
   have h4:=(holds_andW hc).1
   rw[hn]at h4
   exact h4
  have h5:=condW_of h4 (w_not (w_lt w_lit (w_len_list (w_arg rfl))))
  rw[QZ]at h5
  refine Nat.le_of_not_lt fun q=>?_
  have q':(n:Int)<((ns.length:Nat):Int):=by omega
  first
   |(rw[decide_eq_true q']at h5;exact absurd h5 (by decide))
   |(simp at h5;omega)
 cases hwl with
 |cons w1 w2=>
  cases w2
  cases w1 with
  |list ho hall=>exact⟨_,_,ns,rfl,rfl,ho,jQ ns _ hall,hlen⟩
theorem uJ(l:OpenLaw)(args:List WData):l.row.toRowW.claim.post args (.bool true) args=true:=
 postW_of (r:=l.row.toRowW) (X:=(true == true))
  (show WShape.has [] (.bool true) .bool=true by first|rfl|decide|simp[WShape.has,WShape.arms,WShape.armsAll])
  (show(WTm.eq .res (.lit (.bool true))).value [] { args:=args,res:=some (.bool true),after:=args }=some (.bool (true == true))from w_eq_bool (w_res rfl) w_lit) rfl
theorem attach_call{l:OpenLaw}{n:Nat}{q:Program}{loose:List Str}{XP:(Str->Option Value)->Heap->Prop}{YP:World->Heap->Prop}{d:DefRec}
  (hn:l.most=some n) (hdf:d.params.defaults=[])
  (call:∀(w:World) (s₀ s₁:Shared) (mg mb:Str->Option Value) (fa:Addr) (o:Obj) (pm cd doc:Value) (a:Addr) (vs:List Value) (ns:List Int),
   Ground q loose [] XP w s₀ mg mb s₁.heap->YP w s₁.heap->
   s₁.heap.get? fa=some o->o.data=.func (docDef d.name d.params d.body d.scope pm cd doc)->s₁.heap.CodeRec cd d.name->mg d.name=some (.ref fa)->
   s₁.heap.get? a=some { cls:=.type "list",data:=.seq vs.toArray }->IntsAre vs ns->ns.length<=n->s₁.gens=#[]->
   codeAny (model l.prog w) callerA (.call (.ref fa) ⟨[.ref a],[]⟩) (fun r s'=>r=.ok (.ret (.bool true))/\OldK s₁.heap s'.heap/\s'.os=s₁.os/\AllBare s'.gens) s₁) :
  WalkO q loose XP YP l.row.toRowW d [] (fun f vs=>PySem.call f vs):=by
 intro w s₀ s₁ mg mb G Y fa o pm cd doc dV kV ho hd hcd hD hmg hg args vals as hpre hlay hrd hwl hlo
 obtain rfl:dV=.none:=Dflts.none hD hdf
 obtain rfl:kV=.none:=Dflts.noKw hD
 obtain⟨a,vs,ns,rfl,rfl,hobj,hints,hlen⟩:=ug hn hpre hwl
 refine enter_call (codeAny_mono (call w s₀ s₁ mg mb fa o pm cd doc a vs ns G Y ho (fd_plain hd) hcd hmg hobj hints hlen hg) fun r s' hq=>?_)
 obtain⟨rfl,h2,h3,h4⟩:=hq
 exact⟨.inl ⟨.bool true,.bool true,[],rfl,fun _=>rfl,.bool true,uJ l _,fun _=>⟨List.Pairwise.nil,fun _ hm=>(nomatch hm)⟩⟩,h2,h3,h4⟩
end Att
namespace L2
open PySem PySem.Spec PyProof.Rows
theorem fh:∀{vs:List Value} {ns:List Int},IntsAre vs ns->a5 (ns.map V.int) vs
 |_,_,.nil=>.nil
 |_,_,.cons n t h=>.cons ⟨t,rfl⟩ (fh h)
def Ga(H:Hp):Prop:=∀b,H b=none\/∃o xs,H b=some (.frz o (.lst xs))
theorem yA{P:Program}{w:World}{K:Q5}{mg mb:Str->Option Value}{CX:CXT}{k:Nat}{fa a:Addr}{fd:FuncData}{x:Str}{sp:Sp}{s₁:Shared}{vs:List Value}{ns:List Int}
  (KX:K.In s₁.heap) (hns:s₁.heap.Ns mainGlobals mg) (hb:s₁.heap.Ns builtinsNs mb) (hbb:∀x:Str,x≠"__name__"->mb x=bootBuiltins x) (hlim:s₁.heap.NoLimit) (hg:s₁.gens=#[])
  (ha:s₁.heap.get? a=some { cls:=.type "list",data:=.seq vs.toArray }) (hi:IntsAre vs ns) (hl:ns.length<=sizeLine) (hr:km k callerA)
  (F:∀base:Heap,K.In base->base.Ns mainGlobals mg->oI P w K mg base CX k fa fd [x] sp) (hbind:∀(s:Shared) (u:Value),BindsTo s fd ⟨[u],[]⟩ [(x,u)])
  (hsp:∀H:Hp,Ga H->SqL K H a (ns.map V.int)->sp [.ref a] H (fun v _=>v=.bl true) fun _ _ _=>False)
  (hCX:∀H e s',CX [] H s₁ (fun _ _ _=>False) e s'->False) :
  codeAny (model P w) callerA (.call (.ref fa) ⟨[.ref a],[]⟩) (fun r s'=>r=.ok (.ret (.bool true))/\OldK s₁.heap s'.heap/\s'.os=s₁.os/\AllBare s'.gens) s₁:=by
 have rv:=fh hi
 have lenV:=hi.length
 have core:∀H:Hp,Ga H->SqL K H a (ns.map V.int)->HOk P w H s₁.heap->(∀b,H b≠none->b=a)->(H a≠none->K.lookup a=none)->
   codeAny (model P w) callerA (.call (.ref fa) ⟨[.ref a],[]⟩) (fun r s'=>r=.ok (.ret (.bool true))/\OldK s₁.heap s'.heap/\s'.os=s₁.os/\AllBare s'.gens) s₁:=by
  intro H hO hS hok hA hK
  have base_of:∀{b:Addr} {o:Obj},s₁.heap.get? b=some o->H b=none->(yI s₁.heap H).get? b=some o:=fun e n=>yH e n
  have noA:∀{b:Addr} {o:Obj} {es:Array DictEntry} {ep:Nat},s₁.heap.get? b=some o->o.data=.dict es ep->H b=none:=fun{b o es ep} e d=>by
   cases q:H b with
   |none=>rfl
   |some u=>
    have e':b=a:=hA b (by rw[q];simp)
    subst e'
    rw[ha]at e;cases e
    have d':Data.seq vs.toArray _=Data.dict es ep:=d
    cases d'
  have nsK:∀{b:Addr} {m:Str->Option Value},s₁.heap.Ns b m->(yI s₁.heap H).Ns b m:=fun{b m} ⟨o,es,ep,e,d,r⟩=>⟨o,es,ep,base_of e (noA e d),d,r⟩
  have hKb:K.In (yI s₁.heap H):=fun b o e=>base_of (KX b o e) (by
   cases q:H b with
   |none=>rfl
   |some u=>
    have e':b=a:=hA b (by rw[q];simp)
    subst e'
    rw[hK (by rw[q];simp)]at e;cases e)
  have hM:Mod K mg (yI s₁.heap H):=⟨hKb,nsK hns,⟨mb,nsK hb,hbb⟩,let ⟨mc,h1,h2⟩:=hlim;⟨mc,nsK h1,h2⟩⟩
  have e0:Ge P w K mg (yI s₁.heap H) callerA [] s₁ H:=⟨rfl,hM,fun b o e=>BZ e,Nat.le_of_eq (vJ _ _),trivial,fun b hb=>absurd (show b∈([]:List Addr)from hb) (by simp),hok,.of_eq hg⟩
  refine codeAny_mono ((F _ hKb (nsK hns)).run callerA [] s₁ H ⟨[.ref a],[]⟩ [.ref a] [.ref a] _ _ hr e0 (hbind s₁ (.ref a)) (.cons rfl .nil) (hsp H hO hS)) fun r s' h=>?_
  cases r with
  |error e=>exact(hCX H e s' h).elim
  |ok fl=>
   cases fl with
   |next=>exact False.elim h
   |brk=>exact False.elim h
   |cont=>exact False.elim h
   |ret u=>
    obtain⟨v,H',os,bare,un,hok',r',q⟩:=h
    have q':v=.bl true:=q
    subst q'
    obtain rfl:u=Value.bool true:=r'
    refine⟨rfl,OldK.of_keep fun b o e=>?_,os,bare⟩
    cases q:H b with
    |none=>exact un.keep b o e q (by intro z;exact absurd (show b∈([]:List Addr)from z) (by simp)) (by simp)
    |some u=>
     rcases hO b with z|⟨ob,xs,z⟩
     ·rw[q]at z;cases z
     ·have z2:=un.frzs b ob _ z
      obtain⟨e1,_⟩:=hok b _ z
      obtain⟨e2,_⟩:=hok' b _ z2
      rw[e]at e1;cases e1
      exact e2
 cases hk:K.lookup a with
 |some o=>
  have e:=KX a o hk
  rw[ha]at e
  cases e
  refine core (fun _=>none) (fun _=>.inl rfl) (.inr ⟨_,vs.toArray,_,hk,rfl,rfl,rfl,by rw[QD,lenV];exact hl,by simpa using rv⟩) (fun b u z=>by have z':(none:Option HO)=some u:=z;cases z') (fun b z=>absurd rfl z) fun z=>absurd rfl z
 |none=>
  refine core (fun b=>if b=a then some (.frz { cls:=.type "list",data:=.seq vs.toArray } (.lst (ns.map V.int)))else none) (fun b=>?_) (.inl (.inr ⟨{ cls:=.type "list",data:=.seq vs.toArray },if_pos rfl⟩)) (fun b u z=>?_) (fun b z=>?_) fun _=>hk
  ·by_cases hb:b=a
   ·exact .inr ⟨_,_,if_pos hb⟩
   ·exact .inl (if_neg hb)
  ·by_cases hb:b=a
   ·have z':=(if_pos hb).symm.trans z
    cases z'
    subst hb
    exact⟨ha,by rw[QZ];exact hl,vs,_,rv,ha⟩
   ·have z':=(if_neg hb).symm.trans z
    cases z'
  ·by_cases hb:b=a
   ·exact hb
   ·exact absurd (if_neg hb) z
theorem A6{l:PySem.W.OpenLaw}{n k:Nat}{q:Program}{loose:List Str}{XP:(Str->Option Value)->Heap->Prop}{YP:World->Heap->Prop}{d:DefRec}{K:Params->Q5}{CX:World->CXT}{sp:World->Sp}{x:Str}
  (hn:l.most=some n) (hn2:n<=sizeLine) (hdf:d.params.defaults=[]) (hr:km k callerA)
  (hY:∀(w:World) (h:Heap),YP w h->(K w.params).In h)
  (F:∀(w:World) (mg:Str->Option Value) (fa:Addr) (h:Heap),(K w.params).In h->h.Ns mainGlobals mg->mg d.name=some (.ref fa)->
   ∃fd:FuncData,(∀(s:Shared) (u:Value),BindsTo s fd ⟨[u],[]⟩ [(x,u)])/\
    ∀base:Heap,(K w.params).In base->base.Ns mainGlobals mg->oI l.prog w (K w.params) mg base (CX w) k fa fd [x] (sp w))
  (hsp:∀(w:World) (H:Hp) (a:Addr) (ns:List Int),ns.length<=n->Ga H->SqL (K w.params) H a (ns.map V.int)->sp w [.ref a] H (fun v _=>v=.bl true) fun _ _ _=>False)
  (hCX:∀(w:World) (H:Hp) (s:Shared) (e:Value) (s':Shared),CX w [] H s (fun _ _ _=>False) e s'->False) :
  PySem.W.WalkO q loose XP YP l.row.toRowW d [] (fun f vs=>PySem.call f vs):=by
 refine Att.attach_call hn hdf fun w s₀ s₁ mg mb fa o pm cd doc a vs ns G Y ho hd hcd hmg hobj hints hlen hg=>?_
 have KX:=hY w _ Y
 obtain⟨fd,hb,hF⟩:=F w mg fa _ KX G.T.g hmg
 exact yA KX G.T.g G.T.b G.T.builtins G.T.nolimit hg hobj hints (Qy hlen hn2) hr hF hb (fun H hO hS=>hsp w H a ns hlen hO hS) fun H e s'=>hCX w H s₁ e s'
def gf(s:Stmt):Arguments:=match s with
 |.FunctionDef _ a _ _ _ _ _ _ _ _=>a
 |_=>{ posonlyargs:=[],args:=[],vararg:=none,kwonlyargs:=[],kw_defaults:=[],kwarg:=none,defaults:=[] }
def dJ(s:Stmt):List Stmt:=match s with
 |.FunctionDef _ _ b _ _ _ _ _ _ _=>b
 |_=>[]
def aE(s:Stmt):Scope:=match s with
 |.FunctionDef _ _ _ _ _ _ sc _ _ _=>sc
 |_=>{ kind:=.function,names:=[],isGenerator:=false,isCoroutine:=false }
abbrev CX0:CXT:=fun _ _ _ _ _ _=>False
abbrev E0:XK:=fun _ _ _=>False
theorem Hg{X:Cx}:wI CX0 X E0:=fun _ _ _ _ _ _ _ h=>h.elim
structure Fun(K:Q5)(x qual:Str)(st:Stmt)(f:Addr)(fd:FuncData):Prop where
 ex:∃(oc:Value) (od:Option Addr) (kV doc pm:Value) (an:Option Addr) (cdv ct:Value) (osl:Array (Option Value)),
  fd=PySem.W.fnOf x qual (gf st) (dJ st) (aE st) .none kV doc pm an cdv ct/\K.lookup f=some ⟨oc,od,.func fd,osl⟩/\PySem.W.codeIn K cdv qual=true
 kp:PySem.W.keepIn K (.ref f)=true
section
variable{P:Program}{w:World}{K:Q5}{mg:Str->Option Value}{base:Heap}
theorem Fun.ok{x qual:Str}{st:Stmt}{f:Addr}{fd:FuncData}{N ps:List Str}{k:Nat}{sp:Sp}(F:Fun K x qual st f fd)(S:bp N ps (aE st))(len:∀vs H Q E,sp vs H Q E->vs.length=ps.length)
  (hbody:∀(cdv:Value) (A:Around) (outer:List Env) (s:Shared) (H:Hp) (vs:List V) (Q:VK) (E:XK),km k (A.deeper (envOfC qual (aE st) s.heap.objs.size f cdv))->sp vs H Q E->
   ∃t,PSs (wV CX0 P w K mg base N qual (aE st) f cdv A outer s H E).nox (dJ st) t/\t { nx:=fun _ H'=>Q .non H',rt:=Q } (gD N vs) H):oI P w K mg base CX0 (k+1) f fd ps sp:=by
 obtain⟨oc,od,kV,doc,pm,an,cdv,ct,osl,rfl,lk,hcd⟩:=F.ex
 refine HF lk hcd S len fun A outer s H vs Q E hr hsp=>?_
 obtain⟨t,h,q⟩:=hbody cdv A outer s H vs Q E hr hsp
 exact⟨t,h.nox,q⟩
theorem Fun.binds{x qual:Str}{st:Stmt}{f:Addr}{fd:FuncData}{ps:List Str}(F:Fun K x qual st f fd)
  (h:∀(kV doc pm:Value) (an:Option Addr) (cdv ct:Value) (us:List Value),us.length=ps.length->bindArgs (PySem.W.fnOf x qual (gf st) (dJ st) (aE st) .none kV doc pm an cdv ct) ⟨us,[]⟩=pure (ps.zip us)):pM K fd ps []:=by
 obtain⟨oc,od,kV,doc,pm,an,cdv,ct,osl,rfl,lk,hcd⟩:=F.ex
 exact .all (h kV doc pm an cdv ct)
theorem Fp{x qual:Str}{st:Stmt}{f:Addr}{oc:Value}{od an:Option Addr}{osl:Array (Option Value)}{kV doc pm cdv ct:Value}(l:K.lookup f=some ⟨oc,od,.func (PySem.W.fnOf x qual (gf st) (dJ st) (aE st) .none kV doc pm an cdv ct),osl⟩)
  (c:PySem.W.codeIn K cdv qual=true) (k:PySem.W.keepIn K (.ref f)=true):Fun K x qual st f (PySem.W.fnOf x qual (gf st) (dJ st) (aE st) .none kV doc pm an cdv ct):=⟨⟨oc,od,kV,doc,pm,an,cdv,ct,osl,rfl,l,c⟩,k⟩
end
theorem fZ{A:Around}{k:Nat}(hr:km k A):A.units+1<cLine:=Zg (Nat.add_le_add_left (by decide:1<=64) _) hr.units
theorem t7{n:Nat}(h:n<=1000):n<sizeLine:=Zg h (by decide)
section
variable{X:Cx}
theorem pv(i:Nat){x:Str}{pos:Pos}(hN:X.N[i]?=some x:=by rfl)(hv:Vis X.env.scope x:=by first|exact Or.inl rfl|exact Or.inr (Or.inl rfl)|exact Or.inr (Or.inr rfl))(hd:(x == ("__debug__":Str))=false:=by decide)
  (hcd:(x == ("__classdict__":Str))=false:=by decide):PE X (.Name x pos) (FY i):=Eu hN hv hd hcd
theorem wg:cG X (.builtin "len") (fun xs H Q=>∃a kvs,xs=[V.ref a]/\H a=some (.dK kvs)/\Q (.int kvs.length) H):=by
 intro pins s σ H xs us Q I r h
 obtain⟨a,kvs,rfl,ha,q⟩:=h
 obtain⟨u,rfl,ru⟩:=gC r
 cases ru
 exact HM I (.inl ha) fun t s' I'=>⟨.int kvs.length,H,I',⟨t,rfl⟩,q⟩
end
theorem Ff{A B:Prop}(h:B):if false=true then A else B:=by
 rw[if_neg QF]
 exact h
theorem Fe{A B:Prop}(h:A):if true=true then A else B:=by
 rw[if_pos rfl]
 exact h
def rF(H H':Hp):Prop:=∀b o,H b=some o->H' b=some o
theorem rF.refl(H:Hp):rF H H:=fun _ _ h=>h
end L2
namespace OG
open PySem PySem.Spec PyProof.Rows L2
structure WE(X:Cx)(e:Expr)(t:TE):Prop where
 h:PE X e t
structure WT(X:Cx)(e:Expr)(t:TT):Prop where
 h:PT X e t
structure WW(X:Cx)(e:Expr)(t:TT):Prop where
 h:PW X e t
structure WA(X:Cx)(es:List Expr)(t:TA):Prop where
 h:PA X es t
structure WS(X:Cx)(st:Stmt)(t:TS):Prop where
 h:PS X st t
structure WSs(X:Cx)(st:List Stmt)(t:TS):Prop where
 h:PSs X st t
structure WI(X:Cx)(tg iter:Expr)(wi:TI):Prop where
 h:PI X tg iter wi
structure WG(X:Cx)(target:Expr)(t:TG):Prop where
 h:PG X target t
structure WGs(X:Cx)(ts:List Expr)(t:TGs):Prop where
 h:PGs X ts t
structure WC(X:Cx)(op:CmpOp)(a b:Expr)(t:TE):Prop where
 h:PC X op a b t
structure WO(X:Cx)(e:Option Expr)(t:TO):Prop where
 h:PO X e t
section
variable{X:Cx}
theorem ak{i j pos}:WE X (.Constant (.int i) j pos) (tC (.int i)):=⟨EC ⟩
end
section
variable{X:Cx}
theorem iT{b j pos}:WE X (.Constant (.bool b) j pos) (tC (.bl b)):=⟨Hf ⟩
end
section
variable{X:Cx}
variable{a b:Expr}{ta tb:TE}{pos:Pos}
theorem tq{op:CmpOp}{t:TE}(h:WC X op a b t)(h1:behindInMarks op b=false:=by first|exact nobehind _ (by decide) (by decide)|rfl):WT X (.Compare a [op] [b] pos) (tB t):=⟨El h.h h1⟩
end
section
variable{X:Cx}
variable{a b:Expr}{ta tb:TE}{pos:Pos}
theorem AJ{e:Expr}{t:TE}(h:WE X e t)(he:∀whole,isTrue e X.env whole=(do let v <-whole;standAt e.pos;holding [v] (truthy v)):=by intro _;rfl):WT X e (tB t):=⟨Ej h.h he⟩
end
section
variable{X:Cx}
variable{a b:Expr}{ta tb:TE}{pos:Pos}
variable{tA tB':TT}{rest:List Expr}
theorem xh(ha:WT X a tA):WW X (.BoolOp .And [a] pos) tA:=⟨By ha.h⟩
end
section
variable{X:Cx}
variable{a b:Expr}{ta tb:TE}{pos:Pos}
variable{tA tB':TT}{rest:List Expr}
theorem AH(ha:WT X a tA):WW X (.BoolOp .Or [a] pos) tA:=⟨Eg ha.h⟩
end
section
variable{X:Cx}
variable{a b:Expr}{ta tb:TE}{pos:Pos}
variable{tA tB':TT}{rest:List Expr}
theorem AI(ha:WT X a tA)(hb:WW X (.BoolOp .And (b::rest) pos) tB'):WW X (.BoolOp .And (a::b::rest) pos) (Ie tA tB'):=⟨Eh ha.h hb.h⟩
end
section
variable{X:Cx}
variable{a b:Expr}{ta tb:TE}{pos:Pos}
variable{tA tB':TT}{rest:List Expr}
theorem DJ(ha:WT X a tA)(hb:WW X (.BoolOp .Or (b::rest) pos) tB'):WW X (.BoolOp .Or (a::b::rest) pos) (tOr tA tB'):=⟨G9 ha.h hb.h⟩
end
section
variable{X:Cx}
variable{a b:Expr}{ta tb:TE}{pos:Pos}
variable{tA tB':TT}{rest:List Expr}
theorem AK(ha:WT X a tA):WT X (.UnaryOp .Not a pos) (HZ tA):=⟨Ek ha.h⟩
end
section
variable{X:Cx}
variable{a b:Expr}{ta tb:TE}{pos:Pos}
variable{tA tB':TT}{rest:List Expr}
theorem AV{op}{t:TE}(h:WE X a t):WE X (.BoolOp op [a] pos) t:=⟨Ex h.h⟩
end
section
variable{X:Cx}
variable{a b:Expr}{ta tb:TE}{pos:Pos}
variable{tA tB':TT}{rest:List Expr}
theorem AY(ha:WE X a ta)(hb:WE X (.BoolOp .And (b::rest) pos) tb):WE X (.BoolOp .And (a::b::rest) pos) (D1 ta tb):=⟨ED ha.h hb.h⟩
end
section
variable{X:Cx}
variable{a b:Expr}{ta tb:TE}{pos:Pos}
variable{tA tB':TT}{rest:List Expr}
theorem AW(ha:WE X a ta):WE X (.UnaryOp .Not a pos) (DT ta):=⟨Ey ha.h⟩
end
section
variable{X:Cx}{st:Stmt}{rest:List Stmt}{t u:TS}{e:Expr}{te:TE}{pos:Pos}
theorem xj :WSs X [] DU:=⟨BB ⟩
end
section
variable{X:Cx}{st:Stmt}{rest:List Stmt}{t u:TS}{e:Expr}{te:TE}{pos:Pos}
theorem tw(h1:WS X st t)(h2:WSs X rest u):WSs X (st::rest) (HX t u):=⟨xQ h1.h h2.h⟩
end
section
variable{X:Cx}{st:Stmt}{rest:List Stmt}{t u:TS}{e:Expr}{te:TE}{pos:Pos}
theorem xi(h1:WS X st t):WSs X [st] t:=⟨BA h1.h⟩
end
section
variable{X:Cx}{st:Stmt}{rest:List Stmt}{t u:TS}{e:Expr}{te:TE}{pos:Pos}
theorem xk(he:WE X e te)(hs:swapsWith e none pos.line X.env=pure false:=by rfl):WS X (.Expr e pos) (DV te):=⟨BC he.h hs⟩
end
section
variable{X:Cx}{st:Stmt}{rest:List Stmt}{t u:TS}{e:Expr}{te:TE}{pos:Pos}
theorem AM(he:WE X e te):WS X (.Return (some e) pos) (HY te):=⟨En he.h⟩
end
section
variable{X:Cx}{st:Stmt}{rest:List Stmt}{t u:TS}{e:Expr}{te:TE}{pos:Pos}
theorem DK{c:Expr}{a b:List Stmt}{tc:TT}(hc:WT X c tc)(ha:WSs X a t)(hb:WSs X b u):WS X (.If c a b pos) (Ib tc t u):=⟨Ha hc.h ha.h hb.h⟩
end
section
variable{X:Cx}{pos:Pos}
theorem aC{i:Nat}{x:Str}(hN:X.N.Nodup)(hi:X.N[i]?=some x)(hx:Loc X.env.scope x)(hf:X.fn x=true\/X.env.scope.names.lookup x=some .local:=by first|exact .inl rfl|exact .inr rfl|assumption):WG X (.Name x pos) (sA i):=⟨BL hN hi hx hf⟩
end
section
variable{X:Cx}{pos:Pos}
theorem xo :WGs X [] IE:=⟨BK ⟩
end
section
variable{X:Cx}{pos:Pos}
theorem tF{e:Expr}{es:List Expr}{t:TG}{u:TGs}(h1:WG X e t)(h2:WGs X es u)(hs:(assignEach (e::es) X.env).map (·.2)=assign e X.env::(assignEach es X.env).map (·.2):=by rfl):WGs X (e::es) (Fo t u):=⟨xV h1.h h2.h hs⟩
end
section
variable{X:Cx}{pos:Pos}
theorem AQ{es:List Expr}{k:Nat}{t:TGs}{n:Nat}(hc:X.calm=true)(h:WGs X es t)(hn:(assignEach es X.env).length=n:=by rfl)(hst:(assignEach es X.env).findIdx? (·.1)=none:=by rfl):WG X (.Tuple es k pos) (IC X.K n t):=⟨Es hc h.h hn hst⟩
end
section
variable{X:Cx}{pos:Pos}
theorem AR {o i : Expr} {to ti : TE} {t : F9} (ho : WE X o to) (hi : WE X i ti) (hs : HU X t) (ha : ∀ v, assign (.Subscript o i pos) X.env v = (do
   let ov <-holding [v] (eval o X.env)
   let iv <-holding [v,ov] (eval i X.env)
   standAt pos
   holding [v,ov,iv] (setItem ov iv v)
   release [v,ov,iv] []):=by intro _;rfl):WG X (.Subscript o i pos) (ID to ti t):=⟨Et ho.h hi.h hs ha⟩
end
section
variable{X:Cx}{pos:Pos}
theorem tD{tg e:Expr}{te:TE}{g:TG}(he:WE X e te)(hg:WG X tg g)(hs:swapsWithSole [tg] e pos.line X.env=pure false:=by rfl)(hw:swappedStores [tg] e X.env=pure none:=by rfl)(h1:(assignEach [tg] X.env).map (·.2)=[assign tg X.env]:=by rfl):WS X (.Assign [tg] e pos) (D0 te g):=⟨Ep he.h hg.h hs hw h1⟩
end
section
variable{X:Cx}{pos:Pos}
theorem AL{i:Nat}{x:Str}{e:Expr}{te:TE}{pos':Pos}(hN:X.N.Nodup)(hi:X.N[i]?=some x)(hx:Loc X.env.scope x)(he:WE X e te)(hs:swapsWith e (some (.Name x pos')) pos.line X.env=pure false:=by rfl)(hf:X.fn x=true\/X.env.scope.names.lookup x=some .local:=by first|exact .inl rfl|exact .inr rfl|assumption):WS X (.Assign [.Name x pos'] e pos) (D0 te (sA i)):=⟨Em hN hi hx he.h hs hf⟩
end
section
variable{X:Cx}{pos:Pos}
theorem tx{c:Expr}{body:List Stmt}{tc:TT}{tb:TS}(hp:PassesOwn (model X.prog X.w) X.A X.env X.xe)(hc:WT X c tc)(hb:WSs X body tb):WS X (.While c body [] pos) (tW tc tb):=⟨xR hp hc.h hb.h⟩
end
section
variable{X:Cx}{tg:Expr}
theorem xn{l:Expr}{tl:TE}(hl:WE X l tl):WI X tg l (Fm X.K tl):=⟨BJ hl.h⟩
end
section
variable{X:Cx}{tg:Expr}
theorem AO{l:Expr}{tl:TE}(hl:WE X l tl):WI X tg l (IB X.K tl):=⟨Er hl.h⟩
end
section
variable{X:Cx}{tg:Expr}
theorem rM{a:Expr}{ta:TA}{p pos:Pos}(hg:Gl X "range")(hm:X.mg "range"=none)(ha:WA X [a] ta)(hs:starEach [a] X.env=[(false,eval a X.env)]:=by rfl):WI X tg (.Call (.Name "range" p) [a] [] pos) (Fl ta):=⟨uO hg hm ha.h hs⟩
end
section
variable{X:Cx}{tg:Expr}
theorem AN{iter:Expr}{body:List Stmt}{wi:TI}{g:TG}{tb:TS}{pos:Pos}(hp:PassesOwn (model X.prog X.w) X.A X.env X.xe)(hc:X.calm=true)(hi:WI X tg iter wi)(hg:WG X tg g)(hb:WSs X body tb)(hs:∀x,foldedSetIterable iter X.env x=pure x:=by intro _;rfl):WS X (.For tg iter body [] pos) (GL wi g tb):=⟨Eo hp hc hi.h hg.h hb.h hs⟩
end
section
variable{X:Cx}{a b c:Expr}{ta tb tc:TE}{pos:Pos}
theorem DM{op:Operator}{r:R2}(ho:OpR X (binaryOp op) r)(ha:WE X a ta)(hb:WE X b tb):WE X (.BinOp a op b pos) (tOp r ta tb):=⟨Hc ho ha.h hb.h⟩
end
section
variable{X:Cx}{a b c:Expr}{ta tb tc:TE}{pos:Pos}
theorem DL{op:UnaryOp}{r:V->Hp->VK->Prop}(ho:UnR X (unaryOp op) r)(ha:WE X a ta):WE X (.UnaryOp op a pos) (tUn r ta):=⟨Hb ho ha.h⟩
end
section
variable{X:Cx}{a b c:Expr}{ta tb tc:TE}{pos:Pos}
theorem xq{op:CmpOp}{r:R2}(ho:OpR X (compareOp op) r)(ha:WE X a ta)(hb:WE X b tb)(hm:behindInMarks op b=false):WE X (.Compare a [op] [b] pos) (tOp r ta tb):=⟨BN ho ha.h hb.h hm⟩
end
section
variable{X:Cx}{a b c:Expr}{ta tb tc:TE}{pos:Pos}
theorem lN{op:CmpOp}{r:R2}(ho:OpR X (compareOp op) r)(ha:WE X a ta)(hb:WE X b tb)(hm:behindInMarks op b=false):WT X (.Compare a [op] [b] pos) (DR (tOp r ta tb)):=⟨Bz ho ha.h hb.h hm⟩
end
section
variable{X:Cx}{e:Expr}{es:List Expr}{te:TE}{t:TA}{pos:Pos}
theorem fg :WA X [] H0:=⟨EF ⟩
end
section
variable{X:Cx}{e:Expr}{es:List Expr}{te:TE}{t:TA}{pos:Pos}
theorem cy(ha:WE X e te)(hr:WA X es t)(hs:starEach (e::es) X.env=(false,eval e X.env)::starEach es X.env:=by rfl):WA X (e::es) (DY te t):=⟨BR ha.h hr.h hs⟩
end
section
variable{X:Cx}{e:Expr}{es:List Expr}{te:TE}{t:TA}{pos:Pos}
theorem tJ{x1}(h:WA X es t):WE X (.Tuple es x1 pos) (HW t):=⟨Ew h.h⟩
end
section
variable{X:Cx}{e:Expr}{es:List Expr}{te:TE}{t:TA}{pos:Pos}
theorem AX(h:WA X es t):WE X (.List es pos) (Ia t):=⟨Ez h.h⟩
end
section
variable{X:Cx}{x:Str}{p pos:Pos}{e:Expr}{es:List Expr}{t:TA}{id T:String}{r:List V->Hp->VK->Prop}
theorem gB(hc:cG X (.builtin id) r)(hg:Gl X x)(hm:X.mg x=none)(hv:bootBuiltins x=some (.builtin id))(ha:WA X (e::es) t)(hn:x≠"__name__":=by decide)(hdb:(x == ("__debug__":Str))=false:=by decide)(he:starEach (e::es) X.env=(false,eval e X.env)::starEach es X.env:=by rfl)(hpl:(backTo pos (starEach es X.env)).any (·.1)=false:=by rfl):WE X (.Call (.Name x p) (e::es) [] pos) (tCB r t):=⟨xY hc hg hm hv ha.h hn hdb he hpl⟩
end
section
variable{X:Cx}{x:Str}{p pos:Pos}{e:Expr}{es:List Expr}{t:TA}{id T:String}{r:List V->Hp->VK->Prop}
theorem iB(hc:cG X (.type T) r)(hg:Gl X x)(hm:X.mg x=none)(hv:bootBuiltins x=some (.type T))(ha:WA X (e::es) t)(hn:x≠"__name__":=by decide)(hdb:(x == ("__debug__":Str))=false:=by decide)(he:starEach (e::es) X.env=(false,eval e X.env)::starEach es X.env:=by rfl)(hpl:(backTo pos (starEach es X.env)).any (·.1)=false:=by rfl):WE X (.Call (.Name x p) (e::es) [] pos) (tCB r t):=⟨uP hc hg hm hv ha.h hn hdb he hpl⟩
end
section
variable{X:Cx}{e:Expr}{te:TE}{lo hi:Option Expr}{tl th:TO}{pos p2:Pos}
theorem xm :WO X none tX:=⟨BH ⟩
end
section
variable{X:Cx}{e:Expr}{te:TE}{lo hi:Option Expr}{tl th:TO}{pos p2:Pos}
theorem xl(h:WE X e te):WO X (some e) (DS te):=⟨BG h.h⟩
end
section
variable{X:Cx}{e:Expr}{te:TE}{lo hi:Option Expr}{tl th:TO}{pos p2:Pos}
theorem mQ{r:V->Option Int->Option Int->Hp->VK->Prop}(hr:SlR X r)(he:WE X e te)(hl:WO X lo tl)(hu:WO X hi th):WE X (.Subscript e (.Slice lo hi none p2) pos) (tSl r te tl th):=⟨xW hr he.h hl.h hu.h⟩
end
section
variable{X:Cx}{a b:Expr}{ta tb:TE}{pos:Pos}
theorem DN{r:R2}(hr:IxR X r)(ha:WE X a ta)(hb:WE X b tb)(hs:pI b):WE X (.Subscript a b pos) (tOp r ta tb):=⟨Hd hr ha.h hb.h hs⟩
end
section
variable{X:Cx}{a b:Expr}{ta tb:TE}{pos:Pos}
variable{o e:Expr}{es:List Expr}{to:TE}{t:TA}{name:Str}{apos cpos:Pos}{T id:String}{r:V->List V->Hp->VK->Prop}
theorem pT (pa : PlainAttrs T) (slot : Slot T name id) (hty : typeOf (.builtin id) = pure (.type "method_descriptor")) (hm : MtR X id r) (ho : WE X o to) (ha : WA X (e :: es) t) (hbase : attributeBase o name X.env (eval o X.env) = eval o X.env := by rfl) (hfew : ((backTo cpos (starEach (e :: es) X.env)).all (fun x => !x.1) && (backToKw cpos (keywordEach [] X.env)).all (fun x => x.1.isSome)
   && decide ((e::es).length+([]:List Keyword).length+(if ([]:List Keyword).isEmpty then 0 else 1)<30))=true:=by rfl) (hline:(apos.endLine == cpos.line)=true:=by rfl) (hs:starEach (e::es) X.env=(false,eval e X.env)::starEach es X.env:=by rfl) (hplain:(backTo cpos (starEach es X.env)).any (·.1)=false:=by rfl):WE X (.Call (.Attribute o name apos) (e::es) [] cpos) (tBM X.K T r to t):=⟨He pa slot hty hm ho.h ha.h hbase hfew hline hs hplain⟩
end
section
variable{X:Cx}{o i e value:Expr}{pos pos' tpos:Pos}{td ty tv:TE}
theorem xp(hu:X.A.units+1<cLine)(ho:WE X o td)(hi:WE X i ty)(hs:C6 i):WE X (.Subscript o i pos) (DX td ty):=⟨BM hu ho.h hi.h hs⟩
end
section
variable{X:Cx}{o i e value:Expr}{pos pos' tpos:Pos}{td ty tv:TE}
theorem AZ(hu:X.A.units+1<cLine)(hi:WE X i ty)(ho:WE X o td):WC X .In i o (GN ty td):=⟨EE hu hi.h ho.h⟩
end
section
variable{X:Cx}{o i e value:Expr}{pos pos' tpos:Pos}{td ty tv:TE}
theorem rO(hu:X.A.units+1<cLine)(hi:WE X i ty)(ho:WE X o td):WC X .NotIn i o (oS ty td):=⟨uQ hu hi.h ho.h⟩
end
section
variable{X:Cx}{o i e value:Expr}{pos pos' tpos:Pos}{td ty tv:TE}
theorem pR(hu:X.A.units+1<cLine)(ho:WE X o td)(hi:WE X i ty)(hv:WE X value tv)(hs:swapsWith value (some (.Subscript o i pos')) pos.line X.env=pure false):WS X (.Assign [.Subscript o i pos'] value pos) (D8 td ty tv):=⟨BD hu ho.h hi.h hv.h hs⟩
end
section
variable{X:Cx}{pos:Pos}
theorem tK :WE X (.Dict [] [] pos) zi:=⟨xX ⟩
end
section
variable{X:Cx}
theorem wpv(i:Nat){x:Str}{pos:Pos}(hN:X.N[i]?=some x:=by rfl)(hv:Vis X.env.scope x:=by first|exact Or.inl rfl|exact Or.inr (Or.inl rfl)|exact Or.inr (Or.inr rfl))(hd:(x == ("__debug__":Str))=false:=by decide)(hcd:(x == ("__classdict__":Str))=false:=by decide):WE X (.Name x pos) (FY i):=⟨pv i hN hv hd hcd⟩
end
theorem WW.pt{X:Cx}{e:Expr}{t:TT}(h:WW X e t):WT X e t:=⟨h.h.pt⟩
section
variable{X:Cx}{a b c e:Expr}{ta tb tc:TE}{pos:Pos}
def sM(i j:Int):Prop:=0<j/\j.natAbs.log2<9000
theorem qC:OpR X (binaryOp .FloorDiv) (rI sM fun i j=>.int (i / j)):=opI fun i j _ _ _ _ _ hc q=>by
 refine PyProof.Rows.floordiv_int (by have:=hc.1;omega) ?_ (.inl (PyProof.noPylong_of_log2 hc.2))
 rw[Int.fdiv_eq_ediv_of_nonneg i (Int.le_of_lt hc.1)]
 exact q
theorem pE:cG X (.builtin "isinstance") (fun xs H Q=>∃(x:V) (T:String) (t:Value) (k:Bool),xs=[x,.ty T]/\rE X.K H x t/\PySem.W.kitOne X.K t (.type T)=some k/\Q (.bl k) H):=by
 rintro pins s σ H xs us Q I r ⟨x,T,t,k,rfl,ty,e,q⟩
 obtain⟨u,w',rfl,ru,rw'⟩:=rP r
 cases rw'
 exact vC I ru ty e fun tk=>⟨.bl k,H,I.tok tk,rfl,q⟩
end
theorem eJ{H:Hp}{p:Addr}(h:H p=none)(o:HO):rF H (upd H p o):=fun b u q=>by rw[aV (b8 q h)];exact q
def Def(K:Q5)(mg:Str->Option Value)(x:Str)(st:Stmt)(ps:List Str):Prop:=
 ∃f fd,Fun K x x st f fd/\pM K fd ps []/\mg x=some (.ref f)
def Has(P:Program)(w:World)(K:Q5)(mg:Str->Option Value)(base:Heap)(x:Str)(k:Nat)(ps:List Str)(sp:Sp):Prop:=
 ∃f fd,oI P w K mg base CX0 k f fd ps sp/\pM K fd ps []/\PySem.W.keepIn K (.ref f)=true/\mg x=some (.ref f)
section
variable{P:Program}{w:World}{K:Q5}{mg:Str->Option Value}{base:Heap}{x:Str}{st:Stmt}{ps N:List Str}{k j:Nat}{sp sp':Sp}
theorem Has.mono(h:Has P w K mg base x j ps sp)(l:j<=k):Has P w K mg base x k ps sp:=by
 obtain⟨f,fd,a,b,c,d⟩:=h
 exact⟨f,fd,a.mono l,b,c,d⟩
theorem Def.has(d:Def K mg x st ps)(S:bp N ps (aE st))(len:∀vs H Q E,sp vs H Q E->vs.length=ps.length)
  (hbody:∀(f:Addr) (cdv:Value) (A:Around) (outer:List Env) (s:Shared) (H:Hp) (vs:List V) (Q:VK) (E:XK),km k (A.deeper (envOfC x (aE st) s.heap.objs.size f cdv))->sp vs H Q E->
   ∃t,WSs (wV CX0 P w K mg base N x (aE st) f cdv A outer s H E).nox (dJ st) t/\t { nx:=fun _ H'=>Q .non H',rt:=Q } (gD N vs) H):Has P w K mg base x (k+1) ps sp:=by
 obtain⟨f,fd,F,b,m⟩:=d
 exact⟨f,fd,F.ok S len (fun cdv A outer s H vs Q E hr h=>let ⟨t,a,b⟩:=hbody f cdv A outer s H vs Q E hr h;⟨t,a.h,b⟩),b,F.kp,m⟩
end
theorem DO{X:Cx}{k:Nat}{ps:List Str}{sp:Sp}{x:Str}{p pos:Pos}{e:Expr}{es:List Expr}{t:TA}(F:Has X.prog X.w X.K X.mg X.base x k ps sp)(hr:km k X.A)(hg:Gl X x)
  (ha:WA X (e::es) t) (hdb:(x == ("__debug__":Str))=false:=by decide) (he:starEach (e::es) X.env=(false,eval e X.env)::starEach es X.env:=by rfl) (hpl:(backTo pos (starEach es X.env)).any (·.1)=false:=by rfl) :
  WE X (.Call (.Name x p) (e::es) [] pos) (DZ sp [] E0 t):=by
 obtain⟨f,fd,a,b,c,d⟩:=F
 exact⟨BO a hr hg d c b .nil Hg ha.h hdb he hpl⟩
structure Blt(mg:Str->Option Value):Prop where
 len:mg "len"=none
 isinstance:mg "isinstance"=none
 int:mg "int"=none
 bool:mg "bool"=none
 str:mg "str"=none
 tuple:mg "tuple"=none
 list:mg "list"=none
 range:mg "range"=none
 min:mg "min"=none
 sum:mg "sum"=none
 all:mg "all"=none
 zip:mg "zip"=none
 sorted:mg "sorted"=none
 dict:mg "dict"=none
 enumerate:mg "enumerate"=none
 any:mg "any"=none
 max:mg "max"=none
 set:mg "set"=none
theorem zk{n:Nat}(h:n<=1000):n<=sizeLine:=Nat.le_of_lt (t7 h)
theorem su{n:Nat}(h:n<2^60):n.log2<1920:=by
 by_cases e:n=0
 ·subst e;decide
 ·have:=(Nat.log2_lt e).mpr h;omega
theorem mF:bootBuiltins "int"=some (.type "int"):=rfl
theorem ox:bootBuiltins "bool"=some (.type "bool"):=rfl
theorem fK:bootBuiltins "tuple"=some (.type "tuple"):=rfl
theorem dQ:bootBuiltins "list"=some (.type "list"):=rfl
theorem kg:bootBuiltins "isinstance"=some (.builtin "isinstance"):=rfl
theorem y3:bootBuiltins "min"=some (.builtin "min"):=rfl
theorem y4:bootBuiltins "max"=some (.builtin "max"):=rfl
theorem eR:bootBuiltins "all"=some (.builtin "all"):=rfl
theorem dP:bootBuiltins "sorted"=some (.builtin "sorted"):=rfl
theorem tH{X:Cx}{x:Str}{T:String}{pos:Pos}(hg:Gl X x)(hm:X.mg x=none)(hv:bootBuiltins x=some (.type T))(hn:x≠"__name__":=by decide)(hd:(x == ("__debug__":Str))=false:=by decide):WE X (.Name x pos) (tC (.ty T)):=
 ⟨BP hg hm hv rfl hn hd⟩
theorem Fun.okW{P:Program}{w:World}{K:Q5}{mg:Str->Option Value}{base:Heap}{x qual:Str}{st:Stmt}{f:Addr}{fd:FuncData}{N ps:List Str}{k:Nat}{sp:Sp}(F:Fun K x qual st f fd)(S:bp N ps (aE st))(len:∀vs H Q E,sp vs H Q E->vs.length=ps.length)
  (hbody:∀(cdv:Value) (A:Around) (outer:List Env) (s:Shared) (H:Hp) (vs:List V) (Q:VK) (E:XK),km k (A.deeper (envOfC qual (aE st) s.heap.objs.size f cdv))->sp vs H Q E->
   ∃t,WSs (wV CX0 P w K mg base N qual (aE st) f cdv A outer s H E).nox (dJ st) t/\t { nx:=fun _ H'=>Q .non H',rt:=Q } (gD N vs) H):oI P w K mg base CX0 (k+1) f fd ps sp:=
 F.ok S len fun cdv A outer s H vs Q E hr h=>let ⟨t,a,b⟩:=hbody cdv A outer s H vs Q E hr h;⟨t,a.h,b⟩
def mK(env:Env):List (Str×Addr)->Prop
 |[]=>True
 |p::r=>env.cells.lookup p.1=some p.2/\mK env r
theorem mK.look{env:Env}:∀{cl:List (Str×Addr)} {y:Str} {c:Addr},mK env cl->cl.lookup y=some c->env.cells.lookup y=some c
 |[],_,_,_,h=>by simp at h
 |(n,d)::r,y,c,a,h=>by
  obtain⟨a1,a2⟩:=a
  rw[Zb]at h
  by_cases e:(y == n)=true
  ·rw[e]at h
   have e':y=n:=by simpa using e
   subst e'
   cases h
   exact a1
  ·have e':(y == n)=false:=by simpa using e
   rw[e']at h
   exact mK.look a2 h
abbrev cxC(X:Cx)(Nc:List Str)(scope:Scope)(cl:List (Str×Addr))(s3:Shared)(H3:Hp)(fp:List Addr):Cx where
 prog:=X.prog
 w:=X.w
 K:=X.K
 mg:=X.mg
 base:=X.base
 A:=X.A
 N:=Nc
 s₀:=s3
 H₀:=H3
 env:=compEnvC scope cl s3.heap.objs.size X.env
 outer:=X.stack
 stack:=X.stack
 ex:=fp
 fn:=fun _=>false
 calm:=X.calm
 pn:=[]
 xe:=fun _ _=>False
def stC(n:Nat)(caps:List Nat)(σ:L2.St):L2.St:=Zv n none++caps.map fun i=>(σ[i]?).getD none
def Be(wi:TI)(g:TG)(te:TE)(n:Nat)(caps:List Nat):TE:=fun σ H Q=>wi σ H fun J H1=>∀l,H1 l=none->∃W:Nat->Nat->L2.St->Hp->Prop,(∃m,W 0 m (stC n caps σ) (upd H1 l (.lst [])))/\
 ∀i m σ' H2,W i m σ' H2->(J.stop i H2/\Q (.ref l) H2)\/(J.go i H2/\∃N:L2.St->Hp->Prop,(∀σ'' H',N σ'' H'->∃m',m'<m/\W (i+1) m' σ'' H')/\
  ∀x H3,J.yld i H2 x H3->g x σ' H3 fun σ2 H4=>te σ2 H4 fun v H5=>∃ys,H5 l=some (.lst ys)/\ys.length<sizeLine/\N σ2 (upd H5 l (.lst (ys++[v]))))
theorem og{prog:Program}{w:World}{A:Around}{R:Result->Shared->Prop}{s:Shared}{elt target iter:Expr}{scope:Scope}{pos:Pos}{it acc:Value}{env:Env}(I:Nat->Shared->Prop)
  (turn:∀n s,I n s->wpAny (model prog w) A (pyNext it) (fun r s₁=>match r with
   |none=>R (.ok .next) s₁
   | some v=>wpAny (model prog w) A (letOwnedTupleGo target it v) (fun _ s₁'=>wpAny (model prog w) A (assign target env v) (fun _ s₂=>wpAny (model prog w) A (eval elt env) (fun x s₃=>
     wpAny (model prog w) A (call (.builtin "list.append") [acc,x]) (fun _ s₄=>∃m,m<n/\I m s₄) (fun _ _=>False) s₃)
     (fun _ _=>False) s₂) (fun _ _=>False) s₁') (fun _ _=>False) s₁) (fun _ _=>False) s)
  (n:Nat) (h:I n s) :
  codeAny (model prog w) A (.compLoop (.ListComp elt [⟨target,iter,[],0⟩] scope pos) 0 it acc env) R s:=by
 refine codeAny_loop rfl I (fun n s hI=>?_) n h
 show wpAny _ _ ((compTurn (.ListComp elt [⟨target,iter,[],0⟩] scope pos) 0 it acc env).onRaise (fun x=>do noteFrame x env;theTreesLotGoes x)) _ _ s
 refine wpAny_noted ?_
 rw[compTurn_list1]
 refine Q2 (wpAny_standAt (Q2 (Z6 (turn n s hI) (fun r s₁ h₁=>?_) fun _ _ h'=>h'.elim)))
 cases r with
 |none=>exact Q8 h₁
 |some v=>
  refine Q2 (Z6 h₁ (fun _ s₁' h₁'=>?_) fun _ _ h'=>h'.elim)
  exact Q2 (Z6 h₁' (fun _ s₂ h₂=>Q2 (Q2 (Z6 h₂ (fun x s₃ h₃=>Q2 (Z6 h₃
   (fun _ s₄ h₄=>Q8 (Q8 ⟨rfl,h₄⟩)) fun _ _ h'=>h'.elim)) fun _ _ h'=>h'.elim))) fun _ _ h'=>h'.elim)
section
variable{X:Cx}{pins:List (Addr×Obj)}{σ:L2.St}{H:Hp}{s:Shared}{Nc capN:List Str}{scope:Scope}{cl:List (Str×Addr)}{fp:List Addr}{n:Nat}{caps:List Nat}{tg iter elt:Expr}{pos:Pos}{wi:TI}{g:TG}{te:TE}
def Cap(X:Cx)(scope:Scope)(cl:List (Str×Addr))(i:Nat)(y:Str):Prop:=X.N[i]?=some y/\X.env.scope.names.lookup y=some .cell/\(relabel scope X.env).names.lookup y=some .cell/\∃c,cl.lookup y=some c
theorem Inv.comp{h1:Heap}{t':Nat}(I:Inv X pins σ H s)(hc:X.calm=true)(f2:∀b∈fp,pL X pins H b)(fo:∀b∈fp,b<s.heap.objs.size)(hkind:scope.kind=.function)(hcl:mK X.env cl)
  (hhas:((relabel scope X.env).names.all fun p=>!(p.2 == .cell||p.2 == .free)||(cl.lookup p.1).isSome)=true)
  (hcap:Paired (Cap X scope cl) caps capN) (tn:List Str) (hN:Nc=tn++capN) (hn:tn.length=n)
  (hns:h1.Ns s.heap.objs.size (fun _=>none)) (hk:∀b o,s.heap.get? b=some o->h1.get? b=some o) :
  Inv (cxC X Nc scope cl s H fp) [] (stC n caps σ) H { s with heap:=h1,toks:=t' }:=by
 have lkc:∀y c,cl.lookup y=some c->X.env.cells.lookup y=some c:=fun y c e=>hcl.look e
 refine⟨⟨I.ok.mod,?_,I.ok.glob,I.ok.blt,QJ _,fun x y c a b=>I.ok.inj x y c (lkc _ _ a) (lkc _ _ b),fun x hx=>?_,fun x c z=>(nomatch z),I.ok.hd,I.ok.frames,.inl rfl,fun b hb=>⟨QC (fo b hb),fun x c e=>(f2 b hb).2.2.2.2.1 x c (lkc _ _ e)⟩,I.bs,Qy I.ok.bsz I.sz,
  fun b o e hb=>?_,fun b hb z=>?_,I.stack,I.stkFree⟩,rfl,I.bare,Un.kept hk,⟨_,hns,fun i y v h1' h2 h3=>?_⟩,fun y c e=>?_,I.hok.fresh (QJ _),fun y c e=>I.freeC y c (lkc _ _ e),fun p hp=>(by simp at hp),I.hok.kept hk,?_⟩
 ·exact hkind
 ·have hx':(relabel scope X.env).names.lookup x=some .cell\/(relabel scope X.env).names.lookup x=some .free:=hx
  have mem:∀{k},(relabel scope X.env).names.lookup x=some k->(x,k)∈(relabel scope X.env).names:=fun{k} e=>by
   generalize (relabel scope X.env).names=L at e
   induction L with
   |nil=>simp at e
   |cons p r ih=>
    obtain⟨a,b⟩:=p
    rw[Zb]at e
    by_cases q:(x == a)=true
    ·rw[q]at e;cases e
     have:x=a:=by simpa using q
     subst this;exact QK
    ·rw[show(x == a)=false by simpa using q]at e
     exact QU _ (ih e)
  have fin:∀{k},(k=NameKind.cell\/k=.free)->(relabel scope X.env).names.lookup x=some k->∃c,cl.lookup x=some c:=fun{k} hk' e=>by
   have:=List.all_eq_true.mp hhas _ (mem e)
   dsimp only at this
   have q:(cl.lookup x).isSome=true:=by
    rcases hk' with z|z<;>subst z<;>simpa using this
   exact Option.isSome_iff_exists.mp q
  rcases hx' with e|e
  ·exact fin (.inl rfl) e
  ·exact fin (.inr rfl) e
 ·rcases(f2 b hb).2.2.2.1 with z|z
  ·exact I.ok.noex b o e z
  ·exact absurd (Qq (QX e) I.ok.bsz) (Zj.mpr z)
 ·rcases QM.mp (I.stkSub b z)with q|q
  ·exact(f2 b hb).2.1 q
  ·exact(f2 b hb).2.2.1 q
 ·obtain⟨m,hm,hl⟩:=I.loc
  have h2':(stC n caps σ)[i]?=some (some v):=h2
  have h1'':Nc[i]?=some y:=h1'
  unfold stC at h2'
  by_cases hi:i<n
  ·rw[QN (by simpa using hi),ZP,if_pos hi]at h2'
   cases h2'
  ·rw[Qz (by simp;omega),Zy,Qv]at h2'
   rw[hN,Qz (by omega),hn]at h1''
   have key:∀(j:Nat) {caps:List Nat} {capN:List Str},Paired (Cap X scope cl) caps capN->capN[j]?=some y->(Option.map (fun i=>(σ[i]?).getD none) caps[j]?)=some (some v)->∃k,Cap X scope cl k y/\σ[k]?=some (some v):=by
    intro j
    induction j with
    |zero=>
     intro caps capN P e1 e2
     cases P with
     |nil=>simp at e1
     |@cons a b l r p t=>
      simp at e1 e2
      subst e1
      cases q:σ[a]? with
      |none=>rw[q]at e2;simp at e2
      |some w'=>rw[q]at e2;simp at e2;subst e2;exact⟨a,p,q⟩
    |succ j ih=>
     intro caps capN P e1 e2
     cases P with
     |nil=>simp at e1
     |cons p t=>exact ih t (by simpa using e1) (by simpa using e2)
   obtain⟨k,⟨c1,c2,c3,c,c4⟩,e⟩:=key _ hcap h1'' h2'
   obtain⟨u,r,lk⟩:=hl k y v c1 e (.inr (.inl c2))
   refine⟨u,r,.inr ⟨.inl c3,c,c4,?_⟩⟩
   rcases lk with⟨z,_⟩|⟨_,c',e',o,ho,hd⟩
   ·have z':X.env.scope.names.lookup y=some .local:=z
    rw[c2]at z';cases z'
   ·rw[lkc _ _ c4]at e'
    cases e'
    exact⟨o,hk _ _ ho,hd⟩
 ·obtain⟨v,o,ho,hd⟩:=I.cell y c (lkc _ _ e)
  exact⟨v,o,hk _ _ ho,hd⟩
 ·show(stC n caps σ).length=Nc.length
  have pl:caps.length=capN.length:=Paired.length hcap
  unfold stC
  rw[QQ,Zy,QZ,hN,QQ,hn,pl]
end
theorem yW{X:Cx}{Nc capN tn:List Str}{scope:Scope}{cl:List (Str×Addr)}{n:Nat}{caps:List Nat}{tg iter elt:Expr}{pos:Pos}{wi:TI}{g:TG}{te:TE}
  (hc:X.calm=true) (hi:WI X tg iter wi) (hg:∀s3 H3 fp,WG (cxC X Nc scope cl s3 H3 fp) tg g) (he:∀s3 H3 fp,WE (cxC X Nc scope cl s3 H3 fp) elt te)
  (hclos:closureFor scope X.env=pure cl) (hkind:scope.kind=.function) (hnl:∀x∈scope.names,x.2=.local->scope.names.lookup x.1=some .local) (hcell:∀x∈scope.names,x.2≠.cell)
  (hcl:mK X.env cl) (hhas:((relabel scope X.env).names.all fun p=>!(p.2 == .cell||p.2 == .free)||(cl.lookup p.1).isSome)=true)
  (hcap:Paired (Cap X scope cl) caps capN) (hN:Nc=tn++capN) (hn:tn.length=n)
  {use:Option (Value->Sem Unit)} {pins:List (Addr×Obj)} {σ:L2.St} {H:Hp} {s:Shared} {Q:VK} {Qf:Value->Shared->Prop} (I:Inv X pins σ H s) (h:Be wi g te n caps σ H Q)
  (hend:∀(D C:Addr) (s6:Shared) (H5:Hp) (m:Str->Option Value),Inv X pins σ H5 s6->s6.heap.Ns C m->H5 C=none->C≠X.env.locals->X.s₀.heap.objs.size<=C->(∀x c,X.env.cells.lookup x=some c->c≠C)->(∀p∈X.pn++pins,p.1≠C)->Q (.ref D) H5->compPost (model X.prog X.w) X.A X.xe use Qf (.ref D) C (.ok .next) s6)
  (hs:∀x,foldedSetIterable iter X.env x=pure x) :
  wpAny (model X.prog X.w) X.A (comprehension (.ListComp elt [⟨tg,iter,[],0⟩] scope pos) scope X.env (firstIterPos [⟨tg,iter,[],0⟩] pos) (newList []) (firstAsync [⟨tg,iter,[],0⟩]) (firstIter [⟨tg,iter,[],0⟩] X.env) use) Qf X.xe s:=by
 refine wpAny_comprehension_free (use:=use) (g:=⟨tg,iter,[],0⟩) (gs:=[]) rfl hs hclos hkind hnl (thn (hi.h pins s σ H _ I h) fun v s1 h1=>thn h1 fun itv s2 h2=>?_)
 obtain⟨it,fp,tnn,J,H2,rfl,I2,T,st2,f2,hW⟩:=h2
 have hD:=I2.fresh
 obtain⟨W,⟨m0,w0⟩,turn⟩:=hW _ hD
 refine wpAny_newObj_type (wpAny_newFunctionEnv hcell (by intro y hy;simp at hy) (fun h₁ hns₁ hsb₁=>?_) hkind)
 dsimp only at hns₁ hsb₁ ⊢
 have I3:Inv X pins σ (upd H2 s2.heap.objs.size (.lst [])) { s2 with heap:=s2.heap.push { cls:=.type "list",dict:=none,data:=.seq ([]:List Value).toArray },toks:=s2.toks }:=I2.lnew (its:=[]) .nil (Qs _)
 generalize hs3:({ s2 with heap:=s2.heap.push { cls:=.type "list",dict:=none,data:=.seq ([]:List Value).toArray },toks:=s2.toks }:Shared)=s3 at I3
 have es3:s3.heap=s2.heap.push { cls:=.type "list",dict:=none,data:=.seq ([]:List Value).toArray }:=by rw[<-hs3]
 generalize hDD:s2.heap.objs.size=D at *
 have kept:∀b o,s3.heap.get? b=some o->h₁.get? b=some o:=fun b o e=>by
  have lt:=QX e
  rw[es3]at lt e
  exact hsb₁.extBut b o (QC lt) (Q4 _ e)
 have old:∀b o,s2.heap.get? b=some o->s3.heap.get? b=some o:=fun b o e=>by rw[es3];exact Q4 _ e
 have ltD:∀b∈fp,b<D:=fun b hb=>by
  obtain⟨o,e,_⟩:=T.obj 0 _ st2 b hb
  rw[<-hDD];exact QX e
 have fo:∀b∈fp,b<s3.heap.objs.size:=fun b hb=>by
  obtain⟨o,e,_⟩:=T.obj 0 _ st2 b hb
  exact QX (old _ _ e)
 have f3:∀b∈fp,pL X pins (upd H2 D (.lst [])) b:=fun b hb=>by
  refine⟨?_,(f2 b hb).2⟩
  rw[aV (QC (ltD b hb))]
  exact(f2 b hb).1
 rw[<-es3]at hns₁ hsb₁ ⊢
 have Ic:=fun t'=>Inv.comp (h1:=h₁) (t':=t') (Nc:=Nc) (n:=n) I3 hc f3 fo hkind hcl hhas hcap tn hN hn hns₁ kept
 have stat:∀{H':Hp},(∀b∈fp,H' b=none)->∀b∈fp,pL (cxC X Nc scope cl s3 (upd H2 D (.lst [])) fp) [] H' b:=fun hn' b hb=>by
  refine⟨hn' b hb,QC (fo b hb),fun z=>?_,.inl hb,fun x c e=>(f2 b hb).2.2.2.2.1 x c (hcl.look e),fun p hp=>(by simp at hp)⟩
  rcases QM.mp (I3.stkSub b z)with q|q
  ·exact(f2 b hb).2.1 q
  ·exact(f2 b hb).2.2.1 q
 have loop:∀s4:Shared,(∃t',s4={ s3 with heap:=h₁,toks:=t' })->codeAny (model X.prog X.w) X.A (.compLoop (.ListComp elt [⟨tg,iter,[],0⟩] scope pos) 0 (.ref it) (.ref D) (compEnvC scope cl s3.heap.objs.size X.env))
   (compPost (model X.prog X.w) X.A X.xe use Qf (.ref D) s3.heap.objs.size) s4:=by
  rintro s4 ⟨t',rfl⟩
  refine og (fun n' s'=>∃i σ' H',Inv (cxC X Nc scope cl s3 (upd H2 D (.lst [])) fp) [] σ' H' s'/\tnn i s'.heap/\(∀b∈fp,H' b=none)/\W i n' σ' H') ?_ m0
   ⟨0,_,_,Ic t',T.keep 0 _ _ st2 fun b hb o e=>kept _ _ (old _ _ e),fun b hb=>(f3 b hb).1,w0⟩
  rintro n' s5 ⟨i,σ5,H5,I5,st5,fr5,w5⟩
  rcases turn i n' σ5 H5 w5 with⟨stop,qn⟩|⟨go,N,hN',step⟩
  ·refine thn (T.done (cxC X Nc scope cl s3 (upd H2 D (.lst [])) fp) rfl rfl rfl hc i [] s5 σ5 H5 (fun _ _=>False) I5 (stat fr5) st5 stop) fun r s6 ⟨hr,I6⟩=>?_
   subst hr
   obtain⟨m,hm,_⟩:=I6.loc
   have I7:Inv X pins σ H5 s6:=Inv.call' (ch:=fp) I3 I6.os I6.base I6.hok I6.bare fun b hb=>⟨(f2 b hb).2.2.2.1,(f2 b hb).2.1,(f2 b hb).2.2.2.2.1,(f2 b hb).2.2.2.2.2⟩
   exact hend D _ s6 H5 m I7 hm I6.free (Ne.symm (QC I3.lt)) I3.sz (fun x c e=>by
     obtain⟨v',o,ho,_⟩:=I3.cell x c e
     exact QC (QX ho)) (fun p hp=>QC (QX (I3.pin p hp).1)) qn
  ·refine thn (T.item (cxC X Nc scope cl s3 (upd H2 D (.lst [])) fp) rfl rfl rfl hc i [] s5 σ5 H5 (fun _ _=>False) I5 (stat fr5) st5 go) fun r s6 ⟨u,hr,h6⟩=>?_
   subst hr
   refine thn h6 fun _ s7 hz=>?_
   obtain⟨x,H7,I7,r7,y7,st7,fr7⟩:=hz
   have I7':=I7.pinned (stat fr7) (T.obj _ _ st7)
   refine thn ((hg s3 (upd H2 D (.lst [])) fp).h _ s7 σ5 H7 x u _ I7' r7 (step x H7 y7)) fun _ s8 hz=>?_
   obtain⟨σ8,H8,I8,q8⟩:=hz
   refine thn ((he s3 (upd H2 D (.lst [])) fp).h _ s8 σ8 H8 _ I8 q8) fun v9 s9 hz=>?_
   obtain⟨x9,H9,I9,r9,ys,hy,hlt,q9⟩:=hz
   refine thn (gR (X:=cxC X Nc scope cl s3 (upd H2 D (.lst [])) fp) _ s9 σ8 H9 (.ref D) [x9] (.ref D) [v9] (fun _ H'=>N σ8 H') I9 rfl (.cons r9 .nil) ⟨D,ys,x9,rfl,rfl,hy,hlt,q9⟩) fun _ s10 hz=>?_
   obtain⟨_,H10,I10,_,q10⟩:=hz
   obtain⟨m',hm,w10⟩:=hN' σ8 H10 q10
   refine⟨m',hm,i+1,σ8,H10,I10.unpinned,T.keep _ _ _ st7 fun b hb o e=>(I10.pin (b,o) (Qr _ (Qr _ (cf hb e)))).1,fun b hb=>?_,w10⟩
   obtain⟨o,e,d⟩:=T.obj _ _ st7 b hb
   exact(I10.pin (b,o) (Qr _ (Qr _ (cf hb e)))).2.1
 have e4:∀t',({ s2 with heap:=h₁,toks:=t' }:Shared)={ s3 with heap:=h₁,toks:=t' }:=fun t'=>by rw[<-hs3]
 refine codeAny_compStart_list (loop _ ⟨_,e4 _⟩) (T.self _ 0 _ _ _ (T.keep 0 _ _ st2 fun b hb o e=>kept _ _ (old _ _ e)) (loop _ ⟨_,e4 _⟩))
theorem pS{X:Cx}{Nc capN tn:List Str}{scope:Scope}{cl:List (Str×Addr)}{n:Nat}{caps:List Nat}{tg iter elt:Expr}{pos:Pos}{wi:TI}{g:TG}{te:TE}
  (hc:X.calm=true) (hi:WI X tg iter wi) (hg:∀s3 H3 fp,WG (cxC X Nc scope cl s3 H3 fp) tg g) (he:∀s3 H3 fp,WE (cxC X Nc scope cl s3 H3 fp) elt te)
  (hclos:closureFor scope X.env=pure cl) (hkind:scope.kind=.function) (hnl:∀x∈scope.names,x.2=.local->scope.names.lookup x.1=some .local) (hcell:∀x∈scope.names,x.2≠.cell)
  (hcl:mK X.env cl) (hhas:((relabel scope X.env).names.all fun p=>!(p.2 == .cell||p.2 == .free)||(cl.lookup p.1).isSome)=true)
  (hcap:Paired (Cap X scope cl) caps capN) (hN:Nc=tn++capN) (hn:tn.length=n)
  (hs:∀x,foldedSetIterable iter X.env x=pure x:=by intro _;rfl) :
  WE X (.ListComp elt [⟨tg,iter,[],0⟩] scope pos) (Be wi g te n caps):=by
 constructor
 intro pins s σ H Q I h
 rw[eval_ListComp]
 refine yW hc hi hg he hclos hkind hnl hcell hcl hhas hcap hN hn I h (fun D C s6 H5 m I7 hm fr nl sz cn pn qn=>⟨m,hm,fun h' hs'=>?_⟩) hs
 exact⟨.ref D,H5,I7.turned (t':=s6.toks) (it:=C) (fun b o hb e=>hs'.extBut b o hb e) fr nl (.inr sz) cn pn,rfl,qn⟩
section
variable{X:Cx}
theorem tQ:∀{bs:List Bool} {us:List Value} {i:Nat} {v:Value},a5 (bs.map V.bl) us->us[i]?=some v->∃b,bs[i]?=some b/\v=.bool b
 |[],_,_,_,r,e=>by cases r;simp at e
 |b::bs,_,0,_,.cons r _,e=>by
  have r':_=Value.bool b:=r
  simp at e;subst e;exact⟨b,by simp,r'⟩
 |b::bs,_,i+1,v,.cons _ t,e=>by
  obtain⟨b',e1,e2⟩:=tQ (i:=i) (v:=v) t (by simpa using e)
  exact⟨b',by simpa using e1,e2⟩
theorem y9(bs:List Bool):(Qj bs.length).all (fun i=>(bs[i]?).getD true)=bs.all id:=by
 rw[ZY,List.all_eq_true,List.all_eq_true]
 constructor
 ·intro h b hb
  obtain⟨i,hi,e⟩:=List.mem_iff_getElem.mp hb
  have:=h i (Qu.mpr hi)
  rw[Q7 hi,Qi,e]at this
  exact this
 ·intro h i hi
  have hi':=Qu.mp hi
  have:=h _ (Z8 hi')
  rw[Q7 hi',Qi]
  exact this
theorem B0{h:Heap}{b:Addr}{o:Obj}(e:h.get? b=some o):¬b∈[h.objs.size]:=fun z=>by
 have z':b=h.objs.size:=by simpa using z
 exact absurd (QX e) (by rw[z'];exact Nat.lt_irrefl _)
theorem eP(hc:X.calm=true):cG X (.builtin "all") (fun xs H Q=>∃(p:Addr) (bs:List Bool),xs=[.ref p]/\SqL X.K H p (bs.map V.bl)/\Q (.bl (bs.all id)) H):=by
 intro pins s σ H xs us Q I r h
 obtain⟨p,bs,rfl,hq,q⟩:=h
 obtain⟨u,rfl,rx⟩:=gC r
 cases rx
 obtain⟨its,rv,pl,hz⟩:=I.list hq
 have hlen:=rv.length
 rw[QZ]at hlen
 refine call_all_walk (wpAny_pyIter_list pl.isList ?_)
 have lt:p<s.heap.objs.size:=by obtain⟨o,e,_⟩:=pl.isList;exact QX e
 refine⟨s.heap.objs.size,_,_,_,_,_,fun i=>(bs[i]?).getD true,rfl,Walks.list (show X.A.in1.handled=none from I.ok.hd hc) s.heap.objs.size p (QC lt) its.toArray,⟨⟨_,QY _ rfl,rfl,rfl⟩,pl.isList.at fun o e=>Q4 _ e⟩,?_,fun h' tk hk=>?_⟩
 ·intro i v s' Q' E' hP hQ
  have hP':its.toArray[i]?=some v:=hP
  obtain⟨b,e1,e2⟩:=tQ rv (by simpa using hP')
  subst e2
  dsimp only at hQ
  rw[e1,Qi]at hQ
  exact wpAny_truthy_bool hQ
 ·have e:(Qj its.toArray.size).all (fun i=>(bs[i]?).getD true)=bs.all id:=by
   rw[QD,<-hlen];exact y9 bs
  rw[e]
  exact⟨.bl (bs.all id),H,I.kept fun b o e=>hk b o (B0 e) (Q4 _ e),rfl,q⟩
end
open PySem.AutoSeq1 (wpAny_loadPart')
theorem y0{prog:Program}{w:World}{A:Around}{E:Value->Shared->Prop}{s:Shared}{t b:Addr}{vs ws:List Value}{Q:Value->Shared->Prop}(ht:IsTup s.heap t vs.toArray)(hb:IsTup s.heap b ws.toArray)(hv:vs=[])
  (h1:Q (.ref b) s):wpAny (model prog w) A (binaryOp .Add (.ref t) (.ref b)) Q E s:=by
 obtain⟨⟨cls,dd,data,sl⟩,ho,hc,n,hd⟩:=id ht
 obtain⟨⟨cls2,dd2,data2,sl2⟩,ho2,hc2,n2,hd2⟩:=id hb
 simp only at hc hd hc2 hd2
 subst hc hd hc2 hd2
 exact concat_meets ⟨_,ho,rfl⟩ ⟨_,ho2,rfl⟩ noFill_tuple_add seq_tuple_add PySem.F.slot_tuple_add PySem.F.entry_tuple_add (PySem.F.args_tuple_add_2 _ _)
   (tuple_addW0 t b vs.toArray ws.toArray n n2 dd dd2 sl sl2 (by simp[hv])) ⟨ho,ho2,h1⟩
theorem vk{m:Int}(h0:0<=m)(h:m<2^60):m.natAbs.log2<9000:=by
 have:=su (n:=m.natAbs) (by omega)
 omega
end OG
namespace OP
open PySem PySem.Spec PyProof.Rows L2 OG
inductive U where
 |non|bl (b:Bool)|int (i:Int)|str (x:Str)|tup (us:List U)|ref (l:Nat)|kl (ns:List Int)
structure Cl where
 C:Addr
 ns:List Str
inductive O where
 |lst (us:List U)|dic (kvs:List (Key×U))|ins (c:Cl) (fs:List (Option U))|fdc (ep:Nat) (kvs:List (Key×U))|dit (kvs:List (List Key×U))|fdt (ep:Nat) (kvs:List (List Key×U))|dnt (kvs:List (List (List Int)×U))|fdn (ep:Nat) (kvs:List (List (List Int)×U))
abbrev Sto:=List O
abbrev Rho:=List (Option U)
def KL(K:Q5)(H:Hp)(a:Addr)(ns:List Int):Prop:=
 (∃o,H a=some (.frz o (.lst (ns.map V.int))))\/
  ∃(o:Obj) (its:Array Value) (n:Nat),K.lookup a=some o/\o.cls=.type "list"/\o.dict=none/\o.data=.seq its n/\its.size<=sizeLine/\a5 (ns.map V.int) its.toList
theorem KL.sq{K:Q5}{H:Hp}{a:Addr}{ns:List Int}(h:KL K H a ns):SqL K H a (ns.map V.int):=by
 rcases h with h|h
 ·exact .inl (.inr h)
 ·exact .inr h
mutual
def Is(K:Q5)(m:List Addr)(H:Hp):V->U->Prop
 |v,.non=>v=.non
 |v,.bl b=>v=.bl b
 |v,.int i=>v=.int i
 |v,.str x=>v=.str x
 |v,.tup us=>∃a xs,v=.ref a/\SqT K H a xs/\IsL K m H xs us
 |v,.ref l=>∃a,m[l]?=some a/\v=.ref a
 |v,.kl ns=>∃a,v=.ref a/\KL K H a ns
def IsL(K:Q5)(m:List Addr)(H:Hp):List V->List U->Prop
 |xs,[]=>xs=[]
 |xs,u::us=>∃x r,xs=x::r/\Is K m H x u/\IsL K m H r us
end
structure Ad(K:Q5)(H H':Hp):Prop where
 t:∀a xs,SqT K H a xs->SqT K H' a xs
 l:∀a ns,KL K H a ns->KL K H' a ns
structure Ext(K:Q5)(m:List Addr)(H:Hp)(m':List Addr)(H':Hp):Prop where
 pre:∃t,m'=m++t
 keep:Ad K H H'
section
variable{K:Q5}{m m' m'':List Addr}{H H' H'':Hp}{v x:V}{u:U}{xs ys:List V}{us ws:List U}{a q:Addr}{o:HO}
theorem Ext.refl:Ext K m H m H:=⟨⟨[],by simp⟩,fun _ _ h=>h,fun _ _ h=>h⟩
theorem Ext.trans(a:Ext K m H m' H')(b:Ext K m' H' m'' H''):Ext K m H m'' H'':=by
 obtain⟨t,rfl⟩:=a.pre
 obtain⟨t',rfl⟩:=b.pre
 exact⟨⟨t++t',by simp⟩,fun c ys h=>b.keep.t c ys (a.keep.t c ys h),fun c ys h=>b.keep.l c ys (a.keep.l c ys h)⟩
theorem Ext.of(k:Ad K H H'):Ext K m H m H':=⟨⟨[],by simp⟩,k⟩
theorem Ext.new(k:Ad K H H'):Ext K m H (m++[q]) H':=⟨⟨[q],rfl⟩,k⟩
theorem Ext.get{l:Nat}(e:Ext K m H m' H')(h:m[l]?=some a):m'[l]?=some a:=by
 obtain⟨t,rfl⟩:=e.pre
 rw[QN (Q6.mp h).1]
 exact h
mutual
theorem Is.mono(e:Ext K m H m' H'):∀{v:V} {u:U},Is K m H v u->Is K m' H' v u
 |v,.non,h=>by unfold Is at h ⊢;exact h
 |v,.bl b,h=>by unfold Is at h ⊢;exact h
 |v,.int i,h=>by unfold Is at h ⊢;exact h
 |v,.str x,h=>by unfold Is at h ⊢;exact h
 |v,.tup us,h=>by
  unfold Is at h ⊢
  obtain⟨a,xs,e1,k,l⟩:=h
  exact⟨a,xs,e1,e.keep.t _ _ k,IsL.mono e l⟩
 |v,.ref l,h=>by
  unfold Is at h ⊢
  obtain⟨a,k,e1⟩:=h
  exact⟨a,e.get k,e1⟩
 |v,.kl ns,h=>by
  unfold Is at h ⊢
  obtain⟨a,e1,k⟩:=h
  exact⟨a,e1,e.keep.l _ _ k⟩
theorem IsL.mono(e:Ext K m H m' H'):∀{xs:List V} {us:List U},IsL K m H xs us->IsL K m' H' xs us
 |xs,[],h=>by unfold IsL at h ⊢;exact h
 |xs,u::us,h=>by
  unfold IsL at h ⊢
  obtain⟨x,r,e1,k,l⟩:=h
  exact⟨x,r,e1,Is.mono e k,IsL.mono e l⟩
end
theorem Is.int_{i:Int}:Is K m H (.int i) (.int i):=by unfold Is;rfl
theorem Is.bl_{b:Bool}:Is K m H (.bl b) (.bl b):=by unfold Is;rfl
theorem Is.non_:Is K m H .non .non:=by unfold Is;rfl
theorem Is.str_{x:Str}:Is K m H (.str x) (.str x):=by unfold Is;rfl
theorem Is.of_int{i:Int}(h:Is K m H v (.int i)):v=.int i:=by unfold Is at h;exact h
theorem Is.of_bl{b:Bool}(h:Is K m H v (.bl b)):v=.bl b:=by unfold Is at h;exact h
theorem Is.of_non(h:Is K m H v .non):v=.non:=by unfold Is at h;exact h
theorem Is.of_str{x:Str}(h:Is K m H v (.str x)):v=.str x:=by unfold Is at h;exact h
theorem Is.of_tup(h:Is K m H v (.tup us)):∃a xs,v=.ref a/\SqT K H a xs/\IsL K m H xs us:=by unfold Is at h;exact h
theorem Is.of_ref{l:Nat}(h:Is K m H v (.ref l)):∃a,m[l]?=some a/\v=.ref a:=by unfold Is at h;exact h
theorem Is.of_kl{ns:List Int}(h:Is K m H v (.kl ns)):∃a,v=.ref a/\KL K H a ns:=by unfold Is at h;exact h
theorem Is.kl_{ns:List Int}(e:KL K H a ns):Is K m H (.ref a) (.kl ns):=by unfold Is;exact⟨a,rfl,e⟩
theorem Is.tup_(e:SqT K H a xs)(h:IsL K m H xs us):Is K m H (.ref a) (.tup us):=by unfold Is;exact⟨a,xs,rfl,e,h⟩
theorem Is.ref_{l:Nat}(e:m[l]?=some a):Is K m H (.ref a) (.ref l):=by unfold Is;exact⟨a,e,rfl⟩
theorem IsL.nil_:IsL K m H [] []:=by unfold IsL;rfl
theorem IsL.cons_(h:Is K m H x u)(t:IsL K m H xs us):IsL K m H (x::xs) (u::us):=by unfold IsL;exact⟨x,xs,rfl,h,t⟩
theorem IsL.of_nil(h:IsL K m H xs []):xs=[]:=by unfold IsL at h;exact h
theorem IsL.of_cons(h:IsL K m H xs (u::us)):∃x r,xs=x::r/\Is K m H x u/\IsL K m H r us:=by unfold IsL at h;exact h
theorem IsL.length:∀{xs:List V} {us:List U},IsL K m H xs us->xs.length=us.length
 |xs,[],h=>by rw[h.of_nil];rfl
 |xs,d::ds,h=>by
  obtain⟨x,r,rfl,_,t⟩:=h.of_cons
  rw[QB,QB,IsL.length t]
theorem IsL.getD:∀{xs:List V} {us:List U} {i:Nat} {u:U},IsL K m H xs us->us[i]?=some u->∃x,xs[i]?=some x/\Is K m H x u
 |xs,[],i,x,h,e=>by simp at e
 |xs,d::ds,0,x,h,e=>by
  obtain⟨y,r,rfl,k,t⟩:=h.of_cons
  simp at e;subst e;exact⟨y,by simp,k⟩
 |xs,d::ds,i+1,x,h,e=>by
  obtain⟨y,r,rfl,k,t⟩:=h.of_cons
  obtain⟨d',e1,e2⟩:=IsL.getD (i:=i) (u:=x) t (by simpa using e)
  exact⟨d',by simpa using e1,e2⟩
theorem IsL.append:∀{xs:List V} {us:List U},IsL K m H xs us->IsL K m H ys ws->IsL K m H (xs++ys) (us++ws)
 |xs,[],h,k=>by rw[h.of_nil];exact k
 |xs,d::ds,h,k=>by
  obtain⟨y,r,rfl,z,t⟩:=h.of_cons
  exact .cons_ z (IsL.append t k)
theorem IsL.set:∀{xs:List V} {us:List U} {j:Nat},IsL K m H xs us->Is K m H x u->IsL K m H (xs.set j x) (us.set j u)
 |xs,[],j,h,k=>by rw[h.of_nil];exact .nil_
 |xs,d::ds,0,h,k=>by
  obtain⟨y,r,rfl,z,t⟩:=h.of_cons
  exact .cons_ k t
 |xs,d::ds,j+1,h,k=>by
  obtain⟨y,r,rfl,z,t⟩:=h.of_cons
  exact .cons_ z (IsL.set t k)
theorem IsL.drop:∀{xs:List V} {us:List U} (n:Nat),IsL K m H xs us->IsL K m H (xs.drop n) (us.drop n)
 |xs,us,0,h=>h
 |xs,[],n+1,h=>by rw[h.of_nil];exact .nil_
 |xs,d::ds,n+1,h=>by
  obtain⟨y,r,rfl,z,t⟩:=h.of_cons
  exact IsL.drop n t
theorem IsL.take:∀{xs:List V} {us:List U} (n:Nat),IsL K m H xs us->IsL K m H (xs.take n) (us.take n)
 |xs,us,0,h=>.nil_
 |xs,[],n+1,h=>by rw[h.of_nil];exact .nil_
 |xs,d::ds,n+1,h=>by
  obtain⟨y,r,rfl,z,t⟩:=h.of_cons
  exact .cons_ z (IsL.take n t)
theorem IsL.erase:∀{xs:List V} {us:List U} (n:Nat),IsL K m H xs us->IsL K m H (xs.eraseIdx n) (us.eraseIdx n)
 |xs,[],n,h=>by rw[h.of_nil];exact .nil_
 |xs,d::ds,0,h=>by
  obtain⟨y,r,rfl,z,t⟩:=h.of_cons
  exact t
 |xs,d::ds,n+1,h=>by
  obtain⟨y,r,rfl,z,t⟩:=h.of_cons
  exact .cons_ z (IsL.erase n t)
theorem IsL.rev:∀{xs:List V} {us:List U},IsL K m H xs us->IsL K m H xs.reverse us.reverse
 |xs,[],h=>by rw[h.of_nil];exact .nil_
 |xs,d::ds,h=>by
  obtain⟨y,r,rfl,z,t⟩:=h.of_cons
  rw[List.reverse_cons,List.reverse_cons]
  exact IsL.append (IsL.rev t) (.cons_ z .nil_)
theorem qT(h:H a=some o)(nt:∀xs,o≠.tup xs)(nf:∀ob xs,o≠.frz ob (.tup xs))(nl:∀ob xs,o≠.frz ob (.lst xs))(o':HO):Ad K H (upd H a o'):=by
 refine⟨fun b xs q=>?_,fun b ns q=>?_⟩
 ·rcases q with(q|⟨ob,q⟩)|q
  ·have n:b≠a:=fun z=>by subst z;rw[q]at h;cases h;exact nt _ rfl
   exact .inl (.inl (by rw[aV n];exact q))
  ·have n:b≠a:=fun z=>by subst z;rw[q]at h;cases h;exact nf _ _ rfl
   exact .inl (.inr ⟨ob,by rw[aV n];exact q⟩)
  ·exact .inr q
 ·rcases q with⟨ob,q⟩|q
  ·have n:b≠a:=fun z=>by subst z;rw[q]at h;cases h;exact nl _ _ rfl
   exact .inl ⟨ob,by rw[aV n];exact q⟩
  ·exact .inr q
theorem cE(s:rF H H'):Ad K H H':=by
 refine⟨fun b xs q=>?_,fun b ns q=>?_⟩
 ·rcases q with(q|⟨ob,q⟩)|q
  ·exact .inl (.inl (s _ _ q))
  ·exact .inl (.inr ⟨ob,s _ _ q⟩)
  ·exact .inr q
 ·rcases q with⟨ob,q⟩|q
  ·exact .inl ⟨ob,s _ _ q⟩
  ·exact .inr q
theorem br(h:H q=none)(o':HO):Ad K H (upd H q o'):=cE (eJ h o')
end
abbrev NK:=List (List Int)
def hNK(ks:NK):Int:=reduceHash (Builtin.Tuple.tupleHashOf (ks.map fun k=>reduceHash (Builtin.Tuple.tupleHashOf (k.map hashInt))))
abbrev KN:List ((NK×Addr)×V)->List (NK×Addr×Value)->Prop:=Paired fun p q=>p.1.1=q.1/\p.1.2=q.2.1/\bN p.2 q.2.2
def dNo(a:Addr)(kvs:List ((NK×Addr)×V)):HO:=.ext fun h=>kvs.length<=sizeLine/\(a == sysModules)=false/\∃xs,KN kvs xs/\
 ∃o es ep,h.get? a=some o/\o.ExactDict/\o.data=.dict es ep/\es.toList=(xs.map fun x=>(⟨hNK x.1,.ref x.2.1,x.2.2⟩:DictEntry))/\(xs.map (·.1)).Nodup
def FR(K:Q5)(H:Hp)(b:Addr)(k:NK):Prop:=∃cs:List Addr,SqT K H b (cs.map V.ref)/\Paired (fun(l:List Int) c=>SqT K H c (l.map V.int)) k cs
theorem FR.mono{K:Q5}{H H':Hp}{b:Addr}{k:NK}(e:Ad K H H')(h:FR K H b k):FR K H' b k:=let ⟨cs,p,q⟩:=h;⟨cs,e.t _ _ p,Paired.mapP q fun _ _ z=>e.t _ _ z⟩
def nP(kvs:List ((NK×Addr)×V)):List (NK×V):=kvs.map fun p=>(p.1.1,p.2)
def IsP{κ:Type}(K:Q5)(m:List Addr)(H:Hp)(kvs:List (κ×V))(kus:List (κ×U)):Prop:=kvs.map (·.1)=kus.map (·.1)/\IsL K m H (kvs.map (·.2)) (kus.map (·.2))
def Rf(K:Q5)(m:List Addr)(H:Hp):Option V->Option U->Prop
 |some v,some u=>Is K m H v u
 |none,none=>True
 |_,_=>False
structure InF(K:Q5)(m:List Addr)(H:Hp)(c:Cl)(fs:List (Str×V))(fus:List (Option U)):Prop where
 nd:c.ns.Nodup
 few:c.ns.length<1000
 knd:(fs.map (·.1)).Nodup
 sub:∀x∈fs.map (·.1),x∈c.ns
 len:fus.length=c.ns.length
 at_:∀(i:Nat) (x:Str),c.ns[i]?=some x->Rf K m H (fs.lookup x) ((fus[i]?).join)
theorem Rf.mono{K:Q5}{m m':List Addr}{H H':Hp}{v:Option V}{u:Option U}(e:Ext K m H m' H')(h:Rf K m H v u):Rf K m' H' v u:=by
 cases v with
 |none=>cases u with
  |none=>trivial
  |some u=>exact h.elim
 |some v=>cases u with
  |none=>exact h.elim
  |some u=>exact Is.mono e h
theorem InF.mono{K:Q5}{m m':List Addr}{H H':Hp}{c:Cl}{fs:List (Str×V)}{fus:List (Option U)}(e:Ext K m H m' H')(h:InF K m H c fs fus):InF K m' H' c fs fus:=⟨h.nd,h.few,h.knd,h.sub,h.len,fun i x q=>(h.at_ i x q).mono e⟩
def Ob(K:Q5)(m:List Addr)(H:Hp)(a:Addr):O->Prop
 |.lst us=>∃xs,H a=some (.lst xs)/\IsL K m H xs us
 |.dic kus=>∃kvs,H a=some (.dK kvs)/\IsP K m H kvs kus
 |.ins c fus=>∃dx fs,H a=some (.ins c.C dx fs)/\InF K m H c fs fus
 |.fdc ep kus=>∃ob es kvs,H a=some (.frz ob (.dK kvs))/\ob.data=.dict es ep/\IsP K m H kvs kus
 |.dit kus=>∃kvs,H a=some (.dT kvs)/\IsP K m H kvs kus
 |.fdt ep kus=>∃ob es kvs,H a=some (.frz ob (.dT kvs))/\ob.data=.dict es ep/\IsP K m H kvs kus
 |.dnt kus=>∃kvs,H a=some (dNo a kvs)/\(∀p∈kvs,FR K H p.1.2 p.1.1)/\IsP K m H (nP kvs) kus
 |.fdn ep kus=>∃ob es kvs,H a=some (.frz ob (dNo a kvs))/\ob.data=.dict es ep/\(∀p∈kvs,FR K H p.1.2 p.1.1)/\IsP K m H (nP kvs) kus
structure Sr(K:Q5)(m:List Addr)(S:Sto)(H:Hp):Prop where
 len:m.length=S.length
 nd:m.Nodup
 ob:∀(l:Nat) (a:Addr) (o:O),m[l]?=some a->S[l]?=some o->Ob K m H a o
structure Lr(K:Q5)(m:List Addr)(H:Hp)(ρ:Rho)(σ:L2.St):Prop where
 len:ρ.length=σ.length
 at_:∀(i:Nat) (u:U),ρ[i]?=some (some u)->∃v,σ[i]?=some (some v)/\Is K m H v u
section
variable{κ:Type}{K:Q5}{m m':List Addr}{H H':Hp}{S S':Sto}{ρ:Rho}{σ:L2.St}{a q:Addr}{l:Nat}{o:O}{ho:HO}{us:List U}{v:V}{u:U}{kvs:List (κ×V)}{kus:List (κ×U)}
theorem IsP.mono(e:Ext K m H m' H')(h:IsP K m H kvs kus):IsP K m' H' kvs kus:=⟨h.1,h.2.mono e⟩
theorem IsP.length(h:IsP K m H kvs kus):kvs.length=kus.length:=by have:=h.2.length;simpa using this
theorem IsP.nil_:IsP (κ:=κ) K m H [] []:=⟨rfl,.nil_⟩
theorem IsP.cons_{k:κ}(h:Is K m H v u)(t:IsP K m H kvs kus):IsP K m H ((k,v)::kvs) ((k,u)::kus):=⟨by simp[t.1],.cons_ h t.2⟩
theorem IsP.ind{P:List (κ×V)->List (κ×U)->Prop}(h0:P [] [])(h1:∀k v u kvs kus,Is K m H v u->IsP K m H kvs kus->P kvs kus->P ((k,v)::kvs) ((k,u)::kus)):∀{kvs:List (κ×V)} {kus:List (κ×U)},IsP K m H kvs kus->P kvs kus
 |[],[],_=>h0
 |[],p::r,h=>by have:=h.length;simp at this
 |p::r,[],h=>by have:=h.length;simp at this
 |(k,v)::r,(k',u)::r',h=>by
  obtain⟨e,i⟩:=h
  simp only[Qx,List.cons.injEq]at e
  obtain⟨e1,e2⟩:=e
  subst e1
  obtain⟨x,t,e3,iu,it⟩:=i.of_cons
  cases e3
  exact h1 k v u r r' iu ⟨e2,it⟩ (IsP.ind h0 h1 (⟨e2,it⟩:IsP K m H r r'))
theorem Ob.mono(e:Ext K m H m' H')(h1:H' a=H a)(h:Ob K m H a o):Ob K m' H' a o:=by
 cases o with
 |lst us=>obtain⟨xs,k,i⟩:=h;exact⟨xs,h1.trans k,i.mono e⟩
 |dic kus=>obtain⟨xs,k,i⟩:=h;exact⟨xs,h1.trans k,i.mono e⟩
 |ins C fus=>obtain⟨dx,fs,k,i⟩:=h;exact⟨dx,fs,h1.trans k,i.mono e⟩
 |fdc ep kus=>obtain⟨ob,es,kvs,k,d,i⟩:=h;exact⟨ob,es,kvs,h1.trans k,d,i.mono e⟩
 |dit kus=>obtain⟨xs,k,i⟩:=h;exact⟨xs,h1.trans k,i.mono e⟩
 |fdt ep kus=>obtain⟨ob,es,kvs,k,d,i⟩:=h;exact⟨ob,es,kvs,h1.trans k,d,i.mono e⟩
 |dnt kus=>obtain⟨kvs,k,y,i⟩:=h;exact⟨kvs,h1.trans k,fun p hp=>(y p hp).mono e.keep,i.mono e⟩
 |fdn ep kus=>obtain⟨ob,es,kvs,k,d,y,i⟩:=h;exact⟨ob,es,kvs,h1.trans k,d,fun p hp=>(y p hp).mono e.keep,i.mono e⟩
theorem Ob.some(h:Ob K m H a o):∃ho,H a=some ho/\(∀xs,ho≠.tup xs)/\(∀ob xs,ho≠.frz ob (.tup xs))/\(∀ob xs,ho≠.frz ob (.lst xs)):=by
 cases o with
 |lst us=>obtain⟨xs,k,i⟩:=h;exact⟨_,k,by simp,by simp,by simp⟩
 |dic kus=>obtain⟨xs,k,i⟩:=h;exact⟨_,k,by simp,by simp,by simp⟩
 |ins C fus=>obtain⟨dx,fs,k,i⟩:=h;exact⟨_,k,by simp,by simp,by simp⟩
 |fdc ep kus=>obtain⟨ob,es,kvs,k,d,i⟩:=h;exact⟨_,k,by simp,by simp,by simp⟩
 |dit kus=>obtain⟨xs,k,i⟩:=h;exact⟨_,k,by simp,by simp,by simp⟩
 |fdt ep kus=>obtain⟨ob,es,kvs,k,d,i⟩:=h;exact⟨_,k,by simp,by simp,by simp⟩
 |dnt kus=>obtain⟨kvs,k,y,i⟩:=h;exact⟨_,k,by simp[dNo],by simp[dNo],by simp[dNo]⟩
 |fdn ep kus=>obtain⟨ob,es,kvs,k,d,y,i⟩:=h;exact⟨_,k,by simp,by simp[dNo],by simp[dNo]⟩
theorem Lr.mono(e:Ext K m H m' H')(h:Lr K m H ρ σ):Lr K m' H' ρ σ:=⟨h.len,fun i u e1=>let ⟨v,e2,e3⟩:=h.at_ i u e1;⟨v,e2,e3.mono e⟩⟩
theorem Lr.set(h:Lr K m H ρ σ)(i:Nat)(hv:Is K m H v u):Lr K m H (ρ.set i (some u)) (σ.set i (some v)):=by
 refine⟨by simp[h.len],fun j w e=>?_⟩
 by_cases c:i=j
 ·subst c
  rw[List.getElem?_set_self' ]at e
  rw[List.getElem?_set_self']
  have hl:=h.len
  cases e1:ρ[i]? with
  |none=>rw[e1]at e;simp at e
  |some z=>
   rw[e1]at e
   simp at e
   subst e
   have:i < σ.length:=by rw[<-hl];exact(Q6.mp e1).1
   rw[Q7 this]
   exact⟨v,rfl,hv⟩
 ·rw[Qb c]at e
  rw[Qb c]
  exact h.at_ j w e
theorem Sr.get(r:Sr K m S H)(h:S[l]?=some o):∃a,m[l]?=some a/\Ob K m H a o:=by
 have hl:l<m.length:=by rw[r.len];exact(Q6.mp h).1
 exact⟨_,Q7 hl,r.ob _ _ _ (Q7 hl) h⟩
theorem Sr.at_(r:Sr K m S H)(h:m[l]?=some a):∃o,S[l]?=some o/\Ob K m H a o:=by
 have hl:l<S.length:=by rw[<-r.len];exact(Q6.mp h).1
 exact⟨_,Q7 hl,r.ob _ _ _ h (Q7 hl)⟩
theorem Sr.same(r:Sr K m S H)(s:rF H H'):Sr K m S H':=⟨r.len,r.nd,fun l a o h1 h2=>by
 have q:=r.ob l a o h1 h2
 obtain⟨ho,e,_⟩:=q.some
 exact q.mono (.of (cE s)) (by rw[s _ _ e,e])⟩
theorem Sr.new(r:Sr K m S H)(h:H q=none)(n:Ob K (m++[q]) (upd H q ho) q o):Sr K (m++[q]) (S++[o]) (upd H q ho):=by
 have hq:q∉m:=fun z=>by
  obtain⟨l,e⟩:=ZQ z
  obtain⟨o,_,k⟩:=r.at_ e
  obtain⟨ho,e2,_⟩:=k.some
  rw[h]at e2;cases e2
 refine⟨by simp[r.len],?_,fun l a o' h1 h2=>?_⟩
 ·rw[List.nodup_append]
  exact⟨r.nd,by simp,fun x hx y hy z=>by simp at hy;subst hy;subst z;exact hq hx⟩
 ·by_cases c:l<m.length
  ·rw[QN c]at h1
   rw[QN (by rw[<-r.len];exact c)]at h2
   have q':=r.ob l a o' h1 h2
   obtain⟨ho',e,_⟩:=q'.some
   exact q'.mono (.new (br h _)) (by rw[aV (b8 e h)])
  ·have e:l=m.length:=by
    have:=(Q6.mp h1).1
    simp at this;omega
   subst e
   rw[Qz (QJ _)]at h1
   rw[Qz (by rw[r.len];exact QJ _)]at h2
   simp[r.len]at h1 h2
   subst h1;subst h2
   exact n
theorem Sr.put(r:Sr K m S H)(h:m[l]?=some a)(n:Ob K m (upd H a ho) a o):Sr K m (S.set l o) (upd H a ho):=by
 obtain⟨o0,h0,k0⟩:=r.at_ h
 obtain⟨ho',e,nt,nf,nl⟩:=k0.some
 refine⟨by simp[r.len],r.nd,fun l' a' o' h1 h2=>?_⟩
 by_cases c:l=l'
 ·subst c
  rw[h]at h1;cases h1
  rw[List.getElem?_set_self (Q6.mp h0).1]at h2
  cases h2
  exact n
 ·rw[Qb c]at h2
  have na:a'≠a:=fun z=>by
   subst z
   obtain⟨p1,e1⟩:=Q6.mp h
   obtain⟨p2,e2⟩:=Q6.mp h1
   exact c ((List.getElem_inj r.nd).mp (e1.trans e2.symm))
  exact(r.ob l' a' o' h1 h2).mono (.of (qT e nt nf nl _)) (by rw[aV na])
theorem Sr.keep(r:Sr K m S H)(h:m[l]?=some a)(ho:HO):Ad K H (upd H a ho):=by
 obtain⟨o0,h0,k0⟩:=r.at_ h
 obtain⟨ho',e,nt,nf,nl⟩:=k0.some
 exact qT e nt nf nl _
end
def hJ(K:Q5)(m:List Addr)(H:Hp)(Q:VK)(u:U)(S':Sto):Prop:=∀m' v H',Ext K m H m' H'->Sr K m' S' H'->Is K m' H' v u->Q v H'
abbrev CE:=Rho->Sto->Option (U×Sto)
abbrev CT:=Rho->Sto->Option (Bool×Sto)
abbrev CA:=Rho->Sto->Option (List U×Sto)
inductive Out where
 |nx|rt (u:U)|bk|ct
abbrev CS:=Rho->Sto->Option (Out×Rho×Sto)
def zb(K:Q5)(m:List Addr)(H:Hp)(Q:Bool->Hp->Prop)(b:Bool)(S':Sto):Prop:=∀m' H',Ext K m H m' H'->Sr K m' S' H'->Q b H'
def HS(K:Q5)(m:List Addr)(H:Hp)(Q:List V->Hp->Prop)(us:List U)(S':Sto):Prop:=∀m' vs H',Ext K m H m' H'->Sr K m' S' H'->IsL K m' H' vs us->Q vs H'
def fP(K:Q5)(m:List Addr)(H:Hp)(Q:L2.St->Hp->Prop)(ρ':Rho)(S':Sto):Prop:=∀m' σ' H',Ext K m H m' H'->Sr K m' S' H'->Lr K m' H' ρ' σ'->Q σ' H'
def sL(K:Q5)(m:List Addr)(H:Hp)(D:Ae):Out->Rho->Sto->Prop
 |.nx,ρ',S'=>fP K m H D.nx ρ' S'
 |.bk,ρ',S'=>fP K m H D.bk ρ' S'
 |.ct,ρ',S'=>fP K m H D.ct ρ' S'
 |.rt u,_,S'=>hJ K m H D.rt u S'
theorem ie{α β γ δ ε:Type}{A B C D:α->β->γ->δ->ε->Prop}{p:Prop}(h:∃a b c d e,A a b c d e/\B a b c d e/\C a b c d e/\D a b c d e)(f:∀a b c d e,A a b c d e->B a b c d e->C a b c d e->D a b c d e->p):p:=by
 obtain⟨a,b,c,d,e,h1,h2,h3,h4⟩:=h
 exact f a b c d e h1 h2 h3 h4
theorem sE{α β γ δ ε ζ:Type}{A B C D:α->β->γ->δ->ε->ζ->Prop}{p:Prop}(h:∃a b c d e g,A a b c d e g/\B a b c d e g/\C a b c d e g/\D a b c d e g)(f:∀a b c d e g,A a b c d e g->B a b c d e g->C a b c d e g->D a b c d e g->p):p:=by
 obtain⟨a,b,c,d,e,g,h1,h2,h3,h4⟩:=h
 exact f a b c d e g h1 h2 h3 h4
theorem IF{α β γ δ ε ζ:Type}{A B C D E:α->β->γ->δ->ε->ζ->Prop}{p:Prop}(h:∃a b c d e g,A a b c d e g/\B a b c d e g/\C a b c d e g/\D a b c d e g/\E a b c d e g)(f:∀a b c d e g,A a b c d e g->B a b c d e g->C a b c d e g->D a b c d e g->E a b c d e g->p):p:=by
 obtain⟨a,b,c,d,e,g,h1,h2,h3,h4,h5⟩:=h
 exact f a b c d e g h1 h2 h3 h4 h5
def tE(K:Q5)(c:CE):TE:=fun σ H Q=>∃m ρ S u S',Sr K m S H/\Lr K m H ρ σ/\c ρ S=some (u,S')/\hJ K m H Q u S'
def tT(K:Q5)(c:CT):TT:=fun σ H Q=>∃m ρ S u S',Sr K m S H/\Lr K m H ρ σ/\c ρ S=some (u,S')/\zb K m H Q u S'
def tA(K:Q5)(c:CA):TA:=fun σ H Q=>∃m ρ S u S',Sr K m S H/\Lr K m H ρ σ/\c ρ S=some (u,S')/\HS K m H Q u S'
def tS(K:Q5)(c:CS):TS:=fun D σ H=>∃m ρ S o ρ' S',Sr K m S H/\Lr K m H ρ σ/\c ρ S=some (o,ρ',S')/\sL K m H D o ρ' S'
abbrev QE(X:Cx)(e:Expr)(c:CE):Prop:=WE X e (tE X.K c)
abbrev QT(X:Cx)(e:Expr)(c:CT):Prop:=WT X e (tT X.K c)
abbrev QW(X:Cx)(e:Expr)(c:CT):Prop:=WW X e (tT X.K c)
abbrev QS(X:Cx)(e:Stmt)(c:CS):Prop:=WS X e (tS X.K c)
abbrev QSs(X:Cx)(e:List Stmt)(c:CS):Prop:=WSs X e (tS X.K c)
structure QA(X:Cx)(es:List Expr)(c:CA):Prop where
 h:WA X es (tA X.K c)
 len:∀ρ S us S',c ρ S=some (us,S')->us.length=es.length
section
variable{X:Cx}{e:Expr}{es:List Expr}{st:Stmt}{sts:List Stmt}
theorem _root_.OG.WE.imp{t t':TE}(h:WE X e t)(i:∀σ H Q,t' σ H Q->t σ H Q):WE X e t':=⟨fun pins s σ H Q I k=>h.h pins s σ H Q I (i σ H Q k)⟩
theorem _root_.OG.WT.imp{t t':TT}(h:WT X e t)(i:∀σ H Q,t' σ H Q->t σ H Q):WT X e t':=⟨fun pins s σ H Q I k=>h.h pins s σ H Q I (i σ H Q k)⟩
theorem _root_.OG.WW.imp{t t':TT}(h:WW X e t)(i:∀σ H Q,t' σ H Q->t σ H Q):WW X e t':=⟨fun wh pins s σ H Q I k=>h.h wh pins s σ H Q I (i σ H Q k)⟩
theorem _root_.OG.WA.imp{t t':TA}(h:WA X es t)(i:∀σ H Q,t' σ H Q->t σ H Q):WA X es t':=⟨fun pos pins s σ H Q I k=>h.h pos pins s σ H Q I (i σ H Q k)⟩
theorem _root_.OG.WS.imp{t t':TS}(h:WS X st t)(i:∀D σ H,t' D σ H->t D σ H):WS X st t':=⟨fun pins s σ H D I k=>h.h pins s σ H D I (i D σ H k)⟩
theorem _root_.OG.WSs.imp{t t':TS}(h:WSs X sts t)(i:∀D σ H,t' D σ H->t D σ H):WSs X sts t':=⟨fun pins s σ H D I k=>h.h pins s σ H D I (i D σ H k)⟩
theorem _root_.OG.WI.imp{tg:Expr}{t t':TI}(h:WI X tg e t)(i:∀σ H R,t' σ H R->t σ H R):WI X tg e t':=⟨fun pins s σ H R I k=>h.h pins s σ H R I (i σ H R k)⟩
theorem _root_.OG.WG.imp{t t':TG}(h:WG X e t)(i:∀v σ H Q,t' v σ H Q->t v σ H Q):WG X e t':=⟨fun pins s σ H v u Q I r k=>h.h pins s σ H v u Q I r (i v σ H Q k)⟩
theorem _root_.OG.WGs.imp{t t':TGs}(h:WGs X es t)(i:∀v σ H Q,t' v σ H Q->t v σ H Q):WGs X es t':=⟨fun pins s σ H v u Q I r k=>h.h pins s σ H v u Q I r (i v σ H Q k)⟩
theorem _root_.OG.WE.or{t t':TE}(h:WE X e t)(h':WE X e t'):WE X e (fun σ H Q=>t σ H Q\/t' σ H Q):=⟨fun pins s σ H Q I k=>k.elim (h.h pins s σ H Q I) (h'.h pins s σ H Q I)⟩
theorem _root_.OG.WT.or{t t':TT}(h:WT X e t)(h':WT X e t'):WT X e (fun σ H Q=>t σ H Q\/t' σ H Q):=⟨fun pins s σ H Q I k=>k.elim (h.h pins s σ H Q I) (h'.h pins s σ H Q I)⟩
theorem _root_.OG.WS.or{t t':TS}(h:WS X st t)(h':WS X st t'):WS X st (fun D σ H=>t D σ H\/t' D σ H):=⟨fun pins s σ H D I k=>k.elim (h.h pins s σ H D I) (h'.h pins s σ H D I)⟩
theorem _root_.OG.WI.or{tg:Expr}{t t':TI}(h:WI X tg e t)(h':WI X tg e t'):WI X tg e (fun σ H D=>t σ H D\/t' σ H D):=⟨fun pins s σ H D I k=>k.elim (h.h pins s σ H D I) (h'.h pins s σ H D I)⟩
end
section
variable{K:Q5}{m m':List Addr}{H H':Hp}{Q:VK}{R:L2.St->Hp->Prop}{D:Ae}{u:U}{o:Out}{S':Sto}{ρ':Rho}
theorem hJ.mono(e:Ext K m H m' H')(p:hJ K m H Q u S'):hJ K m' H' Q u S':=fun m2 v H2 e2 r i=>p m2 v H2 (e.trans e2) r i
theorem zb.mono{Q:Bool->Hp->Prop}{b:Bool}(e:Ext K m H m' H')(p:zb K m H Q b S'):zb K m' H' Q b S':=fun m2 H2 e2 r=>p m2 H2 (e.trans e2) r
theorem fP.mono(e:Ext K m H m' H')(p:fP K m H R ρ' S'):fP K m' H' R ρ' S':=fun m2 v H2 e2 r i=>p m2 v H2 (e.trans e2) r i
theorem sL.mono(e:Ext K m H m' H')(p:sL K m H D o ρ' S'):sL K m' H' D o ρ' S':=by
 cases o with
 |nx=>exact fP.mono e p
 |rt u=>exact hJ.mono e p
 |bk=>exact fP.mono e p
 |ct=>exact fP.mono e p
end
def LIM:Nat:=100000
theorem lim{n:Nat}(h:n<=LIM):n<=sizeLine:=Qy h (by unfold LIM sizeLine;decide)
theorem EX{n:Nat}(h:n<LIM):n<sizeLine:=Qq h (by unfold LIM sizeLine;decide)
def ae(i:Nat):CE:=fun ρ S=>match ρ[i]? with
 |some (some u)=>some (u,S)
 |_=>none
def cC(u:U):CE:=fun _ S=>some (u,S)
section
variable{X:Cx}{e a b c:Expr}{ca cb cc:CE}{pos:Pos}
theorem ag{i:Nat}(h:WE X e (FY i)):QE X e (ae i):=h.imp fun σ H Q hz=>ie hz fun m ρ S u S' sr lr hc post=>by
 unfold ae at hc
 split at hc
 ·rename_i u' e
  cases hc
  obtain⟨v,e1,e2⟩:=lr.at_ i u e
  exact⟨v,e1,post m v H .refl sr e2⟩
 ·cases hc
theorem q_c{v:V}{u:U}(h:WE X e (tC v))(hi:∀m H,Is X.K m H v u):QE X e (cC u):=h.imp fun σ H Q hz=>ie hz fun m ρ S u' S' sr lr hc post=>by
 cases hc
 exact post m v H .refl sr (hi m H)
theorem aB{i:Int}(h:WE X e (tC (.int i))):QE X e (cC (.int i)):=q_c h fun _ _=>.int_
theorem zv{i:Bool}(h:WE X e (tC (.bl i))):QE X e (cC (.bl i)):=q_c h fun _ _=>.bl_
def cOp(f:U->U->Sto->Option (U×Sto))(ca cb:CE):CE:=fun ρ S=>(ca ρ S).bind fun p=>(cb ρ p.2).bind fun q=>f p.1 q.1 q.2
def OpP(K:Q5)(r:R2)(f:U->U->Sto->Option (U×Sto)):Prop:=
 ∀m S H x y v w u S' Q,Sr K m S H->Is K m H v x->Is K m H w y->f x y S=some (u,S')->hJ K m H Q u S'->r v w H Q
theorem uW{K:Q5}{r:R2}{f:U->U->Sto->Option (U×Sto)}(hp:OpP K r f):∀σ H Q,tE K (cOp f ca cb) σ H Q->tOp r (tE K ca) (tE K cb) σ H Q:=by
 rintro σ H Q ⟨m,ρ,S,u,S',sr,lr,hc,post⟩
 obtain⟨⟨x,S1⟩,h1,h⟩:=Q3.mp hc
 obtain⟨⟨y,S2⟩,h2,h3⟩:=Q3.mp h
 exact⟨m,ρ,S,x,S1,sr,lr,h1,fun m1 v1 H1 e1 sr1 i1=>⟨m1,ρ,S1,y,S2,sr1,lr.mono e1,h2,fun m2 v2 H2 e2 sr2 i2=>hp m2 S2 H2 x y v1 v2 u S' Q sr2 (i1.mono e2) i2 h3 (post.mono (e1.trans e2))⟩⟩
theorem dq{op:Operator}{r:R2}{f:U->U->Sto->Option (U×Sto)}(ho:OpR X (binaryOp op) r)(hp:OpP X.K r f)(ha:QE X a ca)(hb:QE X b cb):QE X (.BinOp a op b pos) (cOp f ca cb):=(DM ho ha hb).imp (uW hp)
theorem se{op:CmpOp}{r:R2}{f:U->U->Sto->Option (U×Sto)}(ho:OpR X (compareOp op) r)(hp:OpP X.K r f)(ha:QE X a ca)(hb:QE X b cb)(hm:behindInMarks op b=false):QE X (.Compare a [op] [b] pos) (cOp f ca cb):=(xq ho ha hb hm).imp (uW hp)
def aA(c:CE):CT:=fun ρ S=>(c ρ S).bind fun p=>match p.1 with
 |.bl b=>some (b,p.2)
 |_=>none
theorem i8{K:Q5}{c:CE}{t:TE}(h:∀σ H Q,tE K c σ H Q->t σ H Q):∀σ H Q,tT K (aA c) σ H Q->t σ H fun x H'=>∃k,x=.bl k/\Q k H':=by
 rintro σ H Q ⟨m,ρ,S,u,S',sr,lr,hc,post⟩
 obtain⟨⟨x,S1⟩,h1,h2⟩:=Q3.mp hc
 refine h σ H _ ⟨m,ρ,S,x,S1,sr,lr,h1,fun m1 v1 H1 e1 sr1 i1=>?_⟩
 cases x<;>simp at h2
 obtain⟨rfl,rfl⟩:=h2
 exact⟨_,i1.of_bl,post m1 H1 e1 sr1⟩
theorem bw{op:CmpOp}{r:R2}{f:U->U->Sto->Option (U×Sto)}(ho:OpR X (compareOp op) r)(hp:OpP X.K r f)(ha:QE X a ca)(hb:QE X b cb)(hm:behindInMarks op b=false):QT X (.Compare a [op] [b] pos) (aA (cOp f ca cb)):=(lN ho ha hb hm).imp (i8 (uW hp))
theorem ux(h:QE X e ca)(he:∀whole,isTrue e X.env whole=(do let v <-whole;standAt e.pos;holding [v] (truthy v)):=by intro _;rfl):QT X e (aA ca):=(AJ h he).imp (i8 fun _ _ _ z=>z)
variable{ta tb:CT}{rest:List Expr}
def lH(ta tb:CT):CT:=fun ρ S=>(ta ρ S).bind fun p=>if p.1=true then tb ρ p.2 else some (false,p.2)
def cOr(ta tb:CT):CT:=fun ρ S=>(ta ρ S).bind fun p=>if p.1=true then some (true,p.2)else tb ρ p.2
def FK(ta:CT):CT:=fun ρ S=>(ta ρ S).bind fun p=>some (!p.1,p.2)
theorem wR(h:QW X e ta):QT X e ta:=WW.pt h
theorem nq(ha:QT X a ta):QW X (.BoolOp .And [a] pos) ta:=xh ha
theorem uz(ha:QT X a ta):QW X (.BoolOp .Or [a] pos) ta:=AH ha
theorem uC(ha:QT X a ta)(hb:QW X (.BoolOp .And (b::rest) pos) tb):QW X (.BoolOp .And (a::b::rest) pos) (lH ta tb):=(AI ha hb).imp fun σ H Q hz=>ie hz fun m ρ S u S' sr lr hc post=>by
 obtain⟨⟨x,S1⟩,h1,h2⟩:=Q3.mp hc
 refine⟨m,ρ,S,x,S1,sr,lr,h1,fun m1 H1 e1 sr1=>?_⟩
 cases x with
 |true=>exact Fe ⟨m1,ρ,S1,u,S',sr1,lr.mono e1,h2,post.mono e1⟩
 |false=>cases h2;exact Ff (post m1 H1 e1 sr1)
theorem CY(ha:QT X a ta)(hb:QW X (.BoolOp .Or (b::rest) pos) tb):QW X (.BoolOp .Or (a::b::rest) pos) (cOr ta tb):=(DJ ha hb).imp fun σ H Q hz=>ie hz fun m ρ S u S' sr lr hc post=>by
 obtain⟨⟨x,S1⟩,h1,h2⟩:=Q3.mp hc
 refine⟨m,ρ,S,x,S1,sr,lr,h1,fun m1 H1 e1 sr1=>?_⟩
 cases x with
 |true=>cases h2;exact Fe (post m1 H1 e1 sr1)
 |false=>exact Ff ⟨m1,ρ,S1,u,S',sr1,lr.mono e1,h2,post.mono e1⟩
theorem uy(ha:QT X a ta):QT X (.UnaryOp .Not a pos) (FK ta):=(AK ha).imp fun σ H Q hz=>ie hz fun m ρ S u S' sr lr hc post=>by
 obtain⟨⟨x,S1⟩,h1,h2⟩:=Q3.mp hc
 cases h2
 exact⟨m,ρ,S,x,_,sr,lr,h1,fun m1 H1 e1 sr1=>post m1 H1 e1 sr1⟩
def y2(ca cb:CE):CE:=fun ρ S=>(ca ρ S).bind fun p=>match p.1 with
 |.bl true=>cb ρ p.2
 |.bl false=>some (.bl false,p.2)
 |_=>none
def y1(ca:CE):CE:=fun ρ S=>(ca ρ S).bind fun p=>match p.1 with
 |.bl b=>some (.bl (!b),p.2)
 |_=>none
theorem GZ{op}(h:QE X a ca):QE X (.BoolOp op [a] pos) ca:=AV h
theorem Ef(ha:QE X a ca)(hb:QE X (.BoolOp .And (b::rest) pos) cb):QE X (.BoolOp .And (a::b::rest) pos) (y2 ca cb):=(AY ha hb).imp fun σ H Q hz=>ie hz fun m ρ S u S' sr lr hc post=>by
 obtain⟨⟨x,S1⟩,h1,h2⟩:=Q3.mp hc
 refine⟨m,ρ,S,x,S1,sr,lr,h1,fun m1 v1 H1 e1 sr1 i1=>?_⟩
 cases x with
 |bl k=>
  refine⟨k,i1.of_bl,?_⟩
  cases k with
  |true=>exact Fe ⟨m1,ρ,S1,u,S',sr1,lr.mono e1,h2,post.mono e1⟩
  |false=>cases h2;exact Ff (post m1 _ H1 e1 sr1 .bl_)
 |_=>simp at h2
theorem Ee(ha:QE X a ca):QE X (.UnaryOp .Not a pos) (y1 ca):=(AW ha).imp fun σ H Q hz=>ie hz fun m ρ S u S' sr lr hc post=>by
 obtain⟨⟨x,S1⟩,h1,h2⟩:=Q3.mp hc
 refine⟨m,ρ,S,x,S1,sr,lr,h1,fun m1 v1 H1 e1 sr1 i1=>?_⟩
 cases x with
 |bl k=>cases h2;exact⟨k,i1.of_bl,post m1 _ H1 e1 sr1 .bl_⟩
 |_=>simp at h2
variable{es:List Expr}{cr:CA}
def ao:CA:=fun _ S=>some ([],S)
def ab(ca:CE)(cr:CA):CA:=fun ρ S=>(ca ρ S).bind fun p=>(cr ρ p.2).bind fun q=>some (p.1::q.1,q.2)
theorem av:QA X [] ao:=⟨fg.imp fun σ H Q hz=>ie hz fun m ρ S u S' sr lr hc post=>by cases hc;exact post m [] H .refl sr .nil_,fun ρ S us S' h=>by cases h;rfl⟩
theorem af(ha:QE X e ca)(hr:QA X es cr)(hs:starEach (e::es) X.env=(false,eval e X.env)::starEach es X.env:=by rfl):QA X (e::es) (ab ca cr):=⟨(cy ha hr.h hs).imp fun σ H Q hz=>ie hz fun m ρ S u S' sr lr hc post=>by
 obtain⟨⟨x,S1⟩,h1,h⟩:=Q3.mp hc
 obtain⟨⟨y,S2⟩,h2,h3⟩:=Q3.mp h
 cases h3
 exact⟨m,ρ,S,x,S1,sr,lr,h1,fun m1 v1 H1 e1 sr1 i1=>⟨m1,ρ,S1,y,S2,sr1,lr.mono e1,h2,fun m2 v2 H2 e2 sr2 i2=>post m2 _ H2 (e1.trans e2) sr2 (.cons_ (i1.mono e2) i2)⟩⟩,
 fun ρ S us S' h=>by
 obtain⟨⟨x,S1⟩,h1,h⟩:=Q3.mp h
 obtain⟨⟨y,S2⟩,h2,h3⟩:=Q3.mp h
 cases h3
 simp[hr.len ρ S1 y S2 h2]⟩
def ig(cr:CA):CE:=fun ρ S=>(cr ρ S).bind fun p=>some (.tup p.1,p.2)
def bZ(cr:CA):CE:=fun ρ S=>(cr ρ S).bind fun p=>some (.ref p.2.length,p.2++[.lst p.1])
theorem cN{m:List Addr}{S:Sto}{q:Addr}(h:m.length=S.length):(m++[q])[S.length]?=some q:=by rw[Qz (by omega)];simp[h]
theorem jc{K:Q5}{m:List Addr}{H:Hp}{S:Sto}{us:List U}{xs:List V}{Q:VK}{p:Addr}(sr:Sr K m S H)(i:IsL K m H xs us)(post:hJ K m H Q (.tup us) S)(hp:H p=none):Q (.ref p) (upd H p (.tup xs)):=
 post m _ _ (.of (br hp _)) (sr.same (eJ hp _)) (.tup_ (SqT.of aJ) (i.mono (.of (br hp _))))
theorem bP{K:Q5}{m:List Addr}{H:Hp}{S:Sto}{us:List U}{xs:List V}{Q:VK}{p:Addr}(sr:Sr K m S H)(i:IsL K m H xs us)(post:hJ K m H Q (.ref S.length) (S++[.lst us]))(hp:H p=none):Q (.ref p) (upd H p (.lst xs)):=
 post (m++[p]) _ _ (.new (br hp _)) (sr.new hp ⟨xs,aJ,i.mono (.new (br hp _))⟩) (.ref_ (cN sr.len))
theorem kA{x1}(h:QA X es cr)(hl:es.length<=1000:=by exact Nat.le_of_ble_eq_true rfl):QE X (.Tuple es x1 pos) (ig cr):=(tJ h.h).imp fun σ H Q hz=>ie hz fun m ρ S u S' sr lr hc post=>by
 obtain⟨⟨us,S1⟩,h1,h2⟩:=Q3.mp hc
 cases h2
 refine⟨m,ρ,S,us,_,sr,lr,h1,fun m1 v1 H1 e1 sr1 i1=>⟨zk ?_,fun p hp=>jc sr1 i1 (post.mono e1) hp⟩⟩
 rw[i1.length,h.len _ _ _ _ h1];exact hl
theorem cK(h:QA X es cr)(hl:es.length<=1000:=by exact Nat.le_of_ble_eq_true rfl):QE X (.List es pos) (bZ cr):=(AX h.h).imp fun σ H Q hz=>ie hz fun m ρ S u S' sr lr hc post=>by
 obtain⟨⟨us,S1⟩,h1,h2⟩:=Q3.mp hc
 cases h2
 refine⟨m,ρ,S,us,_,sr,lr,h1,fun m1 v1 H1 e1 sr1 i1=>⟨zk ?_,fun p hp=>bP sr1 i1 (post.mono e1) hp⟩⟩
 rw[i1.length,h.len _ _ _ _ h1];exact hl
def cCB(f:List U->Sto->Option (U×Sto))(cr:CA):CE:=fun ρ S=>(cr ρ S).bind fun p=>f p.1 p.2
def iY(K:Q5)(r:List V->Hp->VK->Prop)(f:List U->Sto->Option (U×Sto)):Prop:=
 ∀m S H us vs u S' Q,Sr K m S H->IsL K m H vs us->f us S=some (u,S')->hJ K m H Q u S'->r vs H Q
theorem z0{K:Q5}{r:List V->Hp->VK->Prop}{f:List U->Sto->Option (U×Sto)}(hp:iY K r f):∀σ H Q,tE K (cCB f cr) σ H Q->tCB r (tA K cr) σ H Q:=by
 rintro σ H Q ⟨m,ρ,S,u,S',sr,lr,hc,post⟩
 obtain⟨⟨us,S1⟩,h1,h2⟩:=Q3.mp hc
 exact⟨m,ρ,S,us,S1,sr,lr,h1,fun m1 v1 H1 e1 sr1 i1=>hp m1 S1 H1 us v1 u S' Q sr1 i1 h2 (post.mono e1)⟩
theorem aW{id:String}{x:Str}{p:Pos}{r:List V->Hp->VK->Prop}{f:List U->Sto->Option (U×Sto)}(hc:cG X (.builtin id) r)(hp:iY X.K r f)(hg:Gl X x)(hm:X.mg x=none)(hv:bootBuiltins x=some (.builtin id))(ha:QA X (e::es) cr)(hn:x≠"__name__":=by decide)(hdb:(x == ("__debug__":Str))=false:=by decide)(he:starEach (e::es) X.env=(false,eval e X.env)::starEach es X.env:=by rfl)(hpl:(backTo pos (starEach es X.env)).any (·.1)=false:=by rfl) :
  QE X (.Call (.Name x p) (e::es) [] pos) (cCB f cr):=(gB hc hg hm hv ha.h hn hdb he hpl).imp (z0 hp)
theorem cD{id:String}{x:Str}{p:Pos}{r:List V->Hp->VK->Prop}{f:List U->Sto->Option (U×Sto)}(hc:cG X (.type id) r)(hp:iY X.K r f)(hg:Gl X x)(hm:X.mg x=none)(hv:bootBuiltins x=some (.type id))(ha:QA X (e::es) cr)(hn:x≠"__name__":=by decide)(hdb:(x == ("__debug__":Str))=false:=by decide)(he:starEach (e::es) X.env=(false,eval e X.env)::starEach es X.env:=by rfl)(hpl:(backTo pos (starEach es X.env)).any (·.1)=false:=by rfl) :
  QE X (.Call (.Name x p) (e::es) [] pos) (cCB f cr):=(iB hc hg hm hv ha.h hn hdb he hpl).imp (z0 hp)
end
def FZ(K:Q5)(f:List U->Sto->Option (U×Sto)):Sp:=fun vs H Q _=>∃m us S u S',IsL K m H vs us/\Sr K m S H/\f us S=some (u,S')/\hJ K m H Q u S'
abbrev Fn:=List U->Sto->Option (U×Sto)
abbrev ff(P:Program)(w:World)(K:Q5)(mg:Str->Option Value)(base:Heap)(x:Str)(k:Nat)(ps:List Str)(f:Fn):Prop:=Has P w K mg base x k ps (FZ K f)
def mX(n:Nat)(us:List U):Rho:=us.map some++Zv (n-us.length) none
def fnU(n k:Nat)(c:CS):Fn:=fun us S=>if us.length=k then(c (mX n us) S).bind fun r=>match r.1 with
 |.rt u=>some (u,r.2.2)
 |.nx=>some (.non,r.2.2)
 |_=>none else none
section
variable{P:Program}{w:World}{K:Q5}{mg:Str->Option Value}{base:Heap}{x:Str}{st:Stmt}{ps N:List Str}{k:Nat}{c:CS}{f:Fn}
theorem yr{m:List Addr}{H:Hp}{vs:List V}{us:List U}(i:IsL K m H vs us):Lr K m H (mX N.length us) (L2.gD N vs):=by
 have hl:=i.length
 refine⟨by simp[mX,L2.gD,hl],fun j u e=>?_⟩
 unfold mX at e
 unfold L2.gD
 by_cases c:j<us.length
 ·rw[QN (by simpa using c),Qv]at e
  rw[QN (by simpa [hl] using c),Qv]
  rw[Q7 c]at e
  simp at e
  obtain⟨v,e1,e2⟩:=i.getD (Q7 c)
  rw[e1]
  subst e
  exact⟨v,rfl,e2⟩
 ·rw[Qz (by simpa using c),ZP]at e
  split at e<;>cases e
theorem Cz{X:Cx}{body:List Stmt}{Q:VK}{E:XK}{vs:List V}{H:Hp}(hK:X.K=K)(h:FZ K (fnU N.length ps.length c) vs H Q E):tS X.K c { nx:=fun _ H'=>Q .non H',rt:=Q } (L2.gD N vs) H:=by
 subst hK
 obtain⟨m,us,S,u,S',i,sr,hf,post⟩:=h
 unfold fnU at hf
 split at hf
 ·obtain⟨⟨o,ρ',S2⟩,h1,h2⟩:=Q3.mp hf
  refine⟨m,_,S,o,ρ',S2,sr,yr i,h1,?_⟩
  cases o with
  |rt v=>cases h2;exact post
  |nx=>cases h2;exact fun m1 σ1 H1 e1 sr1 _=>post m1 _ H1 e1 sr1 .non_
  |bk=>simp at h2
  |ct=>simp at h2
 ·cases hf
theorem xF{vs:List V}{H:Hp}{Q:VK}{E:XK}{n k:Nat}(h:FZ K (fnU n k c) vs H Q E):vs.length=k:=by
 obtain⟨m,us,S,u,S',i,sr,hf,post⟩:=h
 unfold fnU at hf
 split at hf
 ·rename_i e
  rw[i.length,e]
 ·cases hf
theorem _root_.OG.Def.pure(d:Def K mg x st ps)(S:bp N ps (aE st))
  (hb:∀(f:Addr) (cdv:Value) (A:Around) (outer:List Env) (s:Shared) (H:Hp) (E:XK),km k (A.deeper (envOfC x (aE st) s.heap.objs.size f cdv))->
   WSs (wV CX0 P w K mg base N x (aE st) f cdv A outer s H E).nox (dJ st) (tS K c)):ff P w K mg base x (k+1) ps (fnU N.length ps.length c):=
 d.has S (fun vs H Q E h=>xF h) fun f cdv A outer s H vs Q E hr h=>⟨_,hb f cdv A outer s H E hr,Cz (X:=(wV CX0 P w K mg base N x (aE st) f cdv A outer s H E).nox) (body:=[]) (ps:=ps) rfl h⟩
theorem aS{X:Cx}{e:Expr}{es:List Expr}{cr:CA}{p pos:Pos}(F:Has X.prog X.w X.K X.mg X.base x k ps (FZ X.K f))(hr:km k X.A)(hg:Gl X x)(ha:QA X (e::es) cr)
  (hdb:(x == ("__debug__":Str))=false:=by decide) (he:starEach (e::es) X.env=(false,eval e X.env)::starEach es X.env:=by rfl) (hpl:(backTo pos (starEach es X.env)).any (·.1)=false:=by rfl) :
  QE X (.Call (.Name x p) (e::es) [] pos) (cCB f cr):=(DO F hr hg ha.h hdb he hpl).imp fun σ H Q hz=>ie hz fun m ρ S u S' sr lr hc post=>by
 obtain⟨⟨us,S1⟩,h1,h2⟩:=Q3.mp hc
 exact⟨m,ρ,S,us,S1,sr,lr,h1,fun m1 v1 H1 e1 sr1 i1=>⟨m1,us,S1,u,S',by simpa using i1,sr1,h2,post.mono e1⟩⟩
end
section
variable{X:Cx}{e a b c:Expr}{ca cb cc:CE}{pos:Pos}{st:Stmt}{sts:List Stmt}{c1 c2:CS}
def et:CS:=fun ρ S=>some (.nx,ρ,S)
def bq(c1 c2:CS):CS:=fun ρ S=>(c1 ρ S).bind fun r=>match r.1 with
 |.nx=>c2 r.2.1 r.2.2
 |o=>some (o,r.2.1,r.2.2)
theorem dX:QSs X [] et:=xj.imp fun D σ H hz=>sE hz fun m ρ S o ρ' S' sr lr hc post=>by cases hc;exact post m σ H .refl sr lr
theorem aw(h1:QS X st c1)(h2:QSs X sts c2):QSs X (st::sts) (bq c1 c2):=(tw h1 h2).imp fun D σ H hz=>sE hz fun m ρ S o ρ' S' sr lr hc post=>by
 obtain⟨⟨o1,ρ1,S1⟩,h1,h2⟩:=Q3.mp hc
 refine⟨m,ρ,S,o1,ρ1,S1,sr,lr,h1,?_⟩
 cases o1 with
 |nx=>exact fun m1 σ1 H1 e1 sr1 lr1=>⟨m1,ρ1,S1,o,ρ',S',sr1,lr1,h2,post.mono e1⟩
 |rt u=>cases h2;exact post
 |bk=>cases h2;exact post
 |ct=>cases h2;exact post
theorem aN(h1:QS X st c1):QSs X [st] c1:=xi h1
def eQ(ca:CE):CS:=fun ρ S=>(ca ρ S).bind fun p=>some (.nx,ρ,p.2)
theorem c8(he:QE X e ca)(hs:swapsWith e none pos.line X.env=pure false:=by rfl):QS X (.Expr e pos) (eQ ca):=(xk he hs).imp fun D σ H hz=>sE hz fun m ρ S o ρ' S' sr lr hc post=>by
 obtain⟨⟨u,S1⟩,h1,h2⟩:=Q3.mp hc
 cases h2
 exact⟨m,ρ,S,u,_,sr,lr,h1,fun m1 v1 H1 e1 sr1 i1=>post m1 σ H1 e1 sr1 (lr.mono e1)⟩
def ik(ca:CE):CS:=fun ρ S=>(ca ρ S).bind fun p=>some (.rt p.1,ρ,p.2)
theorem bI(he:QE X e ca):QS X (.Return (some e) pos) (ik ca):=(AM he).imp fun D σ H hz=>sE hz fun m ρ S o ρ' S' sr lr hc post=>by
 obtain⟨⟨u,S1⟩,h1,h2⟩:=Q3.mp hc
 cases h2
 exact⟨m,ρ,S,u,_,sr,lr,h1,post⟩
def kG(t:CT)(c1 c2:CS):CS:=fun ρ S=>(t ρ S).bind fun p=>if p.1=true then c1 ρ p.2 else c2 ρ p.2
theorem gK{t:CT}{s1 s2:List Stmt}(hc:QT X c t)(h1:QSs X s1 c1)(h2:QSs X s2 c2):QS X (.If c s1 s2 pos) (kG t c1 c2):=(DK hc h1 h2).imp fun D σ H hz=>sE hz fun m ρ S o ρ' S' sr lr hc post=>by
 obtain⟨⟨x,S1⟩,h1,h2⟩:=Q3.mp hc
 refine⟨m,ρ,S,x,S1,sr,lr,h1,fun m1 H1 e1 sr1=>?_⟩
 cases x with
 |true=>exact Fe ⟨m1,ρ,S1,o,ρ',S',sr1,lr.mono e1,h2,post.mono e1⟩
 |false=>exact Ff ⟨m1,ρ,S1,o,ρ',S',sr1,lr.mono e1,h2,post.mono e1⟩
abbrev CG:=U->Rho->Sto->Option (Rho×Sto)
def tG(K:Q5)(g:CG):TG:=fun v σ H Q=>∃m ρ S u ρ' S',Sr K m S H/\Lr K m H ρ σ/\Is K m H v u/\g u ρ S=some (ρ',S')/\fP K m H Q ρ' S'
abbrev QG(X:Cx)(e:Expr)(g:CG):Prop:=WG X e (tG X.K g)
def gNm(i:Nat):CG:=fun u ρ S=>some (ρ.set i (some u),S)
theorem aT{i:Nat}(h:WG X e (sA i)):QG X e (gNm i):=h.imp fun v σ H Q hz=>IF hz fun m ρ S u ρ' S' sr lr iu hc post=>by
 cases hc
 exact post m _ H .refl sr (lr.set i iu)
def eU:List Nat->List U->Rho->Option Rho
 |[],[],ρ=>some ρ
 |i::is,u::us,ρ=>eU is us (ρ.set i (some u))
 |_,_,_=>none
def tGs(K:Q5)(is:List Nat):TGs:=fun vs σ H Q=>∃m ρ S us ρ',Sr K m S H/\Lr K m H ρ σ/\IsL K m H vs us/\eU is us ρ=some ρ'/\fP K m H Q ρ' S
abbrev QGs(X:Cx)(es:List Expr)(is:List Nat):Prop:=WGs X es (tGs X.K is)
theorem jE:QGs X [] []:=xo.imp fun v σ H Q ⟨m,ρ,S,us,ρ',sr,lr,iu,hc,post⟩=>by
 cases us with
 |nil=>cases hc;exact⟨iu.of_nil,post m σ H .refl sr lr⟩
 |cons a r=>simp[eU]at hc
theorem bO{i:Nat}{is:List Nat}{es:List Expr}(h:WG X e (sA i))(h2:QGs X es is)(hs:(assignEach (e::es) X.env).map (·.2)=assign e X.env::(assignEach es X.env).map (·.2):=by rfl):QGs X (e::es) (i::is):=(tF h h2 hs).imp fun v σ H Q ⟨m,ρ,S,us,ρ',sr,lr,iu,hc,post⟩=>by
 cases us with
 |nil=>simp[eU]at hc
 |cons u r=>
  obtain⟨x,xr,rfl,i1,i2⟩:=iu.of_cons
  exact⟨x,xr,rfl,m,ρ.set i (some u),S,r,ρ',sr,lr.set i i1,i2,hc,post⟩
def gTp(is:List Nat):CG:=fun u ρ S=>match u with
 |.tup us=>(eU is us ρ).bind fun ρ'=>some (ρ',S)
 |_=>none
theorem kN:∀{is:List Nat} {us:List U} {ρ ρ':Rho},eU is us ρ=some ρ'->us.length=is.length
 |[],[],_,_,_=>rfl
 |[],_::_,_,_,h=>by simp[eU]at h
 |_::_,[],_,_,h=>by simp[eU]at h
 |i::is,u::us,ρ,ρ',h=>by
  have:=kN (is:=is) (us:=us) h
  simp[this]
theorem nj{is:List Nat}{es:List Expr}{k:Nat}(hc:X.calm=true)(h:QGs X es is)(hn:(assignEach es X.env).length=is.length:=by rfl)(hst:(assignEach es X.env).findIdx? (·.1)=none:=by rfl):QG X (.Tuple es k pos) (gTp is):=(AQ hc h hn hst).imp fun v σ H Q hz=>IF hz fun m ρ S u ρ' S' sr lr iu hc post=>by
 cases u with
 |tup us=>
  obtain⟨ρ2,h1,h2⟩:=Q3.mp hc
  cases h2
  obtain⟨a,xs,rfl,sq,il⟩:=iu.of_tup
  refine⟨a,xs,rfl,sq,?_,m,ρ,S,us,ρ',sr,lr,il,h1,post⟩
  rw[il.length];exact kN h1
 |_=>simp[gTp]at hc
def C3(ca:CE)(g:CG):CS:=fun ρ S=>(ca ρ S).bind fun p=>(g p.1 ρ p.2).bind fun q=>some (.nx,q.1,q.2)
theorem CQ{K:Q5}{g:CG}:∀D σ H,tS K (C3 ca g) D σ H->D0 (tE K ca) (tG K g) D σ H:=by
 rintro D σ H ⟨m,ρ,S,o,ρ',S',sr,lr,hc,post⟩
 obtain⟨⟨u,S1⟩,h1,h2⟩:=Q3.mp hc
 obtain⟨⟨ρ2,S2⟩,h3,h4⟩:=Q3.mp h2
 cases h4
 exact⟨m,ρ,S,u,S1,sr,lr,h1,fun m1 v1 H1 e1 sr1 i1=>⟨m1,ρ,S1,u,_,_,sr1,lr.mono e1,i1,h3,fP.mono e1 post⟩⟩
theorem zu{tg:Expr}{g:CG}(he:QE X e ca)(hg:QG X tg g)(hs:swapsWithSole [tg] e pos.line X.env=pure false:=by rfl)(hw:swappedStores [tg] e X.env=pure none:=by rfl)
  (h1:(assignEach [tg] X.env).map (·.2)=[assign tg X.env]:=by rfl):QS X (.Assign [tg] e pos) (C3 ca g):=(tD he hg hs hw h1).imp CQ
def bM(i:Nat)(ca:CE):CS:=fun ρ S=>(ca ρ S).bind fun p=>some (.nx,ρ.set i (some p.1),p.2)
theorem aM{i:Nat}{x:Str}{pos':Pos}(hN:X.N.Nodup)(hi:X.N[i]?=some x)(hx:Loc X.env.scope x)(he:QE X e ca)(hs:swapsWith e (some (.Name x pos')) pos.line X.env=pure false:=by rfl)(hf:X.fn x=true\/X.env.scope.names.lookup x=some .local:=by first|exact .inl rfl|exact .inr rfl|assumption) :
  QS X (.Assign [.Name x pos'] e pos) (bM i ca):=(AL hN hi hx he hs hf).imp fun D σ H hz=>sE hz fun m ρ S o ρ' S' sr lr hc post=>by
 obtain⟨⟨u,S1⟩,h1,h2⟩:=Q3.mp hc
 cases h2
 exact⟨m,ρ,S,u,_,sr,lr,h1,fun m1 v1 H1 e1 sr1 i1=>post m1 _ H1 e1 sr1 ((lr.mono e1).set i i1)⟩
abbrev CI:=Rho->Sto->Option (List U×(Sto->Prop)×Sto)
def zc(K:Q5)(J:It)(m:List Addr)(H:Hp)(us:List U)(ok:Sto->Prop):Prop:=∀m2 S2 H2 i,Ext K m H m2 H2->Sr K m2 S2 H2->ok S2->
 (∀u,us[i]?=some u->J.go i H2/\∀x H3,J.yld i H2 x H3->Ext K m2 H2 m2 H3/\Sr K m2 S2 H3/\Is K m2 H3 x u)/\(us.length<=i->J.stop i H2)
def tI(K:Q5)(ci:CI):TI:=fun σ H R=>∃m ρ S us ok S',Sr K m S H/\Lr K m H ρ σ/\ci ρ S=some (us,ok,S')/\∀m' H' J,Ext K m H m' H'->Sr K m' S' H'->zc K J m' H' us ok->R J H'
abbrev QI(X:Cx)(tg iter:Expr)(ci:CI):Prop:=WI X tg iter (tI X.K ci)
open Classical in
def cU(ok:Sto->Prop)(g:CG)(cb:CS):List U->CS
 |[]=>fun ρ S=>if ok S then some (.nx,ρ,S)else none
 |u::us=>fun ρ S=>if ok S then(g u ρ S).bind fun p=>(cb p.1 p.2).bind fun r=>match r.1 with
  |.nx=>cU ok g cb us r.2.1 r.2.2
  |.ct=>cU ok g cb us r.2.1 r.2.2
  |.bk=>some (.nx,r.2.1,r.2.2)
  |.rt v=>some (.rt v,r.2.1,r.2.2)else none
def iQ(ci:CI)(g:CG)(cb:CS):CS:=fun ρ S=>(ci ρ S).bind fun p=>cU p.2.1 g cb p.1 ρ p.2.2
theorem j9{α:Type}{us:List α}{i:Nat}{u:α}(h:us[i]?=some u):us.drop i=u::us.drop (i+1):=by
 obtain⟨hl,e⟩:=Q6.mp h
 rw[List.drop_eq_getElem_cons hl,e]
theorem yt{K:Q5}{g:CG}{cb:CS}{J:It}{us:List U}{ok:Sto->Prop}{D:Ae}{m1:List Addr}{H1:Hp}{ρ ρ':Rho}{σ:L2.St}{S1 S':Sto}{o:Out}(sr1:Sr K m1 S1 H1)(lr1:Lr K m1 H1 ρ σ)(ito:zc K J m1 H1 us ok)(h2:cU ok g cb us ρ S1=some (o,ρ',S'))(post:sL K m1 H1 D o ρ' S') :
  ∃W:Nat->Nat->L2.St->Hp->Prop,(∃n,W 0 n σ H1)/\∀i n σ H,W i n σ H->
   (J.stop i H/\D.nx σ H)\/(J.go i H/\∃N:L2.St->Hp->Prop,(∀σ' H',N σ' H'->∃n',n'<n/\W (i+1) n' σ' H')/\∀x H',J.yld i H x H'->tG K g x σ H' fun σ2 H2=>tS K cb { D with nx:=N,ct:=N,bk:=D.nx } σ2 H2):=by
 let W:Nat->Nat->L2.St->Hp->Prop:=fun i n σ2 H2=>n=us.length-i/\i<=us.length/\∃m2 ρ2 S2,Ext K m1 H1 m2 H2/\Sr K m2 S2 H2/\Lr K m2 H2 ρ2 σ2/\cU ok g cb (us.drop i) ρ2 S2=some (o,ρ',S')
 refine⟨W,⟨us.length,by simp,Qs _,m1,ρ,S1,.refl,sr1,lr1,by simpa using h2⟩,?_⟩
 rintro i n σ2 H2 ⟨rfl,hi,m2,ρ2,S2,e2,sr2,lr2,hl⟩
 by_cases hlt:i<us.length
 ·have hu:=Q7 hlt
  rw[j9 hu]at hl
  unfold cU at hl
  split at hl
  ·rename_i hok
   obtain⟨⟨ρ3,S3⟩,h3,hl⟩:=Q3.mp hl
   obtain⟨⟨o4,ρ4,S4⟩,h4,hl⟩:=Q3.mp hl
   obtain⟨hgo,hy⟩:=(ito m2 S2 H2 i e2 sr2 hok).1 _ hu
   refine .inr ⟨hgo,W (i+1) (us.length-(i+1)),fun σ' H' w'=>⟨_,by omega,w'⟩,fun x H3 y=>?_⟩
   obtain⟨e3,sr3,ix⟩:=hy x H3 y
   refine⟨m2,ρ2,S2,_,ρ3,S3,sr3,lr2.mono e3,ix,h3,fun m4 σ4 H4 e4 sr4 lr4=>⟨m4,ρ3,S3,o4,ρ4,S4,sr4,lr4,h4,?_⟩⟩
   have e14:=(e2.trans e3).trans e4
   have nxt:cU ok g cb (us.drop (i+1)) ρ4 S4=some (o,ρ',S')->fP K m4 H4 (W (i+1) (us.length-(i+1))) ρ4 S4:=fun hn m5 σ5 H5 e5 sr5 lr5=>⟨rfl,hlt,m5,ρ4,S4,e14.trans e5,sr5,lr5,hn⟩
   cases o4 with
   |nx=>exact nxt hl
   |ct=>exact nxt hl
   |bk=>cases hl;exact fP.mono e14 post
   |rt v=>cases hl;exact hJ.mono e14 post
  ·cases hl
 ·have e:i=us.length:=by omega
  subst e
  rw[List.drop_length]at hl
  unfold cU at hl
  split at hl
  ·rename_i hok
   cases hl
   exact .inl ⟨(ito m2 _ H2 _ e2 sr2 hok).2 (QJ _),post m2 σ2 H2 e2 sr2 lr2⟩
  ·cases hl
theorem Cy{K:Q5}{ci:CI}{g:CG}{cb:CS}:∀D σ H,tS K (iQ ci g cb) D σ H->GL (tI K ci) (tG K g) (tS K cb) D σ H:=by
 rintro D σ H ⟨m,ρ,S,o,ρ',S',sr,lr,hc,post⟩
 obtain⟨⟨us,ok,S1⟩,h1,h2⟩:=Q3.mp hc
 exact⟨m,ρ,S,us,ok,S1,sr,lr,h1,fun m1 H1 J e1 sr1 ito=>yt sr1 (lr.mono e1) ito h2 (sL.mono e1 post)⟩
theorem eY{tg iter:Expr}{body:List Stmt}{ci:CI}{g:CG}{cb:CS}(hp:PassesOwn (model X.prog X.w) X.A X.env X.xe)(hc:X.calm=true)(hi:QI X tg iter ci)(hg:QG X tg g)(hb:QSs X body cb)(hs:∀x,foldedSetIterable iter X.env x=pure x:=by intro _;rfl):QS X (.For tg iter body [] pos) (iQ ci g cb):=(AN hp hc hi hg hb hs).imp Cy
def dn(t:CT)(cb:CS):Nat->CS
 |0=>fun _ _=>none
 |n+1=>fun ρ S=>(t ρ S).bind fun p=>if p.1=true then(cb ρ p.2).bind fun r=>match r.1 with
  |.nx=>dn t cb n r.2.1 r.2.2
  |.ct=>dn t cb n r.2.1 r.2.2
  |.bk=>some (.nx,r.2.1,r.2.2)
  |.rt v=>some (.rt v,r.2.1,r.2.2)else some (.nx,ρ,p.2)
theorem tM{K:Q5}{t:CT}{cb:CS}{n:Nat}:∀D σ H,tS K (dn t cb n) D σ H->tW (tT K t) (tS K cb) D σ H:=by
 rintro D σ H ⟨m,ρ,S,o,ρ',S',sr,lr,hc,post⟩
 let W:Nat->L2.St->Hp->Prop:=fun n σ2 H2=>∃m2 ρ2 S2,Ext K m H m2 H2/\Sr K m2 S2 H2/\Lr K m2 H2 ρ2 σ2/\dn t cb n ρ2 S2=some (o,ρ',S')
 refine⟨W,⟨n,m,ρ,S,.refl,sr,lr,hc⟩,?_⟩
 rintro k σ2 H2 ⟨m2,ρ2,S2,e2,sr2,lr2,hl⟩
 cases k with
 |zero=>cases hl
 |succ k=>
  unfold dn at hl
  obtain⟨⟨x,S3⟩,h3,hl⟩:=Q3.mp hl
  refine⟨m2,ρ2,S2,x,S3,sr2,lr2,h3,fun m3 H3 e3 sr3=>?_⟩
  have e13:=e2.trans e3
  cases x with
  |true=>
   rw[if_pos rfl]at hl
   refine Fe ?_
   obtain⟨⟨o4,ρ4,S4⟩,h4,hl⟩:=Q3.mp hl
   refine⟨W k,fun σ' H' w'=>⟨k,Nat.lt_succ_self _,w'⟩,m3,ρ2,S3,o4,ρ4,S4,sr3,lr2.mono e3,h4,?_⟩
   have nxt:dn t cb k ρ4 S4=some (o,ρ',S')->fP K m3 H3 (W k) ρ4 S4:=fun hn m5 σ5 H5 e5 sr5 lr5=>⟨m5,ρ4,S4,e13.trans e5,sr5,lr5,hn⟩
   cases o4 with
   |nx=>exact nxt hl
   |ct=>exact nxt hl
   |bk=>cases hl;exact fP.mono e13 post
   |rt v=>cases hl;exact hJ.mono e13 post
  |false=>
   rw[if_neg QF]at hl
   refine Ff ?_
   cases hl
   exact post m3 σ2 H3 e13 sr3 (lr2.mono e3)
theorem qt{body:List Stmt}{t:CT}{cb:CS}(n:Nat)(hp:PassesOwn (model X.prog X.w) X.A X.env X.xe)(hc:QT X c t)(hb:QSs X body cb):QS X (.While c body [] pos) (dn t cb n):=(tx hp hc hb).imp tM
def iTp(ca:CE):CI:=fun ρ S=>(ca ρ S).bind fun p=>match p.1 with
 |.tup us=>some (us,fun _=>True,p.2)
 |.ref l=>match p.2[l]? with
  |some (.lst us)=>some (us,fun S=>S[l]?=some (.lst us),p.2)
  |_=>none
 |_=>none
theorem Fg{K:Q5}{m:List Addr}{H:Hp}{us:List U}{a:Addr}{xs:List V}(sq:SqT K H a xs)(il:IsL K m H xs us):zc K (Itt K a) m H us (fun _=>True):=by
 intro m2 S2 H2 i e2 sr2 _
 have sq2:=e2.keep.t _ _ sq
 have il2:=il.mono e2
 refine⟨fun u hu=>?_,fun hi=>⟨xs,sq2,by rw[il2.length];exact hi⟩⟩
 obtain⟨x,hx,ix⟩:=il2.getD hu
 refine⟨⟨xs,x,sq2,hx⟩,fun y H3 hy=>?_⟩
 obtain⟨rfl,hy⟩:=hy
 have:=hy xs sq2
 rw[hx]at this;cases this
 exact⟨.refl,sr2,ix⟩
theorem Fh{K:Q5}{m:List Addr}{H:Hp}{us:List U}{a:Addr}{l:Nat}(hl:m[l]?=some a):zc K (Itl K a) m H us (fun S=>S[l]?=some (.lst us)):=by
 intro m2 S2 H2 i e2 sr2 hok
 obtain⟨a',ha',xs,hx,il⟩:=sr2.get hok
 rw[e2.get hl]at ha'
 cases ha'
 refine⟨fun u hu=>?_,fun hi=>⟨xs,SqL.of hx,by rw[il.length];exact hi⟩⟩
 obtain⟨x,hx',ix⟩:=il.getD hu
 refine⟨⟨xs,x,SqL.of hx,hx'⟩,fun y H3 hy=>?_⟩
 obtain⟨rfl,hy⟩:=hy
 have:=hy xs (SqL.of hx)
 rw[hx']at this;cases this
 exact⟨.refl,sr2,ix⟩
theorem cT{tg:Expr}(h:QE X e ca):QI X tg e (iTp ca):=((AO h).or (xn h)).imp fun σ H R hz=>sE hz fun m ρ S us ok S' sr lr hc post=>by
 obtain⟨⟨u,S1⟩,h1,h2⟩:=Q3.mp hc
 cases u with
 |tup ws=>
  cases h2
  refine .inl ⟨m,ρ,S,.tup us,_,sr,lr,h1,fun m1 v1 H1 e1 sr1 i1=>?_⟩
  obtain⟨a,xs,rfl,sq,il⟩:=i1.of_tup
  exact⟨a,rfl,⟨xs,sq⟩,post m1 H1 _ e1 sr1 (Fg sq il)⟩
 |ref l=>
  simp only at h2
  split at h2
  ·rename_i us' hS
   cases h2
   refine .inr ⟨m,ρ,S,.ref l,_,sr,lr,h1,fun m1 v1 H1 e1 sr1 i1=>?_⟩
   obtain⟨a,hl,rfl⟩:=i1.of_ref
   obtain⟨a',ha',xs,hx,il⟩:=sr1.get hS
   rw[hl]at ha';cases ha'
   exact⟨a,rfl,⟨xs,SqL.of hx⟩,post m1 H1 _ e1 sr1 (Fh hl)⟩
  ·cases h2
 |_=>simp at h2
def aX(lo:Int)(n:Nat):List U:=(Qj n).map fun i=>.int (lo+(i:Nat))
theorem yC{K:Q5}{m:List Addr}{H:Hp}{lo:Int}{n:Nat}:zc K (Itr lo n) m H (aX lo n) (fun _=>True):=by
 intro m2 S2 H2 i e2 sr2 _
 refine⟨fun u hu=>?_,fun hi=>by show n<=i;simpa [aX] using hi⟩
 unfold aX at hu
 rw[Qv]at hu
 by_cases c:i<n
 ·rw[List.getElem?_range c]at hu
  simp at hu
  subst hu
  refine⟨c,fun y H3 hy=>?_⟩
  obtain⟨rfl,rfl⟩:=hy
  exact⟨.refl,sr2,.int_⟩
 ·rw[Z9 (by simpa using c)]at hu
  cases hu
def aK(cr:CA):CI:=fun ρ S=>(cr ρ S).bind fun p=>match p.1 with
 |[.int j]=>if -(2^62)<=j/\j<2^62 then some (aX 0 j.toNat,fun _=>True,p.2)else none
 |_=>none
theorem bJ{tg:Expr}{cr:CA}{p:Pos}(hg:Gl X "range")(hm:X.mg "range"=none)(ha:QA X [a] cr)(hs:starEach [a] X.env=[(false,eval a X.env)]:=by rfl):QI X tg (.Call (.Name "range" p) [a] [] pos) (aK cr):=(rM hg hm ha.h hs).imp fun σ H R hz=>sE hz fun m ρ S us ok S' sr lr hc post=>by
 obtain⟨⟨ws,S1⟩,h1,h2⟩:=Q3.mp hc
 simp only at h2
 split at h2
 ·rename_i j
  split at h2
  ·rename_i hj
   cases h2
   refine⟨m,ρ,S,_,S',sr,lr,h1,fun m1 v1 H1 e1 sr1 i1=>?_⟩
   obtain⟨x,r,rfl,ix,ir⟩:=i1.of_cons
   rw[ir.of_nil,ix.of_int]
   exact⟨j,rfl,hj.1,hj.2,post m1 H1 _ e1 sr1 yC⟩
  ·cases h2
 ·cases h2
end
def fI(g:Int->Int->Option U):U->U->Sto->Option (U×Sto)
 |.int i,.int j,S=>(g i j).bind fun u=>some (u,S)
 |_,_,_=>none
section
variable{X:Cx}{K:Q5}
theorem F1{C:Int->Int->Prop}{gV:Int->Int->V}{g:Int->Int->Option U}(h:∀i j u,g i j=some u->C i j/\∀m H,Is K m H (gV i j) u):OpP K (rI C gV) (fI g):=by
 intro m S H x y v w u S' Q sr ix iy hf post
 cases x<;>cases y<;>simp only[fI]at hf<;>try cases hf
 rename_i i j
 obtain⟨u1,h1,h2⟩:=Q3.mp hf
 cases h2
 obtain⟨hc,hi⟩:=h i j u h1
 exact⟨i,j,ix.of_int,iy.of_int,hc,post m _ H .refl sr (hi m H)⟩
theorem yc{gV:Int->Int->V}{g:Int->Int->Option U}(h:∀i j u,g i j=some u->∀m H,Is K m H (gV i j) u):OpP K (rI0 gV) (fI g):=by
 intro m S H x y v w u S' Q sr ix iy hf post
 cases x<;>cases y<;>simp only[fI]at hf<;>try cases hf
 rename_i i j
 obtain⟨u1,h1,h2⟩:=Q3.mp hf
 cases h2
 exact⟨i,j,ix.of_int,iy.of_int,post m _ H .refl sr (h i j u h1 m H)⟩
def xK(K:Q5):R2:=fun x y H Q=>∃a b xs ys,x=.ref a/\y=.ref b/\SqT K H a xs/\SqT K H b ys/\xs.length+ys.length<=sizeLine/\∀q H',rF H H'->SqT K H' q (xs++ys)->Q (.ref q) H'
theorem BY:OpR X (binaryOp .Add) (xK X.K):=by
 intro pins s σ H x y v u Q I rx ry h
 obtain⟨a,b,xs,ys,rfl,rfl,ha,hb,hz,q⟩:=h
 by_cases e:xs=[]
 ·cases rx
  cases ry
  obtain⟨its,r1,p1,_⟩:=I.tuple ha
  obtain⟨its2,r2,p2,_⟩:=I.tuple hb
  refine y0 p1 p2 (r1.nil_iff.mpr e) ⟨.ref b,H,I,rfl,q b H (.refl _) (by rw[e];exact hb)⟩
 ·refine BX pins s σ H _ _ v u Q I rx ry ⟨a,b,xs,ys,rfl,rfl,ha,hb,e,hz,fun z=>q a H (.refl _) (by rw[z,QL];exact ha),fun _ p hp=>q p _ (eJ hp _) (SqT.of aJ)⟩
def vP:U->U->Sto->Option (U×Sto)
 |.tup a,.tup b,S=>if a.length+b.length<=LIM then some (.tup (a++b),S)else none
 |_,_,_=>none
theorem x6:OpP K (xK K) vP:=by
 intro m S H x y v w u S' Q sr ix iy hf post
 cases x<;>cases y<;>simp only[vP]at hf<;>try cases hf
 split at hf<;>try cases hf
 rename_i hl
 obtain⟨a,xs,rfl,sa,la⟩:=ix.of_tup
 obtain⟨b,ys,rfl,sb,lb⟩:=iy.of_tup
 refine⟨a,b,xs,ys,rfl,rfl,sa,sb,lim (by rw[la.length,lb.length];exact hl),fun q H' s sq=>?_⟩
 exact post m _ H' (.of (cE s)) (sr.same s) (.tup_ sq ((la.append lb).mono (.of (cE s))))
def dh:U->U->Sto->Option (U×Sto)
 |.ref l,.ref k,S=>match S[l]?,S[k]? with
  |some (.lst a),some (.lst b)=>if a.length+b.length<=LIM then some (.ref S.length,S++[.lst (a++b)])else none
  |_,_=>none
 |_,_,_=>none
theorem yd:OpP K F0 dh:=by
 intro m S H x y v w u S' Q sr ix iy hf post
 cases x<;>cases y<;>simp only[dh]at hf<;>try cases hf
 rename_i l k
 split at hf<;>try cases hf
 rename_i a b h1 h2
 split at hf<;>try cases hf
 rename_i hl
 obtain⟨p,hp,rfl⟩:=ix.of_ref
 obtain⟨q,hq,rfl⟩:=iy.of_ref
 obtain⟨p',hp',xs,hx,il⟩:=sr.get h1
 obtain⟨q',hq',ys,hy,il'⟩:=sr.get h2
 rw[hp]at hp';cases hp'
 rw[hq]at hq';cases hq'
 exact⟨p,q,xs,ys,rfl,rfl,hx,hy,lim (by rw[il.length,il'.length];exact hl),fun r hr=>bP sr (il.append il') post hr⟩
def vQ:U->U->Sto->Option (U×Sto)
 |.str a,.str b,S=>if a.length+b.length<=LIM then some (.str (a++b),S)else none
 |_,_,_=>none
theorem x8:OpP K (fun x y H Q=>∃i j,x=.str i/\y=.str j/\i.length+j.length<=sizeLine/\Q (.str (i++j)) H) vQ:=by
 intro m S H x y v w u S' Q sr ix iy hf post
 cases x<;>cases y<;>simp only[vQ]at hf<;>try cases hf
 split at hf<;>try cases hf
 rename_i hl
 exact⟨_,_,ix.of_str,iy.of_str,lim hl,post m _ H .refl sr .str_⟩
def bE:U->U->Sto->Option (U×Sto)
 |.int i,.int j,S=>some (.int (i+j),S)
 |.tup a,.tup b,S=>if a.length+b.length<=LIM then some (.tup (a++b),S)else none
 |.str a,.str b,S=>if a.length+b.length<=LIM then some (.str (a++b),S)else none
 |.ref l,.ref k,S=>dh (.ref l) (.ref k) S
 |_,_,_=>none
theorem cu:OpR X (binaryOp .Add) (fun x y H Q=>rI0 (fun i j=>.int (i+j)) x y H Q\/(F0 x y H Q\/(xK X.K x y H Q\/∃i j,x=.str i/\y=.str j/\i.length+j.length<=sizeLine/\Q (.str (i++j)) H))):=EO.or (EN.or (BY.or sj))
theorem cq:OpP K (fun x y H Q=>rI0 (fun i j=>.int (i+j)) x y H Q\/(F0 x y H Q\/(xK K x y H Q\/∃i j,x=.str i/\y=.str j/\i.length+j.length<=sizeLine/\Q (.str (i++j)) H))) bE:=by
 intro m S H x y v w u S' Q sr ix iy hf post
 cases x<;>cases y<;>simp only[bE]at hf<;>try cases hf
 ·exact .inl ⟨_,_,ix.of_int,iy.of_int,post m _ H .refl sr .int_⟩
 ·exact .inr (.inr (.inr (x8 m S H _ _ v w u S' Q sr ix iy hf post)))
 ·exact .inr (.inr (.inl (x6 m S H _ _ v w u S' Q sr ix iy hf post)))
 ·exact .inr (.inl (yd m S H _ _ v w u S' Q sr ix iy hf post))
def sD:=fI fun i j=>some (.int (i-j))
theorem BS:OpP K (rI0 fun i j=>.int (i-j)) sD:=yc fun i j u h m H=>by cases h;exact .int_
instance {i j:Int}:Decidable (Ag i j):=by unfold Ag;exact inferInstance
def jg:=fI fun i j=>if Ag i j then some (.int (i*j))else none
theorem mm:OpP K (rI Ag fun i j=>.int (i*j)) jg:=F1 fun i j u h=>by
 split at h
 ·rename_i c;cases h;exact⟨c,fun m H=>.int_⟩
 ·cases h
instance {i j:Int}:Decidable (sM i j):=by unfold sM;exact inferInstance
def zS:=fI fun i j=>if sM i j then some (.int (i / j))else none
theorem EI:OpP K (rI sM fun i j=>.int (i / j)) zS:=F1 fun i j u h=>by
 split at h
 ·rename_i c;cases h;exact⟨c,fun m H=>.int_⟩
 ·cases h
def mM:=fI fun i j=>if 0<j then some (.int (i % j))else none
theorem uS:OpP K (rI (fun _ j=>0<j) fun i j=>.int (i % j)) mM:=F1 fun i j u h=>by
 split at h
 ·rename_i c;cases h;exact⟨c,fun m H=>.int_⟩
 ·cases h
instance {i j:Int}:Decidable (C7 i j):=by unfold C7;exact inferInstance
def zR:=fI fun i j=>if C7 i j then some (.int (i^j.toNat))else none
theorem Hh:OpP K (rI C7 fun i j=>.int (i^j.toNat)) zR:=F1 fun i j u h=>by
 split at h
 ·rename_i c;cases h;exact⟨c,fun m H=>.int_⟩
 ·cases h
def fLt:=fI fun i j=>some (.bl (decide (i<j)))
def fGt:=fI fun i j=>some (.bl (decide (j<i)))
def fGe:=fI fun i j=>some (.bl (decide (j<=i)))
theorem zx:OpP K (rI0 fun i j=>.bl (decide (i<j))) fLt:=yc fun i j u h m H=>by cases h;exact .bl_
theorem I0:OpP K (rI0 fun i j=>.bl (decide (j<i))) fGt:=yc fun i j u h m H=>by cases h;exact .bl_
theorem Ik:OpP K (rI0 fun i j=>.bl (decide (j<=i))) fGe:=yc fun i j u h m H=>by cases h;exact .bl_
def eqS:U->U->Option Bool
 |.int i,.int j=>some (decide (i=j))
 |.bl i,.bl j=>some (decide (i=j))
 |.str i,.str j=>some (decide (i=j))
 |.non,.non=>some true
 |.non,.int _=>some false|.int _,.non=>some false
 |.non,.bl _=>some false|.bl _,.non=>some false
 |.non,.str _=>some false|.str _,.non=>some false
 |.int _,.str _=>some false|.str _,.int _=>some false
 |.bl _,.str _=>some false|.str _,.bl _=>some false
 |_,_=>none
def fEq:U->U->Sto->Option (U×Sto):=fun x y S=>(eqS x y).bind fun b=>some (.bl b,S)
def fNe:U->U->Sto->Option (U×Sto):=fun x y S=>(eqS x y).bind fun b=>some (.bl (!b),S)
theorem zU{m:List Addr}{H:Hp}{x y:U}{v w:V}{b:Bool}(ix:Is K m H v x)(iy:Is K m H w y)(h:eqS x y=some b):GP v w=true/\decide (v=w)=b:=by
 cases x<;>cases y<;>simp only[eqS]at h<;>(first|cases h|skip)
 all_goals
  (first|(have e1:=ix.of_int)|(have e1:=ix.of_bl)|(have e1:=ix.of_str)|(have e1:=ix.of_non))
  (first|(have e2:=iy.of_int)|(have e2:=iy.of_bl)|(have e2:=iy.of_str)|(have e2:=iy.of_non))
  subst e1 e2
  exact⟨rfl,by simp⟩
theorem C0:OpP K rEq fEq:=by
 intro m S H x y v w u S' Q sr ix iy hf post
 obtain⟨b,h1,h2⟩:=Q3.mp hf
 cases h2
 obtain⟨e1,e2⟩:=zU ix iy h1
 exact⟨e1,by rw[e2];exact post m _ H .refl sr .bl_⟩
theorem CZ:OpP K rNe fNe:=by
 intro m S H x y v w u S' Q sr ix iy hf post
 obtain⟨b,h1,h2⟩:=Q3.mp hf
 cases h2
 obtain⟨e1,e2⟩:=zU ix iy h1
 exact⟨e1,by rw[e2];exact post m _ H .refl sr .bl_⟩
def HB:U->Bool
 |.non=>true
 |_=>false
def Jl:U->U->Sto->Option (U×Sto)
 |x,.non,S=>some (.bl (HB x),S)
 |_,_,_=>none
section
variable{κ:Type}[DecidableEq κ]
def i7{α:Type}(kvs:List (κ×α))(k:κ):Option α:=(kvs.find? fun kv=>decide (kv.1=k)).map (·.2)
def jG{α:Type}(kvs:List (κ×α))(k:κ)(v:α):List (κ×α):=
 if (kvs.any fun kv=>decide (kv.1=k))=true then kvs.map (fun kv=>if kv.1=k then(kv.1,v)else kv)else kvs++[(k,v)]
variable{m:List Addr}{H:Hp}{kvs:List (κ×V)}{kus:List (κ×U)}{k:κ}{v:V}{u:U}
theorem IsP.val(h:IsP K m H kvs kus):Rf K m H (ku kvs k) (i7 kus k):=by
 refine IsP.ind (P:=fun kvs kus=>Rf K m H (ku kvs k) (i7 kus k)) trivial (fun k' v u kvs kus i _ ih=>?_) h
 by_cases e:k'=k
 ·subst e
  simp[ku,i7,ZK,Rf,i]
 ·simp only[ku,i7,ZK,decide_eq_false e]at ih ⊢
  exact ih
theorem IsP.any_(h:IsP K m H kvs kus):(kvs.any fun kv=>decide (kv.1=k))=(kus.any fun kv=>decide (kv.1=k)):=
 IsP.ind (P:=fun kvs kus=>(kvs.any fun kv=>decide (kv.1=k))=(kus.any fun kv=>decide (kv.1=k))) rfl (fun k' v u kvs kus i _ ih=>by simp only[Zw,ih]) h
theorem IsP.append{kvs':List (κ×V)}{kus':List (κ×U)}(h:IsP K m H kvs kus)(h':IsP K m H kvs' kus'):IsP K m H (kvs++kvs') (kus++kus'):=⟨by simp[h.1,h'.1],by simpa using h.2.append h'.2⟩
theorem IsP.put(h:IsP K m H kvs kus)(i:Is K m H v u):IsP K m H (oG kvs k v) (jG kus k u):=by
 unfold oG jG
 rw[h.any_]
 split
 ·refine IsP.ind (P:=fun kvs kus=>IsP K m H (kvs.map fun kv=>if kv.1=k then(kv.1,v)else kv) (kus.map fun kv=>if kv.1=k then(kv.1,u)else kv)) .nil_ (fun k' v' u' kvs kus i' _ ih=>?_) h
  simp only[Qx]
  by_cases e:k'=k
  ·simp only[e,if_true];exact .cons_ i ih
  ·simp only[e,if_false];exact .cons_ i' ih
 ·exact h.append (.cons_ i .nil_)
end
def mL:U->Option Key
 |.int i=>some (.inl i)
 |.str x=>some (.inr x)
 |_=>none
theorem iN{m:List Addr}{H:Hp}{x:U}{v:V}{k:Key}(ix:Is K m H v x)(h:mL x=some k):v=kV k:=by
 cases x<;>simp only[mL]at h<;>cases h
 ·exact ix.of_int
 ·exact ix.of_str
def gc:U->Bool
 |.non=>true|.bl _=>true|.int _=>true|.str _=>true|_=>false
def eqF:U->U->Bool
 |.non,.non=>true
 |.bl a,.bl b=>a == b
 |.bl a,.int b=>(if a then 1 else 0) == b
 |.int a,.bl b=>a == (if b then 1 else 0)
 |.int a,.int b=>a == b
 |.str a,.str b=>a == b
 |_,_=>false
def inU(x:U)(us:List U):Bool:=us.any fun y=>eqF y x
theorem o9{m:List Addr}{H:Hp}{x:U}{v:V}(ix:Is K m H v x)(h:gc x=true):kE v=true:=by
 cases x with
 |non=>rw[ix.of_non];rfl
 |bl b=>rw[ix.of_bl];rfl
 |int i=>rw[ix.of_int];rfl
 |str i=>rw[ix.of_str];rfl
 |tup us=>cases h
 |ref l=>cases h
 |kl l=>cases h
theorem Fx{m:List Addr}{H:Hp}{x y:U}{v w:V}(ix:Is K m H v x)(iy:Is K m H w y)(hx:gc x=true)(hy:gc y=true):eqV v w=eqF x y:=by
 cases x<;>(first|cases hx|skip)<;>cases y<;>(first|cases hy|skip)
 all_goals
  (first|(have e1:=ix.of_int)|(have e1:=ix.of_bl)|(have e1:=ix.of_str)|(have e1:=ix.of_non))
  (first|(have e2:=iy.of_int)|(have e2:=iy.of_bl)|(have e2:=iy.of_str)|(have e2:=iy.of_non))
  subst e1 e2
  rfl
theorem mB{m:List Addr}{H:Hp}:∀{xs:List V} {us:List U},IsL K m H xs us->us.all gc=true->xs.all kE=true
 |xs,[],h,_=>by rw[h.of_nil];rfl
 |xs,u::us,h,k=>by
  obtain⟨x,r,rfl,i,t⟩:=h.of_cons
  rw[List.all_cons,Bool.and_eq_true]at k ⊢
  exact⟨o9 i k.1,mB t k.2⟩
theorem vI{m:List Addr}{H:Hp}{x:U}{v:V}(ix:Is K m H v x)(hx:gc x=true):∀{xs:List V} {us:List U},IsL K m H xs us->us.all gc=true->inV v xs=inU x us
 |xs,[],h,_=>by rw[h.of_nil];rfl
 |xs,u::us,h,k=>by
  obtain⟨y,r,rfl,i,t⟩:=h.of_cons
  rw[List.all_cons,Bool.and_eq_true]at k
  have ih:=vI ix hx t k.2
  unfold inV inU at ih ⊢
  rw[Zw,Zw,ih,Fx i ix k.1 hx]
theorem _root_.L2.DGet.kz{H:Hp}{a:Addr}{ob:Obj}{kvs:List (Key×V)}{k:Key}(e:H a=some (.frz ob (.dK kvs))):DGet H a (kV k) (ku kvs k):=.inl ⟨kvs,k,.inr ⟨ob,e⟩,rfl,rfl⟩
def fIn(neg:Bool):U->U->Sto->Option (U×Sto):=fun x y S=>match y with
 |.tup us=>if gc x=true/\us.all gc=true then some (.bl (if neg then !inU x us else inU x us),S)else none
 |.ref l=>match S[l]? with
  |some (.lst us)=>if gc x=true/\us.all gc=true then some (.bl (if neg then !inU x us else inU x us),S)else none
  |some (.dic kus)=>(mL x).bind fun k=>some (.bl (if neg then !(i7 kus k).isSome else(i7 kus k).isSome),S)
  |some (.fdc ep kus)=>(mL x).bind fun k=>some (.bl (if neg then !(i7 kus k).isSome else(i7 kus k).isSome),S)
  |_=>none
 |_=>none
theorem Rf.isSome{m:List Addr}{H:Hp}{v:Option V}{u:Option U}(h:Rf K m H v u):v.isSome=u.isSome:=by
 cases v<;>cases u<;>first|rfl|exact h.elim
theorem zM{ca cb:CE}{neg:Bool}(t2:TE->TE->TE)(h2:∀ta tb σ H Q,(ta σ H fun y H1=>tb σ H1 fun x H2=>∃a o,x=.ref a/\DGet H2 a y o/\Q (.bl (if neg then !o.isSome else o.isSome)) H2)->t2 ta tb σ H Q):∀σ H Q,tE K (cOp (fIn neg) ca cb) σ H Q->tOp (rIn K neg) (tE K ca) (tE K cb) σ H Q\/t2 (tE K ca) (tE K cb) σ H Q:=by
 rintro σ H Q ⟨m,ρ,S,u,S',sr,lr,hc,post⟩
 obtain⟨⟨x,S1⟩,h1,h⟩:=Q3.mp hc
 obtain⟨⟨y,S2⟩,h3,h4⟩:=Q3.mp h
 cases y with
 |tup us=>
  simp only[fIn]at h4
  split at h4<;>try cases h4
  rename_i hf
  refine .inl ⟨m,ρ,S,x,S1,sr,lr,h1,fun m1 v1 H1 e1 sr1 i1=>⟨m1,ρ,S1,.tup us,S',sr1,lr.mono e1,h3,fun m2 v2 H2 e2 sr2 i2=>?_⟩⟩
  obtain⟨a,xs,rfl,sa,la⟩:=i2.of_tup
  refine⟨a,xs,rfl,.inr sa,o9 (i1.mono e2) hf.1,mB la hf.2,?_⟩
  rw[vI (i1.mono e2) hf.1 la hf.2]
  exact post m2 _ H2 (e1.trans e2) sr2 .bl_
 |ref l=>
  simp only[fIn]at h4
  split at h4<;>try cases h4
  ·rename_i us hS
   split at h4<;>try cases h4
   rename_i hf
   refine .inl ⟨m,ρ,S,x,S1,sr,lr,h1,fun m1 v1 H1 e1 sr1 i1=>⟨m1,ρ,S1,.ref l,S',sr1,lr.mono e1,h3,fun m2 v2 H2 e2 sr2 i2=>?_⟩⟩
   obtain⟨a,ha,rfl⟩:=i2.of_ref
   obtain⟨a',ha',xs,hx,la⟩:=sr2.get hS
   rw[ha]at ha';cases ha'
   refine⟨a,xs,rfl,.inl (SqL.of hx),o9 (i1.mono e2) hf.1,mB la hf.2,?_⟩
   rw[vI (i1.mono e2) hf.1 la hf.2]
   exact post m2 _ H2 (e1.trans e2) sr2 .bl_
  ·rename_i kus hS
   obtain⟨k,hk,h5⟩:=Q3.mp h4
   cases h5
   refine .inr (h2 _ _ _ _ _ ⟨m,ρ,S,x,S1,sr,lr,h1,fun m1 v1 H1 e1 sr1 i1=>⟨m1,ρ,S1,.ref l,S',sr1,lr.mono e1,h3,fun m2 v2 H2 e2 sr2 i2=>?_⟩⟩)
   obtain⟨a,ha,rfl⟩:=i2.of_ref
   obtain⟨a',ha',kvs,hx,ip⟩:=sr2.get hS
   rw[ha]at ha';cases ha'
   have ek:=iN (i1.mono e2) hk
   subst ek
   refine⟨a,_,rfl,DGet.k hx,?_⟩
   rw[(IsP.val ip).isSome]
   exact post m2 _ H2 (e1.trans e2) sr2 .bl_
  ·rename_i ep kus hS
   obtain⟨k,hk,h5⟩:=Q3.mp h4
   cases h5
   refine .inr (h2 _ _ _ _ _ ⟨m,ρ,S,x,S1,sr,lr,h1,fun m1 v1 H1 e1 sr1 i1=>⟨m1,ρ,S1,.ref l,S',sr1,lr.mono e1,h3,fun m2 v2 H2 e2 sr2 i2=>?_⟩⟩)
   obtain⟨a,ha,rfl⟩:=i2.of_ref
   obtain⟨a',ha',ob,es,kvs,hx,hd,ip⟩:=sr2.get hS
   rw[ha]at ha';cases ha'
   have ek:=iN (i1.mono e2) hk
   subst ek
   refine⟨a,_,rfl,DGet.kz hx,?_⟩
   rw[(IsP.val ip).isSome]
   exact post m2 _ H2 (e1.trans e2) sr2 .bl_
 |_=>simp[fIn]at h4
variable{e a b c:Expr}{ca cb cc:CE}{pos:Pos}
theorem Bu(hu:X.A.units+1<cLine)(ha:QE X a ca)(hb:QE X b cb)(hm:behindInMarks .In b=false):QT X (.Compare a [.In] [b] pos) (aA (cOp (fIn false) ca cb)):=
 ((lN uV ha hb hm).or (tq (AZ hu ha hb) hm)).imp (i8 (zM (neg:=false) GN fun _ _ _ _ _ h=>h))
theorem ma(hu:X.A.units+1<cLine)(ha:QE X a ca)(hb:QE X b cb)(hm:behindInMarks .NotIn b=false):QT X (.Compare a [.NotIn] [b] pos) (aA (cOp (fIn true) ca cb)):=
 ((lN nD ha hb hm).or (tq (rO hu ha hb) hm)).imp (i8 (zM (neg:=true) oS fun _ _ _ _ _ h=>h))
def fIx:U->U->Sto->Option (U×Sto):=fun x y S=>match x with
 |.tup us=>match y with
  |.int i=>(atI us i).bind fun u=>some (u,S)
  |_=>none
 |.ref l=>match S[l]? with
  |some (.lst us)=>(match y with
   |.int i=>(atI us i).bind fun u=>some (u,S)
   |_=>none)
  |some (.dic kus)=>(mL y).bind fun k=>(i7 kus k).bind fun u=>some (u,S)
  |some (.fdc ep kus)=>(mL y).bind fun k=>(i7 kus k).bind fun u=>some (u,S)
  |_=>none
 |.kl ns=>match y with
  |.int i=>(atI (ns.map U.int) i).bind fun u=>some (u,S)
  |_=>none
 |_=>none
theorem qW{K:Q5}{m:List Addr}{H:Hp}:∀ns:List Int,IsL K m H (ns.map V.int) (ns.map U.int)
 |[]=>.nil_
 |n::ns=>.cons_ .int_ (qW ns)
theorem wz{m:List Addr}{H:Hp}{xs:List V}{us:List U}{i:Int}{u:U}(l:IsL K m H xs us)(h:atI us i=some u):∃v,atI xs i=some v/\Is K m H v u:=by
 unfold atI at h ⊢
 rw[l.length]
 obtain⟨j,e1,e2⟩:=Q3.mp h
 rw[e1]
 obtain⟨v,e3,e4⟩:=l.getD e2
 exact⟨v,e3,e4⟩
theorem d5(hu:X.A.units+1<cLine)(ha:QE X a ca)(hb:QE X b cb)(hs:pI b)(hs2:C6 b):QE X (.Subscript a b pos) (cOp fIx ca cb):=
 ((DN (Co.or Fd) ha hb hs).or (xp hu ha hb hs2)).imp fun σ H Q hz=>ie hz fun m ρ S u S' sr lr hc post=>by
 obtain⟨⟨x,S1⟩,h1,h⟩:=Q3.mp hc
 obtain⟨⟨y,S2⟩,h3,h4⟩:=Q3.mp h
 cases x with
 |tup us=>
  simp only[fIx]at h4
  split at h4<;>try cases h4
  rename_i i
  obtain⟨w,hw,h5⟩:=Q3.mp h4
  cases h5
  refine .inl ⟨m,ρ,S,_,S1,sr,lr,h1,fun m1 v1 H1 e1 sr1 i1=>⟨m1,ρ,S1,_,S',sr1,lr.mono e1,h3,fun m2 v2 H2 e2 sr2 i2=>.inr ?_⟩⟩
  obtain⟨a,xs,rfl,sa,la⟩:=(i1.mono e2).of_tup
  obtain⟨z,ez,iz⟩:=wz la hw
  exact⟨a,xs,i,z,rfl,i2.of_int,sa,ez,post m2 _ H2 (e1.trans e2) sr2 iz⟩
 |ref l=>
  simp only[fIx]at h4
  split at h4<;>try cases h4
  ·rename_i us hS
   split at h4<;>try cases h4
   rename_i i
   obtain⟨w,hw,h5⟩:=Q3.mp h4
   cases h5
   refine .inl ⟨m,ρ,S,_,S1,sr,lr,h1,fun m1 v1 H1 e1 sr1 i1=>⟨m1,ρ,S1,_,S',sr1,lr.mono e1,h3,fun m2 v2 H2 e2 sr2 i2=>.inl ?_⟩⟩
   obtain⟨a,ha,rfl⟩:=(i1.mono e2).of_ref
   obtain⟨a',ha',xs,hx,la⟩:=sr2.get hS
   rw[ha]at ha';cases ha'
   obtain⟨z,ez,iz⟩:=wz la hw
   exact⟨a,xs,i,z,rfl,i2.of_int,SqL.of hx,ez,post m2 _ H2 (e1.trans e2) sr2 iz⟩
  ·rename_i kus hS
   obtain⟨k,hk,h5⟩:=Q3.mp h4
   obtain⟨w,hw,h6⟩:=Q3.mp h5
   cases h6
   refine .inr ⟨m,ρ,S,_,S1,sr,lr,h1,fun m1 v1 H1 e1 sr1 i1=>⟨m1,ρ,S1,_,S',sr1,lr.mono e1,h3,fun m2 v2 H2 e2 sr2 i2=>?_⟩⟩
   obtain⟨a,ha,rfl⟩:=(i1.mono e2).of_ref
   obtain⟨a',ha',kvs,hx,ip⟩:=sr2.get hS
   rw[ha]at ha';cases ha'
   have ek:=iN i2 hk
   subst ek
   have rf:=IsP.val (k:=k) ip
   rw[hw]at rf
   cases hv:ku kvs k with
   |none=>rw[hv]at rf;exact rf.elim
   |some z=>
    rw[hv]at rf
    exact⟨a,z,rfl,by have:=DGet.k (k:=k) hx;rw[hv]at this;exact this,post m2 _ H2 (e1.trans e2) sr2 rf⟩
  ·rename_i ep kus hS
   obtain⟨k,hk,h5⟩:=Q3.mp h4
   obtain⟨w,hw,h6⟩:=Q3.mp h5
   cases h6
   refine .inr ⟨m,ρ,S,_,S1,sr,lr,h1,fun m1 v1 H1 e1 sr1 i1=>⟨m1,ρ,S1,_,S',sr1,lr.mono e1,h3,fun m2 v2 H2 e2 sr2 i2=>?_⟩⟩
   obtain⟨a,ha,rfl⟩:=(i1.mono e2).of_ref
   obtain⟨a',ha',ob,es,kvs,hx,hd,ip⟩:=sr2.get hS
   rw[ha]at ha';cases ha'
   have ek:=iN i2 hk
   subst ek
   have rf:=IsP.val (k:=k) ip
   rw[hw]at rf
   cases hv:ku kvs k with
   |none=>rw[hv]at rf;exact rf.elim
   |some z=>
    rw[hv]at rf
    exact⟨a,z,rfl,by have:=DGet.kz (k:=k) hx;rw[hv]at this;exact this,post m2 _ H2 (e1.trans e2) sr2 rf⟩
 |kl ns=>
  simp only[fIx]at h4
  split at h4<;>try cases h4
  rename_i i
  obtain⟨w,hw,h5⟩:=Q3.mp h4
  cases h5
  refine .inl ⟨m,ρ,S,_,S1,sr,lr,h1,fun m1 v1 H1 e1 sr1 i1=>⟨m1,ρ,S1,_,S',sr1,lr.mono e1,h3,fun m2 v2 H2 e2 sr2 i2=>.inl ?_⟩⟩
  obtain⟨a,rfl,ka⟩:=(i1.mono e2).of_kl
  obtain⟨z,ez,iz⟩:=wz (qW (K:=X.K) (m:=m2) (H:=H2) ns) hw
  exact⟨a,_,i,z,rfl,i2.of_int,ka.sq,ez,post m2 _ H2 (e1.trans e2) sr2 iz⟩
 |_=>simp[fIx]at h4
def jV:U->U->U->Sto->Option Sto:=fun o i v S=>match o with
 |.ref l=>match S[l]? with
  |some (.lst us)=>(match i with
   |.int k=>(ixN us.length k).bind fun j=>some (S.set l (.lst (us.set j v)))
   |_=>none)
  |some (.dic kus)=>(mL i).bind fun k=>if kus.length<LIM then some (S.set l (.dic (jG kus k v)))else none
  |_=>none
 |_=>none
def wk(co ci cv:CE):CS:=fun ρ S=>(cv ρ S).bind fun p=>(co ρ p.2).bind fun q=>(ci ρ q.2).bind fun r=>(jV q.1 r.1 p.1 r.2).bind fun S'=>some (.nx,ρ,S')
theorem xM{o i:Expr}{co ci cv:CE}{pos':Pos}(hu:X.A.units+1<cLine)(ho:QE X o co)(hi:QE X i ci)(hv:QE X e cv)
  (hs0:swapsWithSole [.Subscript o i pos'] e pos.line X.env=pure false:=by rfl) (hw:swappedStores [.Subscript o i pos'] e X.env=pure none:=by rfl)
  (h1:(assignEach [.Subscript o i pos'] X.env).map (·.2)=[assign (.Subscript o i pos') X.env]:=by rfl)
  (hs:swapsWith e (some (.Subscript o i pos')) pos.line X.env=pure false:=by rfl)
  (ha:∀v,assign (.Subscript o i pos') X.env v=(do
   let ov <-holding [v] (eval o X.env)
   let iv <-holding [v,ov] (eval i X.env)
   standAt pos'
   holding [v,ov,iv] (setItem ov iv v)
   release [v,ov,iv] []):=by intro _;rfl):QS X (.Assign [.Subscript o i pos'] e pos) (wk co ci cv):=
 ((tD hv (AR ho hi lV ha) hs0 hw h1).or (pR hu ho hi hv hs)).imp fun D σ H hz=>sE hz fun m ρ S o ρ' S' sr lr hc post=>by
 obtain⟨⟨v,S1⟩,h1,h⟩:=Q3.mp hc
 obtain⟨⟨ou,S2⟩,h2,h⟩:=Q3.mp h
 obtain⟨⟨iu,S3⟩,h3,h⟩:=Q3.mp h
 obtain⟨S4,h4,h⟩:=Q3.mp h
 cases h
 cases ou with
 |ref l=>
  simp only[jV]at h4
  split at h4<;>try cases h4
  ·rename_i us hS
   split at h4<;>try cases h4
   rename_i k
   obtain⟨j,hj,h5⟩:=Q3.mp h4
   cases h5
   refine .inl ⟨m,ρ,S,v,S1,sr,lr,h1,fun m1 v1 H1 e1 sr1 i1=>⟨m1,ρ,S1,_,S2,sr1,lr.mono e1,h2,fun m2 v2 H2 e2 sr2 i2=>⟨m2,ρ,S2,_,S3,sr2,lr.mono (e1.trans e2),h3,fun m3 v3 H3 e3 sr3 i3=>?_⟩⟩⟩
   obtain⟨a,ha,rfl⟩:=(i2.mono e3).of_ref
   obtain⟨a',ha',xs,hx,la⟩:=sr3.get hS
   rw[ha]at ha';cases ha'
   have e13:=(e1.trans e2).trans e3
   have ek:Ext X.K m3 H3 m3 (upd H3 a (.lst (xs.set j v1))):=.of (sr3.keep ha _)
   refine⟨a,xs,k,j,rfl,i3.of_int,hx,by rw[la.length];exact hj,post m3 σ _ (e13.trans ek) (sr3.put ha ⟨_,aJ,((la.set (i1.mono (e2.trans e3)))).mono ek⟩) (lr.mono (e13.trans ek))⟩
  ·rename_i kus hS
   obtain⟨k,hk,h5⟩:=Q3.mp h4
   split at h5<;>try cases h5
   have hlen:kus.length<LIM:=by assumption
   refine .inr ⟨m,ρ,S,v,S1,sr,lr,h1,fun m1 v1 H1 e1 sr1 i1=>⟨m1,ρ,S1,_,S2,sr1,lr.mono e1,h2,fun m2 v2 H2 e2 sr2 i2=>⟨m2,ρ,S2,_,S3,sr2,lr.mono (e1.trans e2),h3,fun m3 v3 H3 e3 sr3 i3=>?_⟩⟩⟩
   obtain⟨a,ha,rfl⟩:=(i2.mono e3).of_ref
   obtain⟨a',ha',kvs,hx,ip⟩:=sr3.get hS
   rw[ha]at ha';cases ha'
   have ek:=iN i3 hk
   subst ek
   have e13:=(e1.trans e2).trans e3
   have ee:Ext X.K m3 H3 m3 (upd H3 a (.dK (oG kvs k v1))):=.of (sr3.keep ha _)
   exact⟨a,_,rfl,Af.k hx (EX (by rw[IsP.length ip];exact hlen)),post m3 σ _ (e13.trans ee) (sr3.put ha ⟨_,aJ,(IsP.put ip (i1.mono (e2.trans e3))).mono ee⟩) (lr.mono (e13.trans ee))⟩
 |_=>simp[jV]at h4
end
section
variable{X:Cx}{K:Q5}{m:List Addr}{H:Hp}{c:Cl}{fs:List (Str×V)}{fus:List (Option U)}
open Classical in
def Jb(c:Cl)(i:Nat)(x:U)(S:Sto):Option (U×Sto):=match x with
 |.ref l=>match S[l]? with
  |some (.ins c' fus)=>if c'=c then(fus[i]?).join.bind fun u=>some (u,S)else none
  |_=>none
 |_=>none
def Jm(c:Cl)(i:Nat)(ca:CE):CE:=fun ρ S=>(ca ρ S).bind fun p=>Jb c i p.1 p.2
open Classical in
def HI(c:Cl)(i:Nat)(x v:U)(S:Sto):Option Sto:=match x with
 |.ref l=>match S[l]? with
  |some (.ins c' fus)=>if c'=c then some (S.set l (.ins c (fus.set i (some v))))else none
  |_=>none
 |_=>none
def Jf(c:Cl)(i:Nat)(ca cv:CE):CS:=fun ρ S=>(cv ρ S).bind fun p=>(ca ρ p.2).bind fun q=>(HI c i q.1 p.1 q.2).bind fun S'=>some (.nx,ρ,S')
variable{e:Expr}{ca cv:CE}{pos:Pos}{f:Str}{i:Nat}
open Classical in
def HJ(c:Cl)(f:Fn)(x:U)(S:Sto)(args:Sto->Option (List U×Sto)):Option (U×Sto):=match x with
 |.ref l=>match S[l]? with
  |some (.ins c' _)=>if c'=c then(args S).bind fun q=>f (.ref l::q.1) q.2 else none
  |_=>none
 |_=>none
def Jg(c:Cl)(f:Fn)(ca:CE)(cr:CA):CE:=fun ρ S=>(ca ρ S).bind fun p=>HJ c f p.1 p.2 (cr ρ)
end
def gJ(n:Nat)(caps:List Nat)(ρ:Rho):Rho:=Zv n none++caps.map fun i=>(ρ[i]?).getD none
open Classical in
def fO(ok:Sto->Prop)(g:CG)(ce:CE)(l:Nat):List U->Rho->Sto->Option Sto
 |[],_,S=>if ok S then some S else none
 |u::us,ρ,S=>if ok S then(g u ρ S).bind fun p=>(ce p.1 p.2).bind fun r=>match r.2[l]? with
  |some (.lst ys)=>if ys.length<LIM then fO ok g ce l us p.1 (r.2.set l (.lst (ys++[r.1])))else none
  |_=>none else none
def bR(ci:CI)(g:CG)(ce:CE)(n:Nat)(caps:List Nat):CE:=fun ρ S=>(ci ρ S).bind fun p=>(fO p.2.1 g ce p.2.2.length p.1 (gJ n caps ρ) (p.2.2++[.lst []])).bind fun S'=>some (.ref p.2.2.length,S')
section
variable{X:Cx}{K:Q5}
theorem ve{m:List Addr}{H:Hp}{ρ:Rho}{σ:L2.St}{n:Nat}{caps:List Nat}(lr:Lr K m H ρ σ):Lr K m H (gJ n caps ρ) (OG.stC n caps σ):=by
 refine⟨by simp[gJ,OG.stC],fun j u e=>?_⟩
 unfold gJ at e
 unfold OG.stC
 by_cases c:j<n
 ·rw[QN (by simpa using c),ZP]at e
  split at e<;>cases e
 ·rw[Qz (by simp;omega),Qv]at e ⊢
  simp only[Zy]at e ⊢
  cases q:caps[j-n]? with
  |none=>rw[q]at e;simp at e
  |some i=>
   rw[q]at e
   simp only[Option.map_some,Option.some.injEq]at e ⊢
   have e2:ρ[i]?=some (some u):=by
    cases z:ρ[i]? with
    |none=>rw[z]at e;simp at e
    |some y=>rw[z]at e;simp at e;rw[e]
   obtain⟨v,h1,h2⟩:=lr.at_ i u e2
   exact⟨v,by rw[h1];rfl,h2⟩
theorem n9{g:CG}{ce:CE}{n:Nat}{caps:List Nat}{J:It}{us:List U}{ok:Sto->Prop}{Q:VK}{m1:List Addr}{H1:Hp}{S1 S':Sto}{ρ:Rho}{σ:L2.St}{l:Addr}(sr1:Sr K m1 S1 H1)(lr:Lr K m1 H1 ρ σ)(ito:zc K J m1 H1 us ok)(hl:H1 l=none)(h2:fO ok g ce S1.length us (gJ n caps ρ) (S1++[.lst []])=some S')
  (post:∀m2 H2,Ext K (m1++[l]) (upd H1 l (.lst [])) m2 H2->Sr K m2 S' H2->Q (.ref l) H2) :
  ∃W:Nat->Nat->L2.St->Hp->Prop,(∃m,W 0 m (OG.stC n caps σ) (upd H1 l (.lst [])))/\
 ∀i m σ' H2,W i m σ' H2->(J.stop i H2/\Q (.ref l) H2)\/(J.go i H2/\∃N:L2.St->Hp->Prop,(∀σ'' H',N σ'' H'->∃m',m'<m/\W (i+1) m' σ'' H')/\
  ∀x H3,J.yld i H2 x H3->tG K g x σ' H3 fun σ2 H4=>tE K ce σ2 H4 fun v H5=>∃ys,H5 l=some (.lst ys)/\ys.length<sizeLine/\N σ2 (upd H5 l (.lst (ys++[v])))):=by
 have ee:Ext K m1 H1 (m1++[l]) (upd H1 l (.lst [])):=.new (br hl _)
 let W:Nat->Nat->L2.St->Hp->Prop:=fun i k σ2 H2=>k=us.length-i/\i<=us.length/\∃m2 ρ2 S2,Ext K (m1++[l]) (upd H1 l (.lst [])) m2 H2/\Sr K m2 S2 H2/\Lr K m2 H2 ρ2 σ2/\fO ok g ce S1.length (us.drop i) ρ2 S2=some S'
 refine⟨W,⟨us.length,by simp,Qs _,m1++[l],gJ n caps ρ,S1++[.lst []],.refl,sr1.new (o:=.lst []) hl ⟨[],aJ,.nil_⟩,ve (lr.mono ee),by simpa using h2⟩,?_⟩
 rintro i k σ2 H2 ⟨rfl,hi,m2,ρ2,S2,e2,sr2,lr2,hl2⟩
 by_cases hlt:i<us.length
 ·have hu:=Q7 hlt
  rw[j9 hu]at hl2
  unfold fO at hl2
  split at hl2
  ·rename_i hok
   obtain⟨⟨ρ3,S3⟩,h3,hl2⟩:=Q3.mp hl2
   obtain⟨⟨u4,S4⟩,h4,hl2⟩:=Q3.mp hl2
   simp only at hl2
   split at hl2<;>try cases hl2
   rename_i ys hys
   split at hl2<;>try cases hl2
   rename_i hlen
   obtain⟨hgo,hy⟩:=(ito m2 S2 H2 i (ee.trans e2) sr2 hok).1 _ hu
   refine .inr ⟨hgo,W (i+1) (us.length-(i+1)),fun σ' H' w'=>⟨_,by omega,w'⟩,fun x H3 y=>?_⟩
   obtain⟨e3,sr3,ix⟩:=hy x H3 y
   refine⟨m2,ρ2,S2,_,ρ3,S3,sr3,lr2.mono e3,ix,h3,fun m4 σ4 H4 e4 sr4 lr4=>⟨m4,ρ3,S3,u4,S4,sr4,lr4,h4,fun m5 v5 H5 e5 sr5 i5=>?_⟩⟩
   obtain⟨a',ha',xs,hx,il⟩:=sr5.get hys
   have ha:m5[S1.length]?=some l:=(((e2.trans e3).trans e4).trans e5).get (cN sr1.len)
   rw[ha]at ha';cases ha'
   have eu:Ext K m5 H5 m5 (upd H5 l (.lst (xs++[v5]))):=.of (sr5.keep ha _)
   refine⟨xs,hx,EX (by rw[il.length];exact hlen),rfl,hlt,m5,ρ3,_,((((e2.trans e3).trans e4).trans e5).trans eu),sr5.put (o:=.lst (ys++[u4])) ha ⟨_,aJ,(il.append (.cons_ i5 .nil_)).mono eu⟩,(lr4.mono (e5.trans eu)),hl2⟩
  ·cases hl2
 ·have e:i=us.length:=by omega
  subst e
  rw[List.drop_length]at hl2
  unfold fO at hl2
  split at hl2
  ·rename_i hok
   cases hl2
   exact .inl ⟨(ito m2 _ H2 _ (ee.trans e2) sr2 hok).2 (QJ _),post m2 H2 e2 sr2⟩
  ·cases hl2
theorem yV{ci:CI}{g:CG}{ce:CE}{n:Nat}{caps:List Nat}:∀σ H Q,tE K (bR ci g ce n caps) σ H Q->Be (tI K ci) (tG K g) (tE K ce) n caps σ H Q:=by
 rintro σ H Q ⟨m,ρ,S,u,S',sr,lr,hc,post⟩
 obtain⟨⟨us,ok,S1⟩,h1,h2⟩:=Q3.mp hc
 obtain⟨S2,h2,h3⟩:=Q3.mp h2
 cases h3
 refine⟨m,ρ,S,us,ok,S1,sr,lr,h1,fun m1 H1 J e1 sr1 ito l hl=>?_⟩
 have ee:Ext K m1 H1 (m1++[l]) (upd H1 l (.lst [])):=.new (br hl _)
 exact n9 sr1 (lr.mono e1) ito hl h2 fun m2 H2 e2 sr2=>post m2 _ H2 ((e1.trans ee).trans e2) sr2 (.ref_ (e2.get (cN sr1.len)))
theorem iX{Nc capN tn:List Str}{scope:Scope}{cl:List (Str×Addr)}{n:Nat}{caps:List Nat}{tg iter elt:Expr}{pos:Pos}{ci:CI}{g:CG}{ce:CE}
  (hc:X.calm=true) (hi:QI X tg iter ci) (hg:∀s3 H3 fp,WG (cxC X Nc scope cl s3 H3 fp) tg (tG X.K g)) (he:∀s3 H3 fp,WE (cxC X Nc scope cl s3 H3 fp) elt (tE X.K ce))
  (hclos:closureFor scope X.env=pure cl) (hkind:scope.kind=.function) (hnl:∀x∈scope.names,x.2=.local->scope.names.lookup x.1=some .local) (hcell:∀x∈scope.names,x.2≠.cell)
  (hcl:mK X.env cl) (hhas:((relabel scope X.env).names.all fun p=>!(p.2 == .cell||p.2 == .free)||(cl.lookup p.1).isSome)=true)
  (hcap:Paired (Cap X scope cl) caps capN) (hN:Nc=tn++capN) (hn:tn.length=n)
  (hs:∀x,foldedSetIterable iter X.env x=pure x:=by intro _;rfl) :
  QE X (.ListComp elt [⟨tg,iter,[],0⟩] scope pos) (bR ci g ce n caps):=(pS hc hi hg he hclos hkind hnl hcell hcl hhas hcap hN hn hs).imp yV
def eN:Fn
 |[.tup us],S=>some (.int us.length,S)
 |[.ref l],S=>match S[l]? with
  |some (.lst us)=>some (.int us.length,S)
  |some (.dic us)=>some (.int us.length,S)
  |_=>none
 |[.kl ns],S=>some (.int ns.length,S)
 |_,_=>none
abbrev Ig(K:Q5):List V->Hp->VK->Prop:=fun xs H Q=>(∃p ys,xs=[.ref p]/\(SqL K H p ys\/SqT K H p ys)/\Q (.int ys.length) H)\/∃a kvs,xs=[V.ref a]/\H a=some (.dK kvs)/\Q (.int kvs.length) H
theorem iL:cG X (.builtin "len") (Ig X.K):=oj.or wg
theorem IsL.one{m:List Addr}{H:Hp}{vs:List V}{u:U}(h:IsL K m H vs [u]):∃v,vs=[v]/\Is K m H v u:=by
 obtain⟨x,r,rfl,i,t⟩:=h.of_cons
 rw[t.of_nil];exact⟨x,rfl,i⟩
theorem IsL.two{m:List Addr}{H:Hp}{vs:List V}{u w:U}(h:IsL K m H vs [u,w]):∃v x,vs=[v,x]/\Is K m H v u/\Is K m H x w:=by
 obtain⟨x,r,rfl,i,t⟩:=h.of_cons
 obtain⟨y,rfl,j⟩:=t.one
 exact⟨x,y,rfl,i,j⟩
theorem iI:iY K (Ig K) eN:=by
 intro m S H us vs u S' Q sr i hf post
 match us,hf with
 |[.tup ws],hf=>
  cases hf
  obtain⟨v,rfl,iv⟩:=i.one
  obtain⟨a,xs,rfl,sa,la⟩:=iv.of_tup
  exact .inl ⟨a,xs,rfl,.inr sa,by rw[la.length];exact post m _ H .refl sr .int_⟩
 |[.ref l],hf=>
  obtain⟨v,rfl,iv⟩:=i.one
  obtain⟨a,ha,rfl⟩:=iv.of_ref
  simp only[eN]at hf
  split at hf<;>try cases hf
  ·rename_i ws hS
   obtain⟨a',ha',xs,hx,la⟩:=sr.get hS
   rw[ha]at ha';cases ha'
   exact .inl ⟨a,xs,rfl,.inl (SqL.of hx),by rw[la.length];exact post m _ H .refl sr .int_⟩
  ·rename_i ws hS
   obtain⟨a',ha',xs,hx,la⟩:=sr.get hS
   rw[ha]at ha';cases ha'
   exact .inr ⟨a,xs,rfl,hx,by rw[IsP.length la];exact post m _ H .refl sr .int_⟩
 |[.kl ns],hf=>
  cases hf
  obtain⟨v,rfl,iv⟩:=i.one
  obtain⟨a,rfl,ka⟩:=iv.of_kl
  exact .inl ⟨a,_,rfl,.inl ka.sq,by rw[QZ];exact post m _ H .refl sr .int_⟩
def hC:Fn
 |[.tup us],S=>some (.ref S.length,S++[.lst us])
 |[.ref l],S=>match S[l]? with
  |some (.lst us)=>some (.ref S.length,S++[.lst us])
  |_=>none
 |_,_=>none
theorem nA:iY K (fun xs H Q=>∃p ys,xs=[.ref p]/\(SqL K H p ys\/SqT K H p ys)/\∀l,H l=none->Q (.ref l) (upd H l (.lst ys))) hC:=by
 intro m S H us vs u S' Q sr i hf post
 match us,hf with
 |[.tup ws],hf=>
  cases hf
  obtain⟨v,rfl,iv⟩:=i.one
  obtain⟨a,xs,rfl,sa,la⟩:=iv.of_tup
  exact⟨a,xs,rfl,.inr sa,fun l hl=>bP sr la post hl⟩
 |[.ref l],hf=>
  obtain⟨v,rfl,iv⟩:=i.one
  obtain⟨a,ha,rfl⟩:=iv.of_ref
  simp only[hC]at hf
  split at hf<;>try cases hf
  rename_i ws hS
  obtain⟨a',ha',xs,hx,la⟩:=sr.get hS
  rw[ha]at ha';cases ha'
  exact⟨a,xs,rfl,.inl (SqL.of hx),fun l hl=>bP sr la post hl⟩
def fb:Fn
 |[.tup us],S=>some (.tup us,S)
 |[.ref l],S=>match S[l]? with
  |some (.lst us)=>some (.tup us,S)
  |_=>none
 |_,_=>none
theorem mj:iY K (fun xs H Q=>∃p ys,xs=[.ref p]/\((SqL K H p ys/\∀l,H l=none->Q (.ref l) (upd H l (.tup ys)))\/(SqT K H p ys/\Q (.ref p) H))) fb:=by
 intro m S H us vs u S' Q sr i hf post
 match us,hf with
 |[.tup ws],hf=>
  cases hf
  obtain⟨v,rfl,iv⟩:=i.one
  obtain⟨a,xs,rfl,sa,la⟩:=iv.of_tup
  exact⟨a,xs,rfl,.inr ⟨sa,post m _ H .refl sr iv⟩⟩
 |[.ref l],hf=>
  obtain⟨v,rfl,iv⟩:=i.one
  obtain⟨a,ha,rfl⟩:=iv.of_ref
  simp only[fb]at hf
  split at hf<;>try cases hf
  rename_i ws hS
  obtain⟨a',ha',xs,hx,la⟩:=sr.get hS
  rw[ha]at ha';cases ha'
  exact⟨a,xs,rfl,.inl ⟨SqL.of hx,fun l hl=>jc sr la post hl⟩⟩
def Fv:Fn
 |[.int i],S=>some (.int i,S)
 |[.bl b],S=>some (.int (if b then 1 else 0),S)
 |_,_=>none
theorem EG:iY K (fun xs H Q=>(∃i,xs=[.int i]/\Q (.int i) H)\/∃k,xs=[.bl k]/\Q (.int (if k then 1 else 0)) H) Fv:=by
 intro m S H us vs u S' Q sr i hf post
 match us,hf with
 |[.int j],hf=>
  cases hf
  obtain⟨v,rfl,iv⟩:=i.one
  exact .inl ⟨j,by rw[iv.of_int],post m _ H .refl sr .int_⟩
 |[.bl j],hf=>
  cases hf
  obtain⟨v,rfl,iv⟩:=i.one
  exact .inr ⟨j,by rw[iv.of_bl],post m _ H .refl sr .int_⟩
def F5:Fn
 |[.int i,.int j],S=>some (.int (if j<i then j else i),S)
 |_,_=>none
theorem Hi:iY K (fun xs H Q=>∃i j,xs=[.int i,.int j]/\Q (.int (if j<i then j else i)) H) F5:=by
 intro m S H us vs u S' Q sr i hf post
 match us,hf with
 |[.int j,.int k],hf=>
  cases hf
  obtain⟨v,w,rfl,iv,iw⟩:=i.two
  exact⟨j,k,by rw[iv.of_int,iw.of_int],post m _ H .refl sr .int_⟩
def F6:Fn
 |[.int i,.int j],S=>some (.int (if j>i then j else i),S)
 |_,_=>none
theorem Hj:iY K (fun xs H Q=>∃i j,xs=[.int i,.int j]/\Q (.int (if j>i then j else i)) H) F6:=by
 intro m S H us vs u S' Q sr i hf post
 match us,hf with
 |[.int j,.int k],hf=>
  cases hf
  obtain⟨v,w,rfl,iv,iw⟩:=i.two
  exact⟨j,k,by rw[iv.of_int,iw.of_int],post m _ H .refl sr .int_⟩
def mx:List U->Option (List Int)
 |[]=>some []
 |.int i::r=>(mx r).map (i::·)
 |_=>none
def C4:List U->Option (List Bool)
 |[]=>some []
 |.bl i::r=>(C4 r).map (i::·)
 |_=>none
theorem g9:∀{us:List U} {ns:List Int},mx us=some ns->us=ns.map U.int
 |[],ns,h=>by cases h;rfl
 |u::r,ns,h=>by
  cases u<;>simp only[mx]at h<;>try cases h
  obtain⟨ms,e,h⟩:=Qm.mp h
  subst h
  rw[g9 e];rfl
theorem fv:∀(ns:List Int),mx (ns.map U.int)=some ns
 |[]=>rfl
 |n::r=>by simp[mx,fv r]
theorem wo:∀{us:List U} {ns:List Bool},C4 us=some ns->us=ns.map U.bl
 |[],ns,h=>by cases h;rfl
 |u::r,ns,h=>by
  cases u<;>simp only[C4]at h<;>try cases h
  obtain⟨ms,e,h⟩:=Qm.mp h
  subst h
  rw[wo e];rfl
theorem ji:∀(ns:List Bool),C4 (ns.map U.bl)=some ns
 |[]=>rfl
 |n::r=>by simp[C4,ji r]
theorem IsL.ints{m:List Addr}{H:Hp}:∀{xs:List V} {ns:List Int},IsL K m H xs (ns.map U.int)->xs=ns.map V.int
 |xs,[],h=>h.of_nil
 |xs,n::ns,h=>by
  obtain⟨x,r,rfl,i,t⟩:=h.of_cons
  rw[IsL.ints t,i.of_int];rfl
theorem IsL.bls{m:List Addr}{H:Hp}:∀{xs:List V} {ns:List Bool},IsL K m H xs (ns.map U.bl)->xs=ns.map V.bl
 |xs,[],h=>h.of_nil
 |xs,n::ns,h=>by
  obtain⟨x,r,rfl,i,t⟩:=h.of_cons
  rw[IsL.bls t,i.of_bl];rfl
theorem fH{m:List Addr}{H:Hp}:∀(ns:List Int),IsL K m H (ns.map V.int) (ns.map U.int)
 |[]=>.nil_
 |n::ns=>.cons_ .int_ (fH ns)
def jW:Fn
 |[.ref l],S=>match S[l]? with
  |some (.lst us)=>(C4 us).bind fun bs=>some (.bl (bs.all id),S)
  |_=>none
 |_,_=>none
theorem oX:iY K (fun xs H Q=>∃(p:Addr) (bs:List Bool),xs=[.ref p]/\SqL K H p (bs.map V.bl)/\Q (.bl (bs.all id)) H) jW:=by
 intro m S H us vs u S' Q sr i hf post
 match us,hf with
 |[.ref l],hf=>
  obtain⟨v,rfl,iv⟩:=i.one
  obtain⟨a,ha,rfl⟩:=iv.of_ref
  simp only[jW]at hf
  split at hf<;>try cases hf
  rename_i ws hS
  obtain⟨bs,hb,h⟩:=Q3.mp hf
  cases h
  obtain⟨a',ha',xs,hx,la⟩:=sr.get hS
  rw[ha]at ha';cases ha'
  rw[wo hb]at la
  rw[la.bls]at hx
  exact⟨a,bs,rfl,SqL.of hx,post m _ H .refl sr .bl_⟩
inductive Ty where
 |non|bool|int|str|tuple|list|dict
def Ty.nm:Ty->String
 |.non=>"NoneType"|.bool=>"bool"|.int=>"int"|.str=>"str"|.tuple=>"tuple"|.list=>"list"|.dict=>"dict"
def tyU:U->Sto->Option Ty
 |.non,_=>some .non|.bl _,_=>some .bool|.int _,_=>some .int|.str _,_=>some .str|.tup _,_=>some .tuple
 |.ref l,S=>match S[l]? with
  |some (.lst _)=>some .list
  |some (.dic _)=>some .dict
  |_=>none
 |.kl _,_=>none
def zj:Ty->Ty->Bool
 |.non,.non=>true|.bool,.bool=>true|.bool,.int=>true|.int,.int=>true|.str,.str=>true|.tuple,.tuple=>true|.list,.list=>true|.dict,.dict=>true
 |_,_=>false
theorem jO(a b:Ty)(hb:b≠.non):PySem.W.kitOne K (.type a.nm) (.type b.nm)=some (zj a b):=by
 cases b<;>first|exact absurd rfl hb|(cases a<;>rfl)
abbrev IZ(K:Q5):List V->Hp->VK->Prop:=fun xs H Q=>(∃(x:V) (T:String) (t:Value) (k:Bool),xs=[x,.ty T]/\rE K H x t/\PySem.W.kitOne K t (.type T)=some k/\Q (.bl k) H)\/
 ∃(a:Addr) (ys:List V) (T:String) (k:Bool),xs=[.ref a,.ty T]/\SqT K H a ys/\PySem.W.kitOne K (.type "tuple") (.type T)=some k/\Q (.bl k) H
theorem Hn:cG X (.builtin "isinstance") (IZ X.K):=by
 refine pE.or ?_
 rintro pins s σ H xs us Q I r ⟨a,ys,T,k,rfl,sq,e,q⟩
 obtain⟨u,w',rfl,ru,rw'⟩:=rP r
 cases rw'
 cases ru
 obtain⟨its,rv,ht,hz⟩:=I.tuple sq
 obtain⟨o,h1,h2,_⟩:=ht
 exact PySem.W.kia_one PySem.W.kitx_tuple I.kIn ⟨o,h1,h2⟩ e (fun z=>nomatch z) fun tk=>⟨.bl k,H,I.tok tk,rfl,q⟩
def wW(T:Ty)(ca:CE):CE:=fun ρ S=>(ca ρ S).bind fun p=>(tyU p.1 p.2).bind fun t=>some (.bl (zj t T),p.2)
theorem Bw{T:Ty}{e eT:Expr}{ca:CE}{p pos:Pos}(hT0:T≠.non)(he:QE X e ca)(hT:WE X eT (tC (.ty T.nm)))(hg:Gl X "isinstance")(hm:X.mg "isinstance"=none)
  (h1:starEach [e,eT] X.env=(false,eval e X.env)::starEach [eT] X.env:=by rfl) (h2:starEach [eT] X.env=(false,eval eT X.env)::starEach [] X.env:=by rfl) (hpl:(backTo pos (starEach [eT] X.env)).any (·.1)=false:=by rfl) :
  QE X (.Call (.Name "isinstance" p) [e,eT] [] pos) (wW T ca):=(gB Hn hg hm OG.kg (cy he (cy hT fg h2) h1) (by decide) (by decide) h1 hpl).imp fun σ H Q hz=>ie hz fun m ρ S u S' sr lr hc post=>by
 obtain⟨⟨x,S1⟩,h1,h2⟩:=Q3.mp hc
 obtain⟨t,ht,h3⟩:=Q3.mp h2
 cases h3
 refine⟨m,ρ,S,x,_,sr,lr,h1,fun m1 v1 H1 e1 sr1 i1=>?_⟩
 have fin:=post m1 _ H1 e1 sr1 (Is.bl_ (b:=zj t T))
 cases x with
 |non=>cases ht;rw[i1.of_non];exact .inl ⟨_,_,_,_,rfl,.non,jO .non T hT0,fin⟩
 |bl b=>cases ht;rw[i1.of_bl];exact .inl ⟨_,_,_,_,rfl,.bl b,jO .bool T hT0,fin⟩
 |int i=>cases ht;rw[i1.of_int];exact .inl ⟨_,_,_,_,rfl,.int i,jO .int T hT0,fin⟩
 |str i=>cases ht;rw[i1.of_str];exact .inl ⟨_,_,_,_,rfl,.str i,jO .str T hT0,fin⟩
 |tup us=>
  cases ht
  obtain⟨a,xs,rfl,sa,la⟩:=i1.of_tup
  exact .inr ⟨a,xs,_,_,rfl,sa,jO .tuple T hT0,fin⟩
 |ref l=>
  obtain⟨a,ha,rfl⟩:=i1.of_ref
  simp only[tyU]at ht
  split at ht<;>try cases ht
  ·rename_i ws hS
   obtain⟨a',ha',xs,hx,la⟩:=sr1.get hS
   rw[ha]at ha';cases ha'
   exact .inl ⟨_,_,_,_,rfl,.lst hx,jO .list T hT0,fin⟩
  ·rename_i ws hS
   obtain⟨a',ha',xs,hx,la⟩:=sr1.get hS
   rw[ha]at ha';cases ha'
   exact .inl ⟨_,_,_,_,rfl,.dK hx,jO .dict T hT0,fin⟩
 |kl ns=>cases ht
def cBM(f:U->List U->Sto->Option (U×Sto))(co:CE)(cr:CA):CE:=fun ρ S=>(co ρ S).bind fun p=>match p.1 with
 |.ref l=>match p.2[l]? with
  |some (.lst _)=>(cr ρ p.2).bind fun q=>f p.1 q.1 q.2
  |_=>none
 |_=>none
def MtP(K:Q5)(r:V->List V->Hp->VK->Prop)(f:U->List U->Sto->Option (U×Sto)):Prop:=
 ∀m S H x v us vs u S' Q,Sr K m S H->Is K m H v x->IsL K m H vs us->f x us S=some (u,S')->hJ K m H Q u S'->r v vs H Q
theorem rB{r:V->List V->Hp->VK->Prop}{f:U->List U->Sto->Option (U×Sto)}{co:CE}{cr:CA}(hp:MtP K r f):∀σ H Q,tE K (cBM f co cr) σ H Q->tBM K "list" r (tE K co) (tA K cr) σ H Q:=by
 rintro σ H Q ⟨m,ρ,S,u,S',sr,lr,hc,post⟩
 obtain⟨⟨x,S1⟩,h1,h2⟩:=Q3.mp hc
 refine⟨m,ρ,S,x,S1,sr,lr,h1,fun m1 v1 H1 e1 sr1 i1=>?_⟩
 cases x with
 |ref l=>
  simp only at h2
  split at h2<;>try cases h2
  rename_i ws hS
  obtain⟨⟨us,S2⟩,h3,h4⟩:=Q3.mp h2
  obtain⟨a,ha,rfl⟩:=id i1.of_ref
  obtain⟨a',ha',xs,hx,la⟩:=sr1.get hS
  rw[ha]at ha';cases ha'
  exact⟨.inl ⟨rfl,xs,SqL.of hx⟩,m1,ρ,S1,us,S2,sr1,lr.mono e1,h3,fun m2 vs H2 e2 sr2 i2=>hp m2 S2 H2 _ _ us vs u S' Q sr2 (i1.mono e2) i2 h4 (post.mono (e1.trans e2))⟩
 |_=>simp at h2
def bY:U->List U->Sto->Option (U×Sto)
 |.ref l,[u],S=>match S[l]? with
  |some (.lst us)=>if us.length<LIM then some (.non,S.set l (.lst (us++[u])))else none
  |_=>none
 |_,_,_=>none
theorem yf:MtP K uw bY:=by
 intro m S H x v us vs u S' Q sr ix i hf post
 match x,us,hf with
 |.ref l,[w],hf=>
  simp only[bY]at hf
  split at hf<;>try cases hf
  rename_i ws hS
  split at hf<;>try cases hf
  rename_i hl
  obtain⟨a,ha,rfl⟩:=ix.of_ref
  obtain⟨a',ha',xs,hx,la⟩:=sr.get hS
  rw[ha]at ha';cases ha'
  obtain⟨y,rfl,iy⟩:=i.one
  have eu:Ext K m H m (upd H a (.lst (xs++[y]))):=.of (sr.keep ha _)
  exact⟨a,xs,y,rfl,rfl,hx,EX (by rw[la.length];exact hl),post m _ _ eu (sr.put ha ⟨_,aJ,(la.append (.cons_ iy .nil_)).mono eu⟩) .non_⟩
variable{e:Expr}{es:List Expr}{co:CE}{cr:CA}{o:Expr}{apos cpos:Pos}
theorem eL (ho : QE X o co) (ha : QA X (e :: es) cr) (hbase : attributeBase o "append" X.env (eval o X.env) = eval o X.env := by rfl) (hfew : ((backTo cpos (starEach (e :: es) X.env)).all (fun x => !x.1) && (backToKw cpos (keywordEach [] X.env)).all (fun x => x.1.isSome)
   && decide ((e::es).length+([]:List Keyword).length+(if ([]:List Keyword).isEmpty then 0 else 1)<30))=true:=by rfl) (hline:(apos.endLine == cpos.line)=true:=by rfl) (hs:starEach (e::es) X.env=(false,eval e X.env)::starEach es X.env:=by rfl) (hplain:(backTo cpos (starEach es X.env)).any (·.1)=false:=by rfl) :
  QE X (.Call (.Attribute o "append" apos) (e::es) [] cpos) (cBM bY co cr):=(pT PySem.F.plainAttrs_list PySem.F.slot_list_append PySem.F.type_list_append gR ho ha.h hbase hfew hline hs hplain).imp (rB yf)
end
def SI:Bool->Heap->Addr->Addr->Nat->Prop
 |true,h,it,a,i=>h.IsListIter it a i
 |false,h,it,a,i=>h.IsTupleIter it a i
def SA:Bool->Heap->Addr->Array Value->Prop
 |true,h,a,xs=>h.IsList a xs
 |false,h,a,xs=>h.IsTuple a xs
theorem SI.at_{b:Bool}{h h':Heap}{it a:Addr}{i:Nat}(x:SI b h it a i)(k:∀o,h.get? it=some o->h'.get? it=some o):SI b h' it a i:=by
 cases b with
 |true=>obtain⟨o,e,r⟩:=x;exact⟨o,k o e,r⟩
 |false=>obtain⟨o,e,r⟩:=x;exact⟨o,k o e,r⟩
theorem SA.at_{b:Bool}{h h':Heap}{a:Addr}{xs:Array Value}(x:SA b h a xs)(k:∀o,h.get? a=some o->h'.get? a=some o):SA b h' a xs:=by
 cases b with
 |true=>obtain⟨o,e,r⟩:=x;exact⟨o,k o e,r⟩
 |false=>obtain⟨o,e,r⟩:=x;exact⟨o,k o e,r⟩
theorem SI.obj{b:Bool}{h:Heap}{it a:Addr}{i:Nat}(x:SI b h it a i):∃o,h.get? it=some o/\∀v,o.data≠.cell v:=by
 cases b with
 |true=>obtain⟨o,e,c,d⟩:=x;exact⟨o,e,fun v z=>by rw[d]at z;cases z⟩
 |false=>obtain⟨o,e,c,d⟩:=x;exact⟨o,e,fun v z=>by rw[d]at z;cases z⟩
theorem SA.lt{b:Bool}{h:Heap}{a:Addr}{xs:Array Value}(x:SA b h a xs):a<h.objs.size:=by
 cases b with
 |true=>obtain⟨o,e,_⟩:=x;exact QX e
 |false=>obtain⟨o,e,_⟩:=x;exact QX e
section
variable{prog:Program}{w:World}{A:Around}{E:Value->Shared->Prop}{s:Shared}
theorem xC{I t:Addr}{j:Nat}{ys:Array Value}{y:Value}{Q:Value->Shared->Prop}(hI:s.heap.IsTupleIter I t j)(hT:s.heap.IsTuple t ys)(hy:ys[j]?=some y)
  (k:∀h',h'.IsTupleIter I t (j+1)->Ze I s.heap h'->Q y { s with heap:=h' }):wpAny (model prog w) A (Builtin.SmallTypes.nextOf (.ref I)) Q E s:=by
 obtain⟨oi,gi,ci,di⟩:=id hI
 obtain⟨ot,gt,_,nt,dt⟩:=hT
 unfold Builtin.SmallTypes.nextOf
 refine Q2 (wpAny_callSpecial?_slot (name:=Str.ofString "__next__") hI.typeIs PySem.F.slot_tuple_iterator_next (wpAny_call_entry PySem.F.slot_tuple_iterator_next hI.typeIs PySem.F.entry_tuple_iterator_next ?_ (PySem.F.args_tuple_iterator_next_1 _)))
 show wpAny _ _ (field (.ref I) 0 >>= _) _ _ s
 refine Q2 (Qh gi di (x:=.ref t) rfl ?_)
 show wpAny _ _ (ite ((Value.ref t == Value.none)=true) _ _) _ _ s
 rw[if_neg (by exact QF)]
 show wpAny _ _ (field (.ref I) 1 >>= _) _ _ s
 refine Q2 (Qh gi di (x:=.int j 0) rfl ?_)
 show wpAny _ _ (seqItems? (.ref t) >>= _) _ _ s
 refine Q2 (wpAny_seqItems gt dt ?_)
 simp only[hy,Z3]
 refine Q2 (wpAny_setField gi di (by simp) (Q8 ⟨y,rfl,Q8 (k _ ⟨_,ZU _ gi (Obj.isFreed_of_fields (Obj.data_mapFields di _)),(Obj.cls_mapFields ..).trans ci,?_⟩ (Heap.SameBut.update ..))⟩))
 rw[Obj.data_mapFields di];simp[rawInt]
theorem mW{I t:Addr}{j:Nat}{ys:Array Value}{Q:Value->Shared->Prop}(hh:A.handled=none)(hI:s.heap.IsTupleIter I t j)(hT:s.heap.IsTuple t ys)(hy:ys[j]?=none)
  (k:∀h' e,Heap.ExtBut I s.heap h'->(∃o,h'.get? e=some o/\o.cls=.type "StopIteration")->E (.ref e) { s with heap:=h' }):wpAny (model prog w) A (Builtin.SmallTypes.nextOf (.ref I)) Q E s:=by
 obtain⟨oi,gi,ci,di⟩:=id hI
 obtain⟨ot,gt,_,nt,dt⟩:=hT
 unfold Builtin.SmallTypes.nextOf
 refine Q2 (wpAny_callSpecial?_slot (name:=Str.ofString "__next__") hI.typeIs PySem.F.slot_tuple_iterator_next (wpAny_call_entry PySem.F.slot_tuple_iterator_next hI.typeIs PySem.F.entry_tuple_iterator_next ?_ (PySem.F.args_tuple_iterator_next_1 _)))
 show wpAny _ _ (field (.ref I) 0 >>= _) _ _ s
 refine Q2 (Qh gi di (x:=.ref t) rfl ?_)
 show wpAny _ _ (ite ((Value.ref t == Value.none)=true) _ _) _ _ s
 rw[if_neg (by exact QF)]
 show wpAny _ _ (field (.ref I) 1 >>= _) _ _ s
 refine Q2 (Qh gi di (x:=.int j 0) rfl ?_)
 show wpAny _ _ (seqItems? (.ref t) >>= _) _ _ s
 refine Q2 (wpAny_seqItems gt dt ?_)
 simp only[hy,Z3]
 refine Q2 (wpAny_rule (Q2 (wpAny_setField gi di (by simp) ?_)))
 show wpAny _ _ (newExc (.type "StopIteration") [] >>= _) _ _ _
 simp only[newExc,newTuple];refine Q2 ?_
 refine Q2 (wpAny_newObj_type ?_ (by(size_fits)))
 refine Q2 (m:=firstArgMember _ _) (wpAny_of_eq (a:=Value.none) (by simp only[firstArgMember]<;>rfl) ?_)
 refine wpAny_newObj_type ?_ (by(size_fits))
 simp only[raiseNew]
 refine Q2 (wpAny_handled ?_)
 rw[show A.in1.handled=none from hh]
 exact Q2 (Q8 (wpAny_throw (k _ _ (((Heap.SameBut.update ..).extBut.push _).push _) ⟨_,QY _ rfl,rfl⟩)))
theorem cZ{b:Bool}{I t:Addr}{j:Nat}{ys:Array Value}{y:Value}{Q:Value->Shared->Prop}(hI:SI b s.heap I t j)(hT:SA b s.heap t ys)(hy:ys[j]?=some y)
  (k:∀h',SI b h' I t (j+1)->Ze I s.heap h'->Q y { s with heap:=h' }):wpAny (model prog w) A (Builtin.SmallTypes.nextOf (.ref I)) Q E s:=by
 cases b with
 |true=>exact wpAny_nextOf_list_item hI hT hy k
 |false=>exact xC hI hT hy k
theorem bH{b:Bool}{I t:Addr}{j:Nat}{ys:Array Value}{Q:Value->Shared->Prop}(hh:A.handled=none)(hI:SI b s.heap I t j)(hT:SA b s.heap t ys)(hy:ys[j]?=none)
  (k:∀h' e,Heap.ExtBut I s.heap h'->(∃o,h'.get? e=some o/\o.cls=.type "StopIteration")->E (.ref e) { s with heap:=h' }):wpAny (model prog w) A (Builtin.SmallTypes.nextOf (.ref I)) Q E s:=by
 cases b with
 |true=>exact wpAny_nextOf_list_end hh hI hT hy k
 |false=>exact mW hh hI hT hy k
structure ZA(z I O i j a c:Addr):Prop where
 Iz:I≠z
 Oz:O≠z
 iz:i≠z
 jz:j≠z
 IO:I≠O
 Ii:I≠i
 Ij:I≠j
 Oi:O≠i
 Oj:O≠j
 ij:i≠j
 az:a≠z
 aO:a≠O
 ai:a≠i
 aj:a≠j
 cz:c≠z
 cO:c≠O
 ci:c≠i
 cj:c≠j
structure ZSt(b d:Bool)(h:Heap)(z I O i j a c:Addr)(f:Value)(n:Nat):Prop where
 hz:IsZip h z I O f
 hI:IsPair h I (.ref i) (.ref j)
 hO:∃p q,IsPair h O p q
 h1:SI b h i a n
 h2:SI d h j c n
theorem ZSt.at_{b d:Bool}{h h':Heap}{z I O i j a c:Addr}{f:Value}{n:Nat}(x:ZSt b d h z I O i j a c f n)(k:∀e∈[z,I,O,i,j],∀o,h.get? e=some o->h'.get? e=some o):ZSt b d h' z I O i j a c f n:=by
 obtain⟨p,q,hO⟩:=x.hO
 exact⟨k z (by simp) _ x.hz,k I (by simp) _ x.hI,⟨p,q,k O (by simp) _ hO⟩,x.h1.at_ fun o e=>k i (by simp) o e,x.h2.at_ fun o e=>k j (by simp) o e⟩
theorem wZ{b d:Bool}{z I O i j a c:Addr}{n:Nat}{xs ys:Array Value}{x y:Value}{Q:Value->Shared->Prop}(D:ZA z I O i j a c)(st:ZSt b d s.heap z I O i j a c .none n)(ha:SA b s.heap a xs)(hc:SA d s.heap c ys)(hx:xs[n]?=some x)(hy:ys[n]?=some y)
  (k:∀h',ZSt b d h' z I O i j a c (rawInt s.heap.objs.size) (n+1)->IsPair h' s.heap.objs.size x y->
   (∀e o,e≠z->e≠O->e≠i->e≠j->s.heap.get? e=some o->h'.get? e=some o)->Q (.ref s.heap.objs.size) { s with heap:=h' }) :
  wpAny (model prog w) A (Builtin.«zip.__next__» ⟨[.ref z],[]⟩) (fun fin s'=>∃v,fin=.done (.ret v)/\Q v s') E s:=by
 obtain⟨hz,hI,⟨p,q,hO⟩,h1,h2⟩:=st
 show wpAny _ _ (field (.ref z) 2 >>= _) _ _ _
 refine Q2 (Qh hz rfl (x:=.bool false) rfl ?_)
 show wpAny _ _ (field (.ref z) 3 >>= _) _ _ _
 refine Q2 (Qh hz rfl (x:=.ref I) rfl ?_)
 refine Q2 (wpAny_seqItems hI rfl ?_)
 show wpAny _ _ (Builtin.SmallTypes.ownedTupleIsFree (.ref z) >>= _) _ _ _
 refine Q2 ?_
 unfold Builtin.SmallTypes.ownedTupleIsFree
 refine Q2 (Qh hz rfl (x:=.none) rfl (Q8 ?_))
 simp only[if_true]
 refine Q2 (wpAny_rule (Q2 (Qh hz rfl (x:=.ref O) rfl (Q2 (wpAny_setField_rec hz (by simp) fun g1 z1 s1=>Q2 ?_)))))
 replace z1:IsZip g1 z I O .ellipsis:=z1
 simp only[List.zipIdx_nil,List.zipIdx_cons,ZF,ZI]
 refine Q2 (Q2 (wpAny_onRaise ?_))
 show wpAny _ _ (Builtin.SmallTypes.nextOf (.ref i) >>= _) _ _ _
 refine Q2 (cZ (b:=b) (h1.at_ fun o e=>s1.extBut _ _ D.iz e) (ha.at_ fun o e=>s1.extBut _ _ D.az e) hx fun g2 i2 s2=>Q8 ?_)
 have O2:IsPair g2 O p q:=s2.extBut _ _ D.Oi (s1.extBut _ _ D.Oz hO)
 refine Q2 (wpAny_seqItems O2 rfl (Q2 (wpAny_updateSeq_pair O2 fun g3 O3 s3=>?_)))
 replace O3:IsPair g3 O x q:=O3
 refine Q2 (wpAny_letGo (Q8 (Q2 (Q2 (wpAny_onRaise ?_)))))
 show wpAny _ _ (Builtin.SmallTypes.nextOf (.ref j) >>= _) _ _ _
 have up3:∀e o,e≠z->e≠i->e≠O->s.heap.get? e=some o->g3.get? e=some o:=fun e o u1 u2 u3 q=>s3.extBut _ _ u3 (s2.extBut _ _ u2 (s1.extBut _ _ u1 q))
 refine Q2 (cZ (b:=d) (h2.at_ fun o e=>up3 _ _ D.jz D.ij.symm D.Oj.symm e) (hc.at_ fun o e=>up3 _ _ D.cz D.ci D.cO e) hy fun g4 j4 s4=>Q8 ?_)
 have O4:IsPair g4 O x q:=s4.extBut _ _ D.Oj O3
 refine Q2 (wpAny_seqItems O4 rfl (Q2 (wpAny_updateSeq_pair O4 fun g5 O5 s5=>?_)))
 replace O5:IsPair g5 O x y:=O5
 refine Q2 (wpAny_letGo (Q8 (Q8 (Q2 (wpAny_seqItems O5 rfl (Q2 (wpAny_newTuple ?_)))))))
 have sz:g5.objs.size=s.heap.objs.size:=by rw[s5.1,s4.1,s3.1,s2.1,s1.1]
 have z5:IsZip g5 z I O .ellipsis:=s5.extBut _ _ D.Oz.symm (s4.extBut _ _ D.jz.symm (s3.extBut _ _ D.Oz.symm (s2.extBut _ _ D.iz.symm z1)))
 have up5:∀e o,e≠z->e≠O->e≠i->e≠j->s.heap.get? e=some o->g5.get? e=some o:=fun e o u1 u2 u3 u4 q=>s5.extBut _ _ u2 (s4.extBut _ _ u4 (up3 e o u1 u3 u2 q))
 have i5:SI b g5 i a (n+1):=i2.at_ fun o e=>s5.extBut _ _ D.Oi.symm (s4.extBut _ _ D.ij (s3.extBut _ _ D.Oi.symm e))
 have j5:SI d g5 j c (n+1):=j4.at_ fun o e=>s5.extBut _ _ D.Oj.symm e
 have zlt:z<g5.objs.size:=QX z5
 show wpAny _ _ (Builtin.SmallTypes.ownedTupleHandOut (.ref z) (.ref g5.objs.size) >>= _) _ _ _
 refine Q2 ?_
 unfold Builtin.SmallTypes.ownedTupleHandOut
 have z6:IsZip (g5.push { cls:=.type "tuple",data:=.seq #[x,y] }) z I O .ellipsis:=Q4 _ z5
 refine Q2 (wpAny_setField_rec z6 (by simp) fun g7 z7 s7=>?_)
 replace z7:IsZip g7 z I O (rawInt g5.objs.size):=z7
 refine wpAny_setField_rec z7 (by simp) fun g8 z8 s8=>?_
 replace z8:IsZip g8 z I O (rawInt g5.objs.size):=z8
 have up8:∀e o,e≠z->g5.get? e=some o->g8.get? e=some o:=fun e o u1 q=>s8.extBut _ _ u1 (s7.extBut _ _ u1 (Q4 _ q))
 have T8:IsPair g8 g5.objs.size x y:=s8.extBut _ _ (ZS zlt) (s7.extBut _ _ (ZS zlt) (QY _ rfl))
 rw[sz]at z8 T8
 refine Q8 ⟨_,rfl,?_⟩
 show Q (.ref g5.objs.size) _
 rw[sz]
 exact k g8 ⟨z8,up8 _ _ D.Iz (up5 _ _ D.Iz D.IO D.Ii D.Ij hI),⟨x,y,up8 _ _ D.Oz O5⟩,i5.at_ fun o e=>up8 _ _ D.iz e,j5.at_ fun o e=>up8 _ _ D.jz e⟩ T8 fun e o u1 u2 u3 u4 q=>up8 e o u1 (up5 e o u1 u2 u3 u4 q)
theorem w9{b d:Bool}{z I O i j a c:Addr}{n:Nat}{xs ys:Array Value}{Q:PySem.Fin->Shared->Prop}(hh:A.handled=none)(D:ZA z I O i j a c)(st:ZSt b d s.heap z I O i j a c .none n)(ha:SA b s.heap a xs)(hc:SA d s.heap c ys)(hn:xs[n]?=none\/ys[n]?=none)
  (k:∀h' e,(∀c o,c≠z->c≠O->c≠i->c≠j->s.heap.get? c=some o->h'.get? c=some o)->(∃o,h'.get? e=some o/\o.cls=.type "StopIteration")->E (.ref e) { s with heap:=h' }) :
  wpAny (model prog w) A (Builtin.«zip.__next__» ⟨[.ref z],[]⟩) Q E s:=by
 obtain⟨hz,hI,⟨p,q,hO⟩,h1,h2⟩:=st
 show wpAny _ _ (field (.ref z) 2 >>= _) _ _ _
 refine Q2 (Qh hz rfl (x:=.bool false) rfl ?_)
 show wpAny _ _ (field (.ref z) 3 >>= _) _ _ _
 refine Q2 (Qh hz rfl (x:=.ref I) rfl ?_)
 refine Q2 (wpAny_seqItems hI rfl ?_)
 show wpAny _ _ (Builtin.SmallTypes.ownedTupleIsFree (.ref z) >>= _) _ _ _
 refine Q2 ?_
 unfold Builtin.SmallTypes.ownedTupleIsFree
 refine Q2 (Qh hz rfl (x:=.none) rfl (Q8 ?_))
 simp only[if_true]
 refine Q2 (wpAny_rule (Q2 (Qh hz rfl (x:=.ref O) rfl (Q2 (wpAny_setField_rec hz (by simp) fun g1 z1 s1=>Q2 ?_)))))
 replace z1:IsZip g1 z I O .ellipsis:=z1
 simp only[List.zipIdx_nil,List.zipIdx_cons,ZF,ZI]
 refine Q2 (Q2 (wpAny_onRaise ?_))
 show wpAny _ _ (Builtin.SmallTypes.nextOf (.ref i) >>= _) _ _ _
 cases hx:xs[n]? with
 |none=>
  refine Q2 (bH (b:=b) hh (h1.at_ fun o e=>s1.extBut _ _ D.iz e) (ha.at_ fun o e=>s1.extBut _ _ D.az e) hx fun g2 e s2 he=>?_)
  obtain⟨oe,ge,ce⟩:=he
  have z2:IsZip g2 z I O .ellipsis:=s2 _ _ D.iz.symm z1
  have nez:e≠z:=fun v=>by subst v;rw[z2]at ge;cases ge;simp at ce
  exact wpAny_setField_rec z2 (by simp) fun g3 _ s3=>k g3 e (fun c o u1 _ u3 _ v=>s3.extBut _ _ u1 (s2 _ _ u3 (s1.extBut _ _ u1 v))) ⟨oe,s3.extBut _ _ nez ge,ce⟩
 |some x=>
  have hy:ys[n]?=none:=by rcases hn with v|v;rw[hx]at v;cases v;exact v
  refine Q2 (cZ (b:=b) (h1.at_ fun o e=>s1.extBut _ _ D.iz e) (ha.at_ fun o e=>s1.extBut _ _ D.az e) hx fun g2 i2 s2=>Q8 ?_)
  have O2:IsPair g2 O p q:=s2.extBut _ _ D.Oi (s1.extBut _ _ D.Oz hO)
  refine Q2 (wpAny_seqItems O2 rfl (Q2 (wpAny_updateSeq_pair O2 fun g3 O3 s3=>?_)))
  refine Q2 (wpAny_letGo (Q8 (Q2 (Q2 (wpAny_onRaise ?_)))))
  show wpAny _ _ (Builtin.SmallTypes.nextOf (.ref j) >>= _) _ _ _
  have up3:∀e o,e≠z->e≠i->e≠O->s.heap.get? e=some o->g3.get? e=some o:=fun e o u1 u2 u3 q=>s3.extBut _ _ u3 (s2.extBut _ _ u2 (s1.extBut _ _ u1 q))
  refine Q2 (bH (b:=d) hh (h2.at_ fun o e=>up3 _ _ D.jz D.ij.symm D.Oj.symm e) (hc.at_ fun o e=>up3 _ _ D.cz D.ci D.cO e) hy fun g4 e s4 he=>?_)
  obtain⟨oe,ge,ce⟩:=he
  have z4:IsZip g4 z I O .ellipsis:=s4 _ _ D.jz.symm (s3.extBut _ _ D.Oz.symm (s2.extBut _ _ D.iz.symm z1))
  have nez:e≠z:=fun v=>by subst v;rw[z4]at ge;cases ge;simp at ce
  exact wpAny_setField_rec z4 (by simp) fun g5 _ s5=>k g5 e (fun c o u1 u2 u3 u4 v=>s5.extBut _ _ u1 (s4 _ _ u4 (up3 c o u1 u3 u2 v))) ⟨oe,s5.extBut _ _ nez ge,ce⟩
theorem xb{b d:Bool}{z I O i j a c:Addr}{n:Nat}{xs ys:Array Value}{x y:Value}{Q:Option Value->Shared->Prop}(D:ZA z I O i j a c)(st:ZSt b d s.heap z I O i j a c .none n)(ha:SA b s.heap a xs)(hc:SA d s.heap c ys)(hx:xs[n]?=some x)(hy:ys[n]?=some y)
  (k:∀h',ZSt b d h' z I O i j a c (rawInt s.heap.objs.size) (n+1)->IsPair h' s.heap.objs.size x y->
   (∀e o,e≠z->e≠O->e≠i->e≠j->s.heap.get? e=some o->h'.get? e=some o)->Q (some (.ref s.heap.objs.size)) { s with heap:=h' }):wpAny (model prog w) A (pyNext (.ref z)) Q E s:=by
 have ty:s.TypeIs (.ref z) "zip":=⟨_,st.hz,rfl⟩
 unfold pyNext
 exact Q2 (wpAny_attempt (wpAny_callSpecial?_slot (name:=Str.ofString "__next__") ty PySem.F.slot_zip_next (wpAny_call_entry PySem.F.slot_zip_next ty PySem.F.entry_zip_next
   (wZ D st ha hc hx hy fun h' a1 a2 a3=>Q8 (k h' a1 a2 a3)) (PySem.F.args_zip_next_1 _))))
theorem An{b d:Bool}{z I O i j a c:Addr}{n:Nat}{xs ys:Array Value}{Q:Option Value->Shared->Prop}(hh:A.handled=none)(D:ZA z I O i j a c)(st:ZSt b d s.heap z I O i j a c .none n)(ha:SA b s.heap a xs)(hc:SA d s.heap c ys)(hn:xs[n]?=none\/ys[n]?=none)
  (k:∀h',(∀c o,c≠z->c≠O->c≠i->c≠j->s.heap.get? c=some o->h'.get? c=some o)->Q none { s with heap:=h' }):wpAny (model prog w) A (pyNext (.ref z)) Q E s:=by
 have ty:s.TypeIs (.ref z) "zip":=⟨_,st.hz,rfl⟩
 unfold pyNext
 refine Q2 (wpAny_attempt (wpAny_callSpecial?_slot (name:=Str.ofString "__next__") ty PySem.F.slot_zip_next (wpAny_call_entry PySem.F.slot_zip_next ty PySem.F.entry_zip_next
   (w9 hh D st ha hc hn fun h' e hk he=>?_) (PySem.F.args_zip_next_1 _))))
 obtain⟨o,ho,co⟩:=he
 exact Q2 (wpAny_isInstance (T:="StopIteration") (b:=true) ⟨o,ho,co⟩ isSubtype_stop (Q8 (k _ hk)))
def itO(b:Bool)(a:Addr):Obj:={ cls:=.type (if b then "list_iterator" else "tuple_iterator"),data:=.fields #[.ref a,.int 0 0] }
abbrev zG2(b d:Bool)(h:Heap)(a c:Addr):Heap:=(h.push (itO b a)).push (itO d c)
abbrev zG4(b d:Bool)(h:Heap)(a c:Addr):Heap:=((zG2 b d h a c).push { cls:=.type "tuple",data:=.seq #[.ref h.objs.size,.ref (h.push (itO b a)).objs.size] }).push { cls:=.type "tuple",data:=.seq #[.none,.none] }
abbrev zG5(b d:Bool)(h:Heap)(a c:Addr):Heap:=(zG4 b d h a c).push { cls:=.type "zip",data:=.fields #[.none,.bool false,.bool false,.ref (zG2 b d h a c).objs.size,.ref ((zG2 b d h a c).push { cls:=.type "tuple",data:=.seq #[.ref h.objs.size,.ref (h.push (itO b a)).objs.size] }).objs.size] }
theorem Am (b d : Bool) (a c : Addr) (xs ys : Array Value) : Meets (Builtin.«zip.__new__» ⟨[.type "zip", .ref a, .ref c], []⟩) (fun _ R s => SA b s.heap a xs /\ SA d s.heap c ys /\
   R (.ok (.ret (.ref (zG4 b d s.heap a c).objs.size))) { s with heap:=zG5 b d s.heap a c }):=
 .of_wp fun prog w A R s q=>by
  obtain⟨hp,g,dr,tk,os⟩:=s
  obtain⟨p1,p2,q⟩:=q
  have sb:=sub_zip
  cases b<;>cases d
  ·have e1:Heap.IsTuple (Shared.heap ⟨hp,g,dr,tk,os⟩) a xs:=p1
   have e2:Heap.IsTuple (Shared.heap ⟨hp.push { cls:=.type "tuple_iterator",data:=.fields #[.ref a,.int 0 0] },g,dr,tk,os⟩) c ys:=SA.at_ (b:=false) p2 fun o e=>Q4 _ e
   wp_walk using wpAny_pyIter_tuple e1,wpAny_pyIter_tuple e2
   exact⟨_,rfl,q⟩
  ·have e1:Heap.IsTuple (Shared.heap ⟨hp,g,dr,tk,os⟩) a xs:=p1
   have e2:Heap.IsList (Shared.heap ⟨hp.push { cls:=.type "tuple_iterator",data:=.fields #[.ref a,.int 0 0] },g,dr,tk,os⟩) c ys:=SA.at_ (b:=true) p2 fun o e=>Q4 _ e
   wp_walk using wpAny_pyIter_tuple e1,wpAny_pyIter_list e2
   exact⟨_,rfl,q⟩
  ·have e1:Heap.IsList (Shared.heap ⟨hp,g,dr,tk,os⟩) a xs:=p1
   have e2:Heap.IsTuple (Shared.heap ⟨hp.push { cls:=.type "list_iterator",data:=.fields #[.ref a,.int 0 0] },g,dr,tk,os⟩) c ys:=SA.at_ (b:=false) p2 fun o e=>Q4 _ e
   wp_walk using wpAny_pyIter_list e1,wpAny_pyIter_tuple e2
   exact⟨_,rfl,q⟩
  ·have e1:Heap.IsList (Shared.heap ⟨hp,g,dr,tk,os⟩) a xs:=p1
   have e2:Heap.IsList (Shared.heap ⟨hp.push { cls:=.type "list_iterator",data:=.fields #[.ref a,.int 0 0] },g,dr,tk,os⟩) c ys:=SA.at_ (b:=true) p2 fun o e=>Q4 _ e
   wp_walk using wpAny_pyIter_list e1,wpAny_pyIter_list e2
   exact⟨_,rfl,q⟩
theorem zK{b:Bool}{a i:Addr}{h:Heap}(e:h.get? i=some (itO b a)):SI b h i a 0:=by
 cases b with
 |true=>exact⟨_,e,rfl,rfl⟩
 |false=>exact⟨_,e,rfl,rfl⟩
theorem pN{b d:Bool}{a c:Addr}{xs ys:Array Value}{Q:Value->Shared->Prop}(ha:SA b s.heap a xs)(hc:SA d s.heap c ys)
  (k:∀h' z I O i j,ZA z I O i j a c->ZSt b d h' z I O i j a c .none 0->(∀e∈[z,I,O,i,j],s.heap.objs.size<=e)->(∀e o,s.heap.get? e=some o->h'.get? e=some o)->Q (.ref z) { s with heap:=h' }) :
  wpAny (model prog w) A (call (.type "zip") [.ref a,.ref c]) Q E s:=by
 refine callType_new PySem.F.called_zip (by decide) (PySem.F.typeCall_zip_2 _ _) (PySem.F.newCall_zip_2 _ _) (fun obj=>PySem.F.args_object_init_3 obj _ _) PySem.F.entry_zip_new (Am b d a c xs ys) ⟨ha,hc,?_⟩
 have n1:(s.heap.push (itO b a)).objs.size=s.heap.objs.size+1:=Z7 ..
 have n2:(zG2 b d s.heap a c).objs.size=s.heap.objs.size+2:=by rw[Z7,n1]
 have n3:((zG2 b d s.heap a c).push { cls:=.type "tuple",data:=.seq #[.ref s.heap.objs.size,.ref (s.heap.push (itO b a)).objs.size] }).objs.size=s.heap.objs.size+3:=by rw[Z7,n2]
 have n4:(zG4 b d s.heap a c).objs.size=s.heap.objs.size+4:=by rw[Z7,n3]
 have p5:(zG5 b d s.heap a c).get? (zG4 b d s.heap a c).objs.size=some _:=QY _ rfl
 have p4:(zG5 b d s.heap a c).get? ((zG2 b d s.heap a c).push { cls:=.type "tuple",data:=.seq #[.ref s.heap.objs.size,.ref (s.heap.push (itO b a)).objs.size] }).objs.size=some _:=Q4 _ (QY _ rfl)
 have p3:(zG5 b d s.heap a c).get? (zG2 b d s.heap a c).objs.size=some _:=Q4 _ (Q4 _ (QY _ rfl))
 have p2:(zG5 b d s.heap a c).get? (s.heap.push (itO b a)).objs.size=some _:=Q4 _ (Q4 _ (Q4 _ (QY _ rfl)))
 have p1:(zG5 b d s.heap a c).get? s.heap.objs.size=some _:=Q4 _ (Q4 _ (Q4 _ (Q4 _ (QY _ rfl))))
 have la:=ha.lt
 have lc:=hc.lt
 rw[n4,n2,n3]at p5
 rw[n2,n1]at p3
 rw[n3]at p4
 rw[n1]at p2
 show _/\_
 rw[n4]
 refine⟨⟨_,p5,rfl⟩,k _ (s.heap.objs.size+4) (s.heap.objs.size+2) (s.heap.objs.size+3) s.heap.objs.size (s.heap.objs.size+1) ⟨?_,?_,?_,?_,?_,?_,?_,?_,?_,?_,?_,?_,?_,?_,?_,?_,?_,?_⟩ ⟨p5,p3,⟨_,_,p4⟩,zK p1,zK p2⟩ (fun e he=>?_) fun e o x=>Q4 _ (Q4 _ (Q4 _ (Q4 _ (Q4 _ x))))⟩
 case refine_19=>
  simp only[QM,Z5,or_false]at he
  rcases he with e1|e1|e1|e1|e1<;>rw[e1]<;>first|exact QJ _|exact Nat.le_add_right _ _
 all_goals first|exact QC (by omega)|exact ZS (by omega)|exact QC (Qq la (by omega))|exact QC (Qq lc (by omega))
end
def Sq(K:Q5):Bool->Hp->Addr->List V->Prop
 |true,H,a,xs=>SqL K H a xs
 |false,H,a,xs=>SqT K H a xs
section
variable{X:Cx}{pins:List (Addr×Obj)}{σ:L2.St}{H:Hp}{s:Shared}{h':Heap}
theorem _root_.L2.Inv.turnedL{t':Nat}{ch:List Addr}(I:Inv X pins σ H s)(k:∀b o,b∉ch->s.heap.get? b=some o->h'.get? b=some o)(hf:∀b∈ch,pL X pins H b):Inv X pins σ H { s with heap:=h',toks:=t' }:=by
 have nit:∀b u,H b=some u->b∉ch:=fun b u e z=>by rw[(hf b z).1]at e;cases e
 refine I.step (g':=s.gens) (d':=s.drawn) (ch:=ch) (fun b hb=>⟨(hf b hb).2.2.2.1,(hf b hb).2.1,(hf b hb).2.2.2.2.1,(hf b hb).2.2.2.2.2⟩) (fun b o _ _ hc e _=>k b o hc e) (fun b o _ _ hc e _=>⟨o.slots,k b o hc e⟩) (fun _ _ _ _ n=>n)
  (fun b o hc e=>⟨o,k b o hc e⟩) (fun _ _ e=>e) (fun _ _ _ e=>e) (fun b ps e=>⟨#[],by rw[e];simp⟩) (fun m hm=>?_) (fun b u e=>?_) I.bare
 ·obtain⟨o,es,ep,ho,r⟩:=hm
  exact⟨o,es,ep,k _ o (fun z=>(hf _ z).2.1 rfl) ho,r⟩
 ·refine(I.hok b u e).stay (fun c v hc q=>k c v ?_ q) (fun _ q=>q) fun _ _ q=>q
  rcases hc with z|z
  ·rw[z];exact nit b u e
  ·exact nit c _ z
theorem _root_.L2.Inv.sq{b:Bool}{a:Addr}{xs:List V}(I:Inv X pins σ H s)(h:Sq X.K b H a xs):∃its:List Value,a5 xs its/\SA b s.heap a its.toArray:=by
 cases b with
 |true=>obtain⟨its,r,p,_⟩:=I.list h;exact⟨its,r,p.isList⟩
 |false=>obtain⟨its,r,p,_⟩:=I.tuple h;exact⟨its,r,p⟩
theorem _root_.L2.Inv.sq_inj{b:Bool}{a:Addr}{xs ys:List V}(I:Inv X pins σ H s)(h:Sq X.K b H a xs)(h2:Sq X.K b H a ys):xs=ys:=by
 cases b with
 |true=>exact I.list_inj h h2
 |false=>exact I.tuple_inj h h2
end
def Itz(K:Q5)(b d:Bool)(a c:Addr):It:=
  ⟨fun i H=>∃xs ys x y,Sq K b H a xs/\Sq K d H c ys/\xs[i]?=some x/\ys[i]?=some y,
   fun i H v H'=>∃p x y,v=.ref p/\H p=none/\H'=upd H p (.tup [x,y])/\(∀xs,Sq K b H a xs->xs[i]?=some x)/\∀ys,Sq K d H c ys->ys[i]?=some y,
   fun i H=>∃xs ys,Sq K b H a xs/\Sq K d H c ys/\(xs.length<=i\/ys.length<=i)⟩
theorem xP{h:Heap}{ob o:Obj}{e:Addr}(q:(h.push ob).get? e=some o)(ne:e≠h.objs.size):h.get? e=some o:=(Heap.get?_push_ne h e ob ne).symm.trans q
theorem qA{P:Program}{w:World}{H:Hp}{h:Heap}{a:Addr}{x y:V}{u v:Value}(e:h.get? a=some { cls:=.type "tuple",data:=.seq #[u,v] })(rx:bN x u)(ry:bN y v):bC P w H h a (.tup [x,y]):=
 ⟨by show 2<=sizeLine;decide,[u,v],.cons rx (.cons ry .nil),⟨_,e,rfl,_,rfl⟩⟩
def HC(K:Q5)(ta:TA):TI:=fun σ H R=>ta σ H fun vs H2=>∃b d a c,vs=[.ref a,.ref c]/\(∃xs,Sq K b H2 a xs)/\(∃ys,Sq K d H2 c ys)/\R (Itz K b d a c) H2
theorem rz:bootBuiltins "zip"=some (.type "zip"):=rfl
section
variable{X:Cx}{pos:Pos}
def sN:U->Sto->Option (List U×(Sto->Prop))
 |.tup us,_=>some (us,fun _=>True)
 |.ref l,S=>match S[l]? with
  |some (.lst us)=>some (us,fun S=>S[l]?=some (.lst us))
  |_=>none
 |_,_=>none
def jH(us ws:List U):List U:=(us.zip ws).map fun p=>.tup [p.1,p.2]
def C1(ca cb:CE):CI:=fun ρ S=>(ca ρ S).bind fun p=>(cb ρ p.2).bind fun q=>(sN p.1 q.2).bind fun x=>(sN q.1 q.2).bind fun y=>some (jH x.1 y.1,fun S=>x.2 S/\y.2 S,q.2)
theorem qi{K:Q5}{m:List Addr}{S:Sto}{H:Hp}{u:U}{v:V}{us:List U}{ok:Sto->Prop}(sr:Sr K m S H)(iu:Is K m H v u)(h:sN u S=some (us,ok)) :
  ∃b a,v=.ref a/\(∃xs,Sq K b H a xs)/\∀m2 S2 H2,Ext K m H m2 H2->Sr K m2 S2 H2->ok S2->∃xs,Sq K b H2 a xs/\IsL K m2 H2 xs us:=by
 cases u with
 |tup ws=>
  cases h
  obtain⟨a,xs,rfl,sq,il⟩:=iu.of_tup
  exact⟨false,a,rfl,⟨xs,sq⟩,fun m2 S2 H2 e _ _=>⟨xs,e.keep.t _ _ sq,il.mono e⟩⟩
 |ref l=>
  simp only[sN]at h
  split at h<;>try cases h
  rename_i us hS
  obtain⟨a,ha,rfl⟩:=iu.of_ref
  obtain⟨a',ha',xs,hx,il⟩:=sr.get hS
  rw[ha]at ha';cases ha'
  refine⟨true,a,rfl,⟨xs,SqL.of hx⟩,fun m2 S2 H2 e sr2 hok=>?_⟩
  obtain⟨a',ha',xs,hx,il⟩:=sr2.get hok
  rw[e.get ha]at ha';cases ha'
  exact⟨xs,SqL.of hx,il⟩
 |_=>simp[sN]at h
end
theorem nO:∀{vs:List Value} {ns:List Int},IntsAre vs ns->a5 (ns.map V.int) vs
 |_,_,.nil=>.nil
 |_,_,.cons n t r=>.cons ⟨t,rfl⟩ (nO r)
theorem fh:∀{ns:List Int} {vs:List Value},a5 (ns.map V.int) vs->IntsAre vs ns
 |[],_,h=>by cases h;exact .nil
 |n::ns,_,.cons r t=>by
  obtain⟨k,rfl⟩:=r
  exact .cons n k (fh t)
def uu(K:Q5):List V->Hp->VK->Prop:=fun xs H Q=>∃(p:Addr) (ns:List Int),xs=[.ref p]/\(SqL K H p (ns.map V.int)\/∃kvs,H p=some (.dK kvs)/\kvs.map (·.1)=ns.map Sum.inl)/\ns.length<64/\
 ∀(l:Addr) (ms:List Int),H l=none->ms.Perm ns->ms.Pairwise (·<=·)->Q (.ref l) (upd H l (.lst (ms.map V.int)))
theorem vt{κ:Type}:∀{kvs:List (κ×V)} {vs:List (κ×Value)},KV kvs vs->vs.map (·.1)=kvs.map (·.1)
 |_,_,.nil=>rfl
 |_,_,.cons r t=>by rw[Qx,Qx,vt t,r.1]
theorem vd{P:Program}{w:World}{H:Hp}{h:Heap}{a:Addr}{ms:List Int}{out:Array Value}{e:Nat}(g:h.get? a=some (seqObj "list" out e))(hI:IntsAre out.toList ms)(hl:ms.length<64):bC P w H h a (.lst (ms.map V.int)):=
 ⟨by rw[QZ];exact Nat.le_of_lt (Qq hl (by unfold sizeLine;decide)),out.toList,e,nO hI,by rw[Array.toArray_toList];exact g⟩
theorem qD{X:Cx}(hc:X.calm=true):cG X (.builtin "sorted") (uu X.K):=by
 rintro pins s σ H xs us Q I r ⟨p,ns,rfl,src,h64,q⟩
 obtain⟨u,rfl,ru⟩:=gC r
 cases ru
 rcases src with hL|⟨kvs,hD,hk⟩
 ·obtain⟨its,rv,pl,hz⟩:=I.list hL
  have hI:=fh rv
  have hlen:=rv.length
  rw[QZ]at hlen
  refine sorted_ints pl.isList hI (by omega) fun out ms a1 a2 a3=>?_
  obtain⟨e,ge⟩:=sortedAll_at s.heap its out
  have hf:=I.hok.fresh (Zm s.heap.objs.size)
  exact⟨.ref (s.heap.objs.size+1),_,I.laid (t':=s.toks) (fun b o e=>sortedAll_old e) (Zm _) (vd ge a1 (by rw[a2.length_eq];exact h64)),rfl,q _ ms hf a2 a3⟩
 ·obtain⟨z,hd,vs,rel,dd⟩:=FF I.hok hD
  obtain⟨ep,da⟩:=dd.dictAt
  have lkv:kvs.length=ns.length:=by have:=congrArg List.length hk;simpa using this
  have lv:vs.length=ns.length:=by rw[<-Paired.length rel];exact lkv
  have ks:vs.map (·.1)=ns.map Sum.inl:=by
   rw[<-hk];exact vt rel
  refine Calls.call_function_entry kind_sorted plain_sorted entry_sorted (args_sorted1 _) ?_
  unfold Builtin.«sorted»
  refine Q2 (m:=checkCount "sorted" 1 1 _) (Q8 (Q2 (PySem.W.kdu_collect (PySem.W.kdl_dict (kvs:=vs) (ep:=ep) hd) (show X.A.in1.handled=none from I.ok.hd hc) da (by rw[lv,<-lkv];exact z) fun h1 tk acc up hac=>?_)))
  have hla:acc.toList.length=ns.length:=by rw[QH,hac.1,lv]
  have hI:IntsAre acc.toList ns:=by
   have key:∀(i:Nat) (v:Value),acc.toList[i]?=some v->∃(n:Int) (t:Tok),ns[i]?=some n/\v=Value.int n t:=fun i v e=>by
    obtain⟨k,x,e1,e2⟩:=hac.2 i v (by rw[<-Qw];exact e)
    have e3:(vs.map (·.1))[i]?=some k:=by rw[Qv,e1];rfl
    rw[ks,Qv]at e3
    obtain⟨n,e4,e5⟩:=Qm.mp e3
    subst e5
    rcases bg (k:=Sum.inl n) e2 with⟨j,t,e6,e7⟩|⟨j,t,e6,e7⟩
    ·cases e6;exact⟨n,t,e4,e7⟩
    ·cases e6
   clear hac
   generalize acc.toList=L at key hla
   clear ks lv lkv h64 q hk
   induction L generalizing ns with
   |nil=>cases ns with
    |nil=>exact .nil
    |cons a b=>simp at hla
   |cons a b ih=>cases ns with
    |nil=>simp at hla
    |cons c d=>
     obtain⟨n,t,e1,e2⟩:=key 0 a (by simp)
     simp at e1;subst e1;subst e2
     exact .cons _ t (ih _ (fun i v e=>by have:=key (i+1) v (by simpa using e);simpa using this) (by simpa using hla))
  refine Q2 (wpAny_newList ?_ (by rw[hla,<-lkv];exact z))
  have gL:(h1.push { cls:=.type "list",data:=.seq acc.toList.toArray }).get? h1.objs.size=some (seqObj "list" acc.toList.toArray 0):=QY _ rfl
  refine Q2 (wpAny_holding (wpAny_call_entry slot_list_sort ⟨_,gL,rfl⟩ entry_list_sort (list_sort_tree (s:={ s with heap:=h1.push { cls:=.type "list",data:=.seq acc.toList.toArray },toks:=tk }) gL hI (by omega) fun out ms a1 a2 a3=>⟨_,rfl,?_⟩) (args_list_sort _)))
  obtain⟨e,ge⟩:=sortedHeap_at (out:=out) gL
  have I1:Inv X pins σ H { s with heap:=h1,toks:=tk }:=I.kept up
  have hf:=I1.hok.fresh (QJ h1.objs.size)
  refine Q8 ⟨_,rfl,.ref h1.objs.size,_,Inv.laid (s:={ s with heap:=h1,toks:=tk }) (h':=sortedHeap (h1.push { cls:=.type "list",data:=.seq acc.toList.toArray }) h1.objs.size acc.toList out) (t':=tk) I1 (fun b o g1=>?_) (QJ _) (vd ge a1 (by rw[a2.length_eq];exact h64)),rfl,q _ ms hf a2 a3⟩
  have g1:h1.get? b=some o:=g1
  have lt1:=QX g1
  rw[sortedHeap_old (QC lt1) (by rw[Z7];exact ZJ lt1)]
  exact Q4 _ g1
def dW(ns:List Int):List Int:=ns.mergeSort (fun a b=>decide (a<=b))
theorem kL(ns:List Int):(dW ns).Perm ns:=List.mergeSort_perm ..
theorem mZ(ns:List Int):(dW ns).Pairwise (·<=·):=by
 have:=List.pairwise_mergeSort (le:=fun(a b:Int)=>decide (a<=b)) (fun a b c h1 h2=>by simp at h1 h2 ⊢;omega) (fun a b=>by simp;omega) ns
 exact this.imp fun h=>by simpa using h
theorem qg{ns ms:List Int}(p:ms.Perm ns)(s:ms.Pairwise (·<=·)):ms=dW ns:=PySem.W.lks_uniq (p.trans (kL ns).symm) s (mZ ns)
def yB:List (Key×U)->Option (List Int)
 |[]=>some []
 |(.inl n,_)::r=>(yB r).map (n::·)
 |_=>none
theorem qS:∀{kus:List (Key×U)} {ns:List Int},yB kus=some ns->kus.map (·.1)=ns.map Sum.inl
 |[],ns,h=>by cases h;rfl
 |(k,u)::r,ns,h=>by
  cases k<;>simp only[yB]at h<;>try cases h
  obtain⟨ms,e,h⟩:=Qm.mp h
  subst h
  simp[qS e]
def fA:Fn
 |[.ref l],S=>match S[l]? with
  |some (.lst us)=>(mx us).bind fun ns=>if ns.length<64 then some (.ref S.length,S++[.lst ((dW ns).map U.int)])else none
  |some (.dic kus)=>(yB kus).bind fun ns=>if ns.length<64 then some (.ref S.length,S++[.lst ((dW ns).map U.int)])else none
  |_=>none
 |_,_=>none
theorem qB{K:Q5}:iY K (uu K) fA:=by
 intro m S H us vs u S' Q sr i hf post
 match us,hf with
 |[.ref l],hf=>
  obtain⟨v,rfl,iv⟩:=i.one
  obtain⟨a,ha,rfl⟩:=iv.of_ref
  simp only[fA]at hf
  split at hf<;>try cases hf
  ·rename_i ws hS
   obtain⟨ns,hn,h⟩:=Q3.mp hf
   split at h<;>try cases h
   have hc:ns.length<64:=by assumption
   obtain⟨a',ha',xs,hx,la⟩:=sr.get hS
   rw[ha]at ha';cases ha'
   rw[g9 hn]at la
   rw[la.ints]at hx
   refine⟨a,ns,rfl,.inl (SqL.of hx),hc,fun p ms hp pm sm=>?_⟩
   rw[qg pm sm]
   exact bP sr (fH _) post hp
  ·rename_i ws hS
   obtain⟨ns,hn,h⟩:=Q3.mp hf
   split at h<;>try cases h
   have hc:ns.length<64:=by assumption
   obtain⟨a',ha',kvs,hx,ip⟩:=sr.get hS
   rw[ha]at ha';cases ha'
   refine⟨a,ns,rfl,.inr ⟨kvs,hx,by rw[ip.1,qS hn]⟩,hc,fun p ms hp pm sm=>?_⟩
   rw[qg pm sm]
   exact bP sr (fH _) post hp
section
variable{ρ:Rho}{S:Sto}{c1 c2:CS}{t ta tb:CT}{ca cb cc:CE}{cr:CA}{u x y:U}{us:List U}{i l:Nat}{f g:U->U->Sto->Option (U×Sto)}{b:Bool}
def Im(S:Sto):Option (Option U)->Option (U×Sto)
 |some (some u)=>some (u,S)
 |_=>none
theorem Ap:ae i ρ S=Im S (ρ[i]?):=rfl
theorem sV:Im S (some (some u))=some (u,S):=rfl
theorem x_c:cC u ρ S=some (u,S):=rfl
def Hw(f:U->U->Sto->Option (U×Sto))(x:U)(q:U×Sto):=f x q.1 q.2
def Ir(f:U->U->Sto->Option (U×Sto))(cb:CE)(ρ:Rho)(p:U×Sto):=(cb ρ p.2).bind (Hw f p.1)
theorem iA:cOp f ca cb ρ S=(ca ρ S).bind (Ir f cb ρ):=rfl
theorem cI:Ir f cb ρ (x,S)=(cb ρ S).bind (Hw f x):=rfl
theorem cH:Hw f x (y,S)=f x y S:=rfl
def E7:U×Sto->Option (Bool×Sto)
 |(.bl b,S)=>some (b,S)
 |_=>none
theorem dD:aA ca ρ S=(ca ρ S).bind E7:=by
 unfold aA;congr 1;funext p;obtain⟨u,S⟩:=p;cases u<;>rfl
theorem jn:E7 (.bl b,S)=some (b,S):=rfl
def HA(tb:CT)(ρ:Rho)(p:Bool×Sto):=if p.1=true then tb ρ p.2 else some (false,p.2)
def kOr(tb:CT)(ρ:Rho)(p:Bool×Sto):=if p.1=true then some (true,p.2)else tb ρ p.2
def Iu(p:Bool×Sto):Option (Bool×Sto):=some (!p.1,p.2)
theorem AE:lH ta tb ρ S=(ta ρ S).bind (HA tb ρ):=rfl
theorem zg:HA tb ρ (true,S)=tb ρ S:=rfl
theorem DG:HA tb ρ (false,S)=some (false,S):=rfl
theorem As:cOr ta tb ρ S=(ta ρ S).bind (kOr tb ρ):=rfl
theorem Dq:kOr tb ρ (true,S)=some (true,S):=rfl
theorem oJ:kOr tb ρ (false,S)=tb ρ S:=rfl
theorem rK:FK ta ρ S=(ta ρ S).bind Iu:=rfl
theorem kJ:Iu (b,S)=some (!b,S):=rfl
def Cn(cb:CE)(ρ:Rho):U×Sto->Option (U×Sto)
 |(.bl true,S)=>cb ρ S
 |(.bl false,S)=>some (.bl false,S)
 |_=>none
def Fb:U×Sto->Option (U×Sto)
 |(.bl b,S)=>some (.bl (!b),S)
 |_=>none
theorem DD:y2 ca cb ρ S=(ca ρ S).bind (Cn cb ρ):=by
 unfold y2;congr 1;funext p;obtain⟨u,S⟩:=p;cases u with
 |bl b=>cases b<;>rfl
 |_=>rfl
theorem AD:Cn cb ρ (.bl true,S)=cb ρ S:=rfl
theorem AB:Cn cb ρ (.bl false,S)=some (.bl false,S):=rfl
theorem Dr:y1 ca ρ S=(ca ρ S).bind Fb:=by
 unfold y1;congr 1;funext p;obtain⟨u,S⟩:=p;cases u<;>rfl
theorem Au:Fb (.bl b,S)=some (.bl (!b),S):=rfl
def vA(u:U)(q:List U×Sto):Option (List U×Sto):=some (u::q.1,q.2)
def zJ(cr:CA)(ρ:Rho)(p:U×Sto):=(cr ρ p.2).bind (vA p.1)
theorem Av:ao ρ S=some ([],S):=rfl
theorem aL:ab ca cr ρ S=(ca ρ S).bind (zJ cr ρ):=rfl
theorem bz:zJ cr ρ (u,S)=(cr ρ S).bind (vA u):=rfl
theorem lL:vA u (us,S)=some (u::us,S):=rfl
def Io(p:List U×Sto):Option (U×Sto):=some (.tup p.1,p.2)
def Iw(p:List U×Sto):Option (U×Sto):=some (.ref p.2.length,p.2++[.lst p.1])
theorem Aq:ig cr ρ S=(cr ρ S).bind Io:=rfl
theorem Dg:Io (us,S)=some (.tup us,S):=rfl
theorem rL:bZ cr ρ S=(cr ρ S).bind Iw:=rfl
theorem zf:Iw (us,S)=some (.ref S.length,S++[.lst us]):=rfl
def kCB(f:Fn)(p:List U×Sto):=f p.1 p.2
theorem oN{f:Fn}:cCB f cr ρ S=(cr ρ S).bind (kCB f):=rfl
theorem mO{f:Fn}:kCB f (us,S)=f us S:=rfl
def Iy(T:Ty)(p:U×Sto):Option (U×Sto):=(tyU p.1 p.2).bind fun t=>some (.bl (zj t T),p.2)
theorem Gx{T:Ty}:wW T ca ρ S=(ca ρ S).bind (Iy T):=rfl
theorem Dx{T:Ty}:Iy T (u,S)=(tyU u S).bind fun t=>some (.bl (zj t T),S):=rfl
def E8(c2:CS):Out×Rho×Sto->Option (Out×Rho×Sto)
 |(.nx,ρ,S)=>c2 ρ S
 |(o,ρ,S)=>some (o,ρ,S)
theorem ze:et ρ S=some (.nx,ρ,S):=rfl
theorem rJ:bq c1 c2 ρ S=(c1 ρ S).bind (E8 c2):=by
 unfold bq;congr 1;funext p;obtain⟨o,ρ,S⟩:=p;cases o<;>rfl
theorem mN:E8 c2 (.nx,ρ,S)=c2 ρ S:=rfl
theorem Dm:E8 c2 (.rt u,ρ,S)=some (.rt u,ρ,S):=rfl
theorem Dk:E8 c2 (.bk,ρ,S)=some (.bk,ρ,S):=rfl
theorem Dj:E8 c2 (.ct,ρ,S)=some (.ct,ρ,S):=rfl
def Fc(ρ:Rho)(p:U×Sto):Option (Out×Rho×Sto):=some (.nx,ρ,p.2)
def Iq(ρ:Rho)(p:U×Sto):Option (Out×Rho×Sto):=some (.rt p.1,ρ,p.2)
theorem kK:eQ ca ρ S=(ca ρ S).bind (Fc ρ):=rfl
theorem Az:Fc ρ (u,S)=some (.nx,ρ,S):=rfl
theorem kq:ik ca ρ S=(ca ρ S).bind (Iq ρ):=rfl
theorem Dp:Iq ρ (u,S)=some (.rt u,ρ,S):=rfl
def Hx(c1 c2:CS)(ρ:Rho)(p:Bool×Sto):=if p.1=true then c1 ρ p.2 else c2 ρ p.2
theorem eI:kG t c1 c2 ρ S=(t ρ S).bind (Hx c1 c2 ρ):=rfl
theorem jq:Hx c1 c2 ρ (true,S)=c1 ρ S:=rfl
theorem pO:Hx c1 c2 ρ (false,S)=c2 ρ S:=rfl
def Ip(i:Nat)(ρ:Rho)(p:U×Sto):Option (Out×Rho×Sto):=some (.nx,ρ.set i (some p.1),p.2)
theorem fM:bM i ca ρ S=(ca ρ S).bind (Ip i ρ):=rfl
theorem kI:Ip i ρ (u,S)=some (.nx,ρ.set i (some u),S):=rfl
def Ck(q:Rho×Sto):Option (Out×Rho×Sto):=some (.nx,q.1,q.2)
def IA(g:CG)(ρ:Rho)(p:U×Sto):=(g p.1 ρ p.2).bind Ck
theorem GI{g:CG}:C3 ca g ρ S=(ca ρ S).bind (IA g ρ):=rfl
theorem DC{g:CG}:IA g ρ (u,S)=(g u ρ S).bind Ck:=rfl
theorem DB:Ck (ρ,S)=some (.nx,ρ,S):=rfl
theorem GB:gNm i u ρ S=some (ρ.set i (some u),S):=rfl
theorem GA{is:List Nat}:gTp is (.tup us) ρ S=(eU is us ρ).bind fun ρ'=>some (ρ',S):=rfl
theorem DI:eU [] [] ρ=some ρ:=rfl
theorem DH{is:List Nat}:eU (i::is) (u::us) ρ=eU is us (ρ.set i (some u)):=rfl
def Ht(ρ:Rho)(S':Sto):Option (Out×Rho×Sto):=some (.nx,ρ,S')
def Hu(o v:U)(ρ:Rho)(r:U×Sto):=(jV o r.1 v r.2).bind (Ht ρ)
def Hv(ci:CE)(v:U)(ρ:Rho)(q:U×Sto):=(ci ρ q.2).bind (Hu q.1 v ρ)
def kSI(co ci:CE)(ρ:Rho)(p:U×Sto):=(co ρ p.2).bind (Hv ci p.1 ρ)
theorem IJ:wk ca cb cc ρ S=(cc ρ S).bind (kSI ca cb ρ):=rfl
theorem Gn:kSI ca cb ρ (u,S)=(ca ρ S).bind (Hv cb u ρ):=rfl
theorem Gm:Hv cb y ρ (u,S)=(cb ρ S).bind (Hu u y ρ):=rfl
theorem Gk:Hu x y ρ (u,S)=(jV x u y S).bind (Ht ρ):=rfl
theorem Gj:Ht ρ S=some (.nx,ρ,S):=rfl
def kIx(y:U)(S:Sto):Option O->Option (U×Sto)
 | some (.lst us)=>(match y with
   |.int i=>(atI us i).bind fun u=>some (u,S)
   |_=>none)
 |some (.dic kus)=>(mL y).bind fun k=>(i7 kus k).bind fun u=>some (u,S)
 |some (.fdc _ kus)=>(mL y).bind fun k=>(i7 kus k).bind fun u=>some (u,S)
 |_=>none
theorem Gu{j:Int}:fIx (.tup us) (.int j) S=(atI us j).bind fun u=>some (u,S):=rfl
theorem oK:fIx (.ref l) y S=kIx y S S[l]?:=by
 unfold fIx kIx;dsimp only<;>(generalize S[l]?=q;rcases q with _|o<;>first|rfl|(cases o<;>rfl))
theorem oM{j:Int}:kIx (.int j) S (some (.lst us))=(atI us j).bind fun u=>some (u,S):=rfl
theorem Gw{kus:List (Key×U)}:kIx y S (some (.dic kus))=(mL y).bind fun k=>(i7 kus k).bind fun u=>some (u,S):=rfl
def F2(l:Nat)(i v:U)(S:Sto):Option O->Option Sto
 | some (.lst us)=>(match i with
   |.int k=>(ixN us.length k).bind fun j=>some (S.set l (.lst (us.set j v)))
   |_=>none)
 |some (.dic kus)=>(mL i).bind fun k=>if kus.length<LIM then some (S.set l (.dic (jG kus k v)))else none
 |_=>none
theorem Gi:jV (.ref l) x y S=F2 l x y S S[l]?:=by
 unfold jV F2;dsimp only<;>(generalize S[l]?=q;rcases q with _|o<;>first|rfl|(cases o<;>rfl))
theorem Dh{j:Int}:F2 l (.int j) y S (some (.lst us))=(ixN us.length j).bind fun j=>some (S.set l (.lst (us.set j y))):=rfl
theorem Di{kus:List (Key×U)}:F2 l x y S (some (.dic kus))=(mL x).bind fun k=>if kus.length<LIM then some (S.set l (.dic (jG kus k y)))else none:=rfl
theorem at0{α:Type}{a:α}{r:List α}:atI (a::r) 0=some a:=by show atI _ ((0:Nat):Int)=_;exact eB rfl
theorem at1{α:Type}{a b:α}{r:List α}:atI (a::b::r) 1=some b:=by show atI _ ((1:Nat):Int)=_;exact eB rfl
theorem at2{α:Type}{a b c:α}{r:List α}:atI (a::b::c::r) 2=some c:=by show atI _ ((2:Nat):Int)=_;exact eB rfl
theorem at3{α:Type}{a b c d:α}{r:List α}:atI (a::b::c::d::r) 3=some d:=by show atI _ ((3:Nat):Int)=_;exact eB rfl
theorem ix0{n:Nat}:ixN (n+1) 0=some 0:=by simp[ixN]
theorem ix1{n:Nat}:ixN (n+1+1) 1=some 1:=by simp[ixN];omega
theorem ix2{n:Nat}:ixN (n+1+1+1) 2=some 2:=by simp[ixN];omega
def F3(S:Sto):Option O->Option (U×Sto)
 |some (.lst us)=>some (.int us.length,S)
 |some (.dic us)=>some (.int us.length,S)
 |_=>none
theorem sX:eN [.ref l] S=F3 S S[l]?:=by
 unfold eN F3;dsimp only<;>(generalize S[l]?=q;rcases q with _|o<;>first|rfl|(cases o<;>rfl))
theorem sY:F3 S (some (.lst us))=some (.int us.length,S):=rfl
theorem Dv{kus:List (Key×U)}:F3 S (some (.dic kus))=some (.int kus.length,S):=rfl
theorem Du:eN [.tup us] S=some (.int us.length,S):=rfl
variable{j k:Int}
theorem AF:bE (.int j) (.int k) S=some (.int (j+k),S):=rfl
theorem Gh:sD (.int j) (.int k) S=some (.int (j-k),S):=rfl
theorem lK(h:Ag j k):jg (.int j) (.int k) S=some (.int (j*k),S):=by simp[jg,fI,h]
theorem Dz(h:sM j k):zS (.int j) (.int k) S=some (.int (j / k),S):=by simp[zS,fI,h]
theorem sW(h:0<k):mM (.int j) (.int k) S=some (.int (j % k),S):=by simp[mM,fI,h]
theorem Gp(h:C7 j k):zR (.int j) (.int k) S=some (.int (j^k.toNat),S):=by simp[zR,fI,h]
theorem FW:fLt (.int j) (.int k) S=some (.bl (decide (j<k)),S):=rfl
theorem IK:fGt (.int j) (.int k) S=some (.bl (decide (k<j)),S):=rfl
theorem IM:fGe (.int j) (.int k) S=some (.bl (decide (k<=j)),S):=rfl
theorem GG:fEq (.int j) (.int k) S=some (.bl (decide (j=k)),S):=rfl
theorem Ds:fNe (.int j) (.int k) S=some (.bl (!decide (j=k)),S):=rfl
theorem GF{a c:Str}:fEq (.str a) (.str c) S=some (.bl (decide (a=c)),S):=rfl
theorem Gq{a c:Str}:fNe (.str a) (.str c) S=some (.bl (!decide (a=c)),S):=rfl
theorem GH{a c:Bool}:fEq (.bl a) (.bl c) S=some (.bl (decide (a=c)),S):=rfl
theorem Gr{a c:Bool}:fNe (.bl a) (.bl c) S=some (.bl (!decide (a=c)),S):=rfl
def kFn:Out×Rho×Sto->Option (U×Sto)
 |(.rt u,_,S)=>some (u,S)
 |(.nx,_,S)=>some (.non,S)
 |_=>none
theorem pQ{n k:Nat}(h:us.length=k):fnU n k c1 us S=(c1 (mX n us) S).bind kFn:=by
 unfold fnU;rw[if_pos h];congr 1;funext p;obtain⟨o,ρ,S⟩:=p;cases o<;>rfl
theorem GD:kFn (.rt u,ρ,S)=some (u,S):=rfl
theorem GC:kFn (.nx,ρ,S)=some (.non,S):=rfl
end
section
variable{ρ:Rho}{S:Sto}{c1 c2:CS}{t ta tb:CT}{ca cb cc:CE}{cr:CA}{u x y:U}{us:List U}{i l:Nat}{b:Bool}{c:Cl}{fus:List (Option U)}{g:Fn}
def kIn(neg:Bool)(x:U)(S:Sto):Option O->Option (U×Sto)
 |some (.lst us)=>if gc x=true/\us.all gc=true then some (.bl (if neg then !inU x us else inU x us),S)else none
 |some (.dic kus)=>(mL x).bind fun k=>some (.bl (if neg then !(i7 kus k).isSome else(i7 kus k).isSome),S)
 |some (.fdc _ kus)=>(mL x).bind fun k=>some (.bl (if neg then !(i7 kus k).isSome else(i7 kus k).isSome),S)
 |_=>none
theorem Gy{neg:Bool}:fIn neg x (.ref l) S=kIn neg x S S[l]?:=by
 unfold fIn kIn;dsimp only<;>(generalize S[l]?=q;rcases q with _|o<;>first|rfl|(cases o<;>rfl))
theorem Gz{neg:Bool}{kus:List (Key×U)}:kIn neg x S (some (.dic kus))=(mL x).bind fun k=>some (.bl (if neg then !(i7 kus k).isSome else(i7 kus k).isSome),S):=rfl
theorem Gs{j:Int}:mL (.int j)=some (.inl j):=rfl
theorem Dw{z:Str}:mL (.str z)=some (.inr z):=rfl
def Hy(f:U->List U->Sto->Option (U×Sto))(x:U)(q:List U×Sto):=f x q.1 q.2
def Hz(f:U->List U->Sto->Option (U×Sto))(cr:CA)(ρ:Rho)(x:U)(S:Sto):Option O->Option (U×Sto)
 |some (.lst _)=>(cr ρ S).bind (Hy f x)
 |_=>none
def kBM(f:U->List U->Sto->Option (U×Sto))(cr:CA)(ρ:Rho):U×Sto->Option (U×Sto)
 |(.ref l,S)=>Hz f cr ρ (.ref l) S S[l]?
 |_=>none
variable{fm:U->List U->Sto->Option (U×Sto)}
theorem AA:cBM fm ca cr ρ S=(ca ρ S).bind (kBM fm cr ρ):=by
 unfold cBM;congr 1;funext p;obtain⟨u,S⟩:=p
 cases u<;>try rfl
theorem oP:kBM fm cr ρ (.ref l,S)=Hz fm cr ρ (.ref l) S S[l]?:=rfl
theorem oO:Hz fm cr ρ x S (some (.lst us))=(cr ρ S).bind (Hy fm x):=rfl
theorem xg:Hy fm x (us,S)=fm x us S:=rfl
def F4(l:Nat)(u:U)(S:Sto):Option O->Option (U×Sto)
 |some (.lst us)=>if us.length<LIM then some (.non,S.set l (.lst (us++[u])))else none
 |_=>none
theorem GJ:bY (.ref l) [u] S=F4 l u S S[l]?:=by
 unfold bY F4;dsimp only<;>(generalize S[l]?=q;rcases q with _|o<;>first|rfl|(cases o<;>rfl))
theorem js(h:us.length<LIM):F4 l u S (some (.lst us))=some (.non,S.set l (.lst (us++[u]))):=by
 unfold F4;dsimp only;rw[if_pos h]
variable{pr:List (CE×CE)}
theorem Dd:fb [.tup us] S=some (.tup us,S):=rfl
def Hs(S:Sto):Option O->Option (U×Sto)
 |some (.lst us)=>some (.tup us,S)
 |_=>none
theorem De:fb [.ref l] S=Hs S S[l]?:=by
 unfold fb Hs;dsimp only<;>(generalize S[l]?=q;rcases q with _|o<;>first|rfl|(cases o<;>rfl))
theorem Df:Hs S (some (.lst us))=some (.tup us,S):=rfl
theorem Aw:hC [.tup us] S=some (.ref S.length,S++[.lst us]):=rfl
def kLs(S:Sto):Option O->Option (U×Sto)
 |some (.lst us)=>some (.ref S.length,S++[.lst us])
 |_=>none
theorem Ax:hC [.ref l] S=kLs S S[l]?:=by
 unfold hC kLs;dsimp only<;>(generalize S[l]?=q;rcases q with _|o<;>first|rfl|(cases o<;>rfl))
theorem Ay:kLs S (some (.lst us))=some (.ref S.length,S++[.lst us]):=rfl
theorem Dy:Fv [.bl b] S=some (.int (if b then 1 else 0),S):=rfl
theorem ga{X:Sto}{n:Nat}:(S++X)[S.length+n]?=X[n]?:=by rw[Qz (Nat.le_add_right _ _),Nat.add_sub_cancel_left]
theorem ga0{X:Sto}:(S++X)[S.length]?=X[0]?:=ga (n:=0)
theorem gs{X:Sto}{n:Nat}{o:O}:(S++X).set (S.length+n) o=S++X.set n o:=by rw[List.set_append_right _ _ (Nat.le_add_right _ _),Nat.add_sub_cancel_left]
theorem gs0{X:Sto}{o:O}:(S++X).set S.length o=S++X.set 0 o:=gs (n:=0)
section
variable{ok:Sto->Prop}{gg:CG}{cbd:CS}{ρ0 ρ1:Rho}{S0 S1:Sto}
theorem bV(h:ok S):cU ok gg cbd [] ρ S=some (.nx,ρ,S):=by unfold cU;rw[if_pos h]
theorem dg(h:ok S)(hg:gg u ρ S=some (ρ0,S0))(hb:cbd ρ0 S0=some (.nx,ρ1,S1)):cU ok gg cbd (u::us) ρ S=cU ok gg cbd us ρ1 S1:=by
 rw[cU];dsimp only;rw[if_pos h,hg,Q0];dsimp only;rw[hb,Q0]
theorem pV{n:Nat}(ht:t ρ S=some (true,S0))(hb:cbd ρ S0=some (.nx,ρ1,S1)):dn t cbd (n+1) ρ S=dn t cbd n ρ1 S1:=by
 rw[dn];dsimp only;rw[ht,Q0];dsimp only;rw[if_pos rfl,hb,Q0]
theorem ju{n:Nat}(ht:t ρ S=some (false,S0)):dn t cbd (n+1) ρ S=some (.nx,ρ,S0):=by
 rw[dn];dsimp only;rw[ht,Q0];dsimp only;rw[if_neg (by decide)]
theorem oa{ce:CE}{ys:List U}(h:ok S)(hg:gg u ρ S=some (ρ0,S0))(he:ce ρ0 S0=some (x,S1))(hl:S1[l]?=some (.lst ys))(hn:ys.length<LIM):fO ok gg ce l (u::us) ρ S=fO ok gg ce l us ρ0 (S1.set l (.lst (ys++[x]))):=by
 rw[fO,if_pos h,hg,Q0];dsimp only;rw[he,Q0];dsimp only;rw[hl];dsimp only;rw[if_pos hn]
theorem rm{ce:CE}(h:ok S):fO ok gg ce l [] ρ S=some S:=by rw[fO,if_pos h]
end
end
theorem IG{p:List Value->Prop}(h:p [])(us:List Value)(e:us.length=0):p us:=by rw[List.length_eq_zero_iff.mp e];exact h
theorem Jh{n:Nat}{p:List Value->Prop}(h:∀a us,us.length=n->p (a::us))(us:List Value)(e:us.length=n+1):p us:=by
 cases us with
 |nil=>cases e
 |cons a us=>exact h a us (Nat.succ.inj e)
theorem qX{X:Cx}{pins:List (Addr×Obj)}{σ:L2.St}{H:Hp}{s:Shared}{a:Addr}{o u:HO}(I:Inv X pins σ H s)(e:H a=some o)(nt:∀xs,o≠.tup xs)(no:∀x,o≠.own x)(nb:∀ps,o≠.tbl ps)
  (nf:∀ob u,X.H₀ a≠some (.frz ob u)) (new:bC X.prog X.w (upd H a u) s.heap a u):Inv X pins σ (upd H a u) s:=by
 have nn:∀b,H b=none->upd H a u b=none:=fun b q=>by rw[aV (Ne.symm (b8 e q))];exact q
 have ho:∀b x,H b=some (.own x)->upd H a u b=some (.own x):=fun b x q=>by
  rw[aV];exact q
  intro z;subst z;rw[e]at q;cases q;exact no _ rfl
 have ht:∀b xs,H b=some (.tup xs)->upd H a u b=some (.tup xs):=fun b x q=>by
  rw[aV];exact q
  intro z;subst z;rw[e]at q;cases q;exact nt _ rfl
 refine⟨I.ok,I.os,I.bare,⟨I.base.keep,I.base.slot,fun b ob q1 q2 q3=>nn _ (I.base.free b ob q1 q2 q3),I.base.there,fun b xs q=>ht _ _ (I.base.tups b xs q),fun b ob v q=>?_,fun b ps q=>?_⟩,I.loc,I.cell,nn _ I.free,fun x c q=>nn _ (I.freeC x c q),fun p hp=>?_,fun b v q=>?_,I.len⟩
 ·rw[aV];exact I.base.frzs b ob v q
  intro z;subst z;exact nf _ _ q
 ·obtain⟨more,q'⟩:=I.base.tbls b ps q
  refine⟨more,?_⟩
  rw[aV];exact q'
  intro z;subst z;rw[e]at q';cases q';exact nb _ rfl
 ·obtain⟨p1,p2,p3⟩:=I.pin p hp
  exact⟨p1,nn _ p2,p3⟩
 ·by_cases hb:b=a
  ·subst hb;rw[aJ]at q;cases q;exact new
  ·rw[aV hb]at q
   exact(I.hok b v q).stay (fun _ _ _ g=>g) (fun c g=>ho c b g) fun c xs g=>ht c xs g
def FQ(X:Cx)(a:Addr):Prop:=∀ob u,X.H₀ a≠some (.frz ob u)
def kU:Key->U
 |.inl i=>.int i
 |.inr x=>.str x
theorem Fi{K:Q5}{m:List Addr}{H:Hp}(k:Key):Is K m H (kV k) (kU k):=by
 cases k with
 |inl i=>exact .int_
 |inr x=>exact .str_
open Classical in
def uni{α:Type}(F:Nat->Option α):Option α:=if h:∃r,∀n,F n=some r then some h.choose else none
theorem DP{α:Type}{F:Nat->Option α}{r:α}(h:∀n,F n=some r):uni F=some r:=by
 have hx:∃r,∀n,F n=some r:=⟨r,h⟩
 unfold uni
 rw[dif_pos hx]
 have:=hx.choose_spec 0
 rw[h 0]at this
 exact this.symm
theorem xB{α:Type}{F:Nat->Option α}{r:α}(h:uni F=some r)(n:Nat):F n=some r:=by
 unfold uni at h
 split at h
 ·rename_i hx
  cases h
  exact hx.choose_spec n
 ·cases h
end OP
namespace OG
open PySem PySem.Spec PyProof.Rows L2
def iC(wi:TI)(g:TG)(tt:TT)(te:TE)(n:Nat)(caps:List Nat):TE:=fun σ H Q=>wi σ H fun J H1=>∀l,H1 l=none->∃W:Nat->Nat->L2.St->Hp->Prop,(∃m,W 0 m (stC n caps σ) (upd H1 l (.lst [])))/\
 ∀i m σ' H2,W i m σ' H2->(J.stop i H2/\Q (.ref l) H2)\/(J.go i H2/\∃N:L2.St->Hp->Prop,(∀σ'' H',N σ'' H'->∃m',m'<m/\W (i+1) m' σ'' H')/\
  ∀x H3,J.yld i H2 x H3->g x σ' H3 fun σ2 H4=>tt σ2 H4 fun b H5=>match b with
   |true=>te σ2 H5 fun v H6=>∃ys,H6 l=some (.lst ys)/\ys.length<sizeLine/\N σ2 (upd H6 l (.lst (ys++[v])))
   |false=>N σ2 H5)
theorem fS{prog:Program}{w:World}{A:Around}{R:Result->Shared->Prop}{s:Shared}{elt target iter c:Expr}{scope:Scope}{pos:Pos}{it acc:Value}{env:Env}(I:Nat->Shared->Prop)
  (turn:∀n s,I n s->wpAny (model prog w) A (pyNext it) (fun r s₁=>match r with
   |none=>R (.ok .next) s₁
   |some v=>wpAny (model prog w) A (letOwnedTupleGo target it v) (fun _ s₁'=>wpAny (model prog w) A (assign target env v) (fun _ s₂=>wpAny (model prog w) A (PySem.isTrue c env (eval c env)) (fun b s₂'=>match b with
    |true=>wpAny (model prog w) A (eval elt env) (fun x s₃=>
     wpAny (model prog w) A (call (.builtin "list.append") [acc,x]) (fun _ s₄=>∃m,m<n/\I m s₄) (fun _ _=>False) s₃)
     (fun _ _=>False) s₂'
    |false=>∃m,m<n/\I m s₂') (fun _ _=>False) s₂) (fun _ _=>False) s₁') (fun _ _=>False) s₁) (fun _ _=>False) s)
  (n:Nat) (h:I n s) :
  codeAny (model prog w) A (.compLoop (.ListComp elt [⟨target,iter,[c],0⟩] scope pos) 0 it acc env) R s:=by
 refine codeAny_loop rfl I (fun n s hI=>?_) n h
 show wpAny _ _ ((compTurn (.ListComp elt [⟨target,iter,[c],0⟩] scope pos) 0 it acc env).onRaise (fun x=>do noteFrame x env;theTreesLotGoes x)) _ _ s
 refine wpAny_noted ?_
 rw[compTurn_list]
 refine Q2 (wpAny_standAt (Q2 (Z6 (turn n s hI) (fun r s₁ h₁=>?_) fun _ _ h'=>h'.elim)))
 cases r with
 |none=>exact Q8 h₁
 |some v=>
  refine Q2 (Z6 h₁ (fun _ s₁' h₁'=>?_) fun _ _ h'=>h'.elim)
  refine Q2 (Z6 h₁' (fun _ s₂ h₂=>?_) fun _ _ h'=>h'.elim)
  dsimp only
  simp only[ZI,ZF,if_true,bind_assoc,pure_bind]
  refine Q2 (Z6 h₂ (fun b s₂' h₂'=>?_) fun _ _ h'=>h'.elim)
  cases b with
  |true=>
   rw[if_pos rfl]
   exact Q2 (Z6 h₂' (fun x s₃ h₃=>Q2 (Z6 h₃
    (fun _ s₄ h₄=>Q8 ⟨rfl,h₄⟩) fun _ _ h'=>h'.elim)) fun _ _ h'=>h'.elim)
  |false=>
   rw[if_neg QF]
   exact Q8 ⟨rfl,h₂'⟩
theorem lG{X:Cx}{Nc capN tn:List Str}{scope:Scope}{cl:List (Str×Addr)}{n:Nat}{caps:List Nat}{tg iter elt:Expr}{pos:Pos}{wi:TI}{g:TG}{te:TE}{tt:TT}{c:Expr}
  (hc:X.calm=true) (hi:WI X tg iter wi) (hg:∀s3 H3 fp,WG (cxC X Nc scope cl s3 H3 fp) tg g) (he:∀s3 H3 fp,WE (cxC X Nc scope cl s3 H3 fp) elt te)
  (ht:∀s3 H3 fp,WT (cxC X Nc scope cl s3 H3 fp) c tt)
  (hclos:closureFor scope X.env=pure cl) (hkind:scope.kind=.function) (hnl:∀x∈scope.names,x.2=.local->scope.names.lookup x.1=some .local) (hcell:∀x∈scope.names,x.2≠.cell)
  (hcl:mK X.env cl) (hhas:((relabel scope X.env).names.all fun p=>!(p.2 == .cell||p.2 == .free)||(cl.lookup p.1).isSome)=true)
  (hcap:Paired (Cap X scope cl) caps capN) (hN:Nc=tn++capN) (hn:tn.length=n)
  {use:Option (Value->Sem Unit)} {pins:List (Addr×Obj)} {σ:L2.St} {H:Hp} {s:Shared} {Q:VK} {Qf:Value->Shared->Prop} (I:Inv X pins σ H s) (h:iC wi g tt te n caps σ H Q)
  (hend:∀(D C:Addr) (s6:Shared) (H5:Hp) (m:Str->Option Value),Inv X pins σ H5 s6->s6.heap.Ns C m->H5 C=none->C≠X.env.locals->X.s₀.heap.objs.size<=C->(∀x c,X.env.cells.lookup x=some c->c≠C)->(∀p∈X.pn++pins,p.1≠C)->Q (.ref D) H5->compPost (model X.prog X.w) X.A X.xe use Qf (.ref D) C (.ok .next) s6)
  (hs:∀x,foldedSetIterable iter X.env x=pure x) :
  wpAny (model X.prog X.w) X.A (comprehension (.ListComp elt [⟨tg,iter,[c],0⟩] scope pos) scope X.env (firstIterPos [⟨tg,iter,[c],0⟩] pos) (newList []) (firstAsync [⟨tg,iter,[c],0⟩]) (firstIter [⟨tg,iter,[c],0⟩] X.env) use) Qf X.xe s:=by
 refine wpAny_comprehension_free (use:=use) (g:=⟨tg,iter,[c],0⟩) (gs:=[]) rfl hs hclos hkind hnl (thn (hi.h pins s σ H _ I h) fun v s1 h1=>thn h1 fun itv s2 h2=>?_)
 obtain⟨it,fp,tnn,J,H2,rfl,I2,T,st2,f2,hW⟩:=h2
 have hD:=I2.fresh
 obtain⟨W,⟨m0,w0⟩,turn⟩:=hW _ hD
 refine wpAny_newObj_type (wpAny_newFunctionEnv hcell (by intro y hy;simp at hy) (fun h₁ hns₁ hsb₁=>?_) hkind)
 dsimp only at hns₁ hsb₁ ⊢
 have I3:Inv X pins σ (upd H2 s2.heap.objs.size (.lst [])) { s2 with heap:=s2.heap.push { cls:=.type "list",dict:=none,data:=.seq ([]:List Value).toArray },toks:=s2.toks }:=I2.lnew (its:=[]) .nil (Qs _)
 generalize hs3:({ s2 with heap:=s2.heap.push { cls:=.type "list",dict:=none,data:=.seq ([]:List Value).toArray },toks:=s2.toks }:Shared)=s3 at I3
 have es3:s3.heap=s2.heap.push { cls:=.type "list",dict:=none,data:=.seq ([]:List Value).toArray }:=by rw[<-hs3]
 generalize hDD:s2.heap.objs.size=D at *
 have kept:∀b o,s3.heap.get? b=some o->h₁.get? b=some o:=fun b o e=>by
  have lt:=QX e
  rw[es3]at lt e
  exact hsb₁.extBut b o (QC lt) (Q4 _ e)
 have old:∀b o,s2.heap.get? b=some o->s3.heap.get? b=some o:=fun b o e=>by rw[es3];exact Q4 _ e
 have ltD:∀b∈fp,b<D:=fun b hb=>by
  obtain⟨o,e,_⟩:=T.obj 0 _ st2 b hb
  rw[<-hDD];exact QX e
 have fo:∀b∈fp,b<s3.heap.objs.size:=fun b hb=>by
  obtain⟨o,e,_⟩:=T.obj 0 _ st2 b hb
  exact QX (old _ _ e)
 have f3:∀b∈fp,pL X pins (upd H2 D (.lst [])) b:=fun b hb=>by
  refine⟨?_,(f2 b hb).2⟩
  rw[aV (QC (ltD b hb))]
  exact(f2 b hb).1
 rw[<-es3]at hns₁ hsb₁ ⊢
 have Ic:=fun t'=>Inv.comp (h1:=h₁) (t':=t') (Nc:=Nc) (n:=n) I3 hc f3 fo hkind hcl hhas hcap tn hN hn hns₁ kept
 have stat:∀{H':Hp},(∀b∈fp,H' b=none)->∀b∈fp,pL (cxC X Nc scope cl s3 (upd H2 D (.lst [])) fp) [] H' b:=fun hn' b hb=>by
  refine⟨hn' b hb,QC (fo b hb),fun z=>?_,.inl hb,fun x c e=>(f2 b hb).2.2.2.2.1 x c (hcl.look e),fun p hp=>(by simp at hp)⟩
  rcases QM.mp (I3.stkSub b z)with q|q
  ·exact(f2 b hb).2.1 q
  ·exact(f2 b hb).2.2.1 q
 have loop:∀s4:Shared,(∃t',s4={ s3 with heap:=h₁,toks:=t' })->codeAny (model X.prog X.w) X.A (.compLoop (.ListComp elt [⟨tg,iter,[c],0⟩] scope pos) 0 (.ref it) (.ref D) (compEnvC scope cl s3.heap.objs.size X.env))
   (compPost (model X.prog X.w) X.A X.xe use Qf (.ref D) s3.heap.objs.size) s4:=by
  rintro s4 ⟨t',rfl⟩
  refine fS (fun n' s'=>∃i σ' H',Inv (cxC X Nc scope cl s3 (upd H2 D (.lst [])) fp) [] σ' H' s'/\tnn i s'.heap/\(∀b∈fp,H' b=none)/\W i n' σ' H') ?_ m0
   ⟨0,_,_,Ic t',T.keep 0 _ _ st2 fun b hb o e=>kept _ _ (old _ _ e),fun b hb=>(f3 b hb).1,w0⟩
  rintro n' s5 ⟨i,σ5,H5,I5,st5,fr5,w5⟩
  rcases turn i n' σ5 H5 w5 with⟨stop,qn⟩|⟨go,N,hN',step⟩
  ·refine thn (T.done (cxC X Nc scope cl s3 (upd H2 D (.lst [])) fp) rfl rfl rfl hc i [] s5 σ5 H5 (fun _ _=>False) I5 (stat fr5) st5 stop) fun r s6 ⟨hr,I6⟩=>?_
   subst hr
   obtain⟨m,hm,_⟩:=I6.loc
   have I7:Inv X pins σ H5 s6:=Inv.call' (ch:=fp) I3 I6.os I6.base I6.hok I6.bare fun b hb=>⟨(f2 b hb).2.2.2.1,(f2 b hb).2.1,(f2 b hb).2.2.2.2.1,(f2 b hb).2.2.2.2.2⟩
   exact hend D _ s6 H5 m I7 hm I6.free (Ne.symm (QC I3.lt)) I3.sz (fun x c e=>by
     obtain⟨v',o,ho,_⟩:=I3.cell x c e
     exact QC (QX ho)) (fun p hp=>QC (QX (I3.pin p hp).1)) qn
  ·refine thn (T.item (cxC X Nc scope cl s3 (upd H2 D (.lst [])) fp) rfl rfl rfl hc i [] s5 σ5 H5 (fun _ _=>False) I5 (stat fr5) st5 go) fun r s6 ⟨u,hr,h6⟩=>?_
   subst hr
   refine thn h6 fun _ s7 hz=>?_
   obtain⟨x,H7,I7,r7,y7,st7,fr7⟩:=hz
   have I7':=I7.pinned (stat fr7) (T.obj _ _ st7)
   refine thn ((hg s3 (upd H2 D (.lst [])) fp).h _ s7 σ5 H7 x u _ I7' r7 (step x H7 y7)) fun _ s8 hz=>?_
   obtain⟨σ8,H8,I8,q8⟩:=hz
   have fin:∀{s10:Shared} {H10:Hp},Inv (cxC X Nc scope cl s3 (upd H2 D (.lst [])) fp) _ σ8 H10 s10->N σ8 H10->∃m',m'<n'/\∃i' σ' H',Inv (cxC X Nc scope cl s3 (upd H2 D (.lst [])) fp) [] σ' H' s10/\tnn i' s10.heap/\(∀b∈fp,H' b=none)/\W i' m' σ' H':=fun{s10 H10} I10 q10=>by
    obtain⟨m',hm,w10⟩:=hN' σ8 H10 q10
    refine⟨m',hm,i+1,σ8,H10,Inv.unpinned I10,T.keep _ _ _ st7 fun b hb o e=>(Inv.pin I10 (b,o) (Qr _ (Qr _ (cf hb e)))).1,fun b hb=>?_,w10⟩
    obtain⟨o,e,d⟩:=T.obj _ _ st7 b hb
    exact(Inv.pin I10 (b,o) (Qr _ (Qr _ (cf hb e)))).2.1
   refine thn ((ht s3 (upd H2 D (.lst [])) fp).h _ s8 σ8 H8 _ I8 q8) fun b9 s9' h9=>?_
   obtain⟨H9',I9',q9'⟩:=h9
   cases b9 with
   |false=>exact fin I9' q9'
   |true=>
    refine thn ((he s3 (upd H2 D (.lst [])) fp).h _ s9' σ8 H9' _ I9' q9') fun v9 s9 hz=>?_
    obtain⟨x9,H9,I9,r9,ys,hy,hlt,q9⟩:=hz
    exact thn (gR (X:=cxC X Nc scope cl s3 (upd H2 D (.lst [])) fp) _ s9 σ8 H9 (.ref D) [x9] (.ref D) [v9] (fun _ H'=>N σ8 H') I9 rfl (.cons r9 .nil) ⟨D,ys,x9,rfl,rfl,hy,hlt,q9⟩) fun _ s10 ⟨_,H10,I10,_,q10⟩=>fin I10 q10
 have e4:∀t',({ s2 with heap:=h₁,toks:=t' }:Shared)={ s3 with heap:=h₁,toks:=t' }:=fun t'=>by rw[<-hs3]
 refine codeAny_compStart_list (loop _ ⟨_,e4 _⟩) (T.self _ 0 _ _ _ (T.keep 0 _ _ st2 fun b hb o e=>kept _ _ (old _ _ e)) (loop _ ⟨_,e4 _⟩))
theorem rN{X:Cx}{Nc capN tn:List Str}{scope:Scope}{cl:List (Str×Addr)}{n:Nat}{caps:List Nat}{tg iter elt:Expr}{pos:Pos}{wi:TI}{g:TG}{te:TE}{tt:TT}{c:Expr}
  (hc:X.calm=true) (hi:WI X tg iter wi) (hg:∀s3 H3 fp,WG (cxC X Nc scope cl s3 H3 fp) tg g) (he:∀s3 H3 fp,WE (cxC X Nc scope cl s3 H3 fp) elt te)
  (ht:∀s3 H3 fp,WT (cxC X Nc scope cl s3 H3 fp) c tt)
  (hclos:closureFor scope X.env=pure cl) (hkind:scope.kind=.function) (hnl:∀x∈scope.names,x.2=.local->scope.names.lookup x.1=some .local) (hcell:∀x∈scope.names,x.2≠.cell)
  (hcl:mK X.env cl) (hhas:((relabel scope X.env).names.all fun p=>!(p.2 == .cell||p.2 == .free)||(cl.lookup p.1).isSome)=true)
  (hcap:Paired (Cap X scope cl) caps capN) (hN:Nc=tn++capN) (hn:tn.length=n)
  (hs:∀x,foldedSetIterable iter X.env x=pure x:=by intro _;rfl) :
  WE X (.ListComp elt [⟨tg,iter,[c],0⟩] scope pos) (iC wi g tt te n caps):=by
 constructor
 intro pins s σ H Q I h
 rw[eval_ListComp]
 refine lG hc hi hg he ht hclos hkind hnl hcell hcl hhas hcap hN hn I h (fun D C s6 H5 m I7 hm fr nl sz cn pn qn=>⟨m,hm,fun h' hs'=>?_⟩) hs
 exact⟨.ref D,H5,I7.turned (t':=s6.toks) (it:=C) (fun b o hb e=>hs'.extBut b o hb e) fr nl (.inr sz) cn pn,rfl,qn⟩
end OG
namespace OP
open PySem PySem.Spec PyProof.Rows L2 OG
open Classical in
def bB(ok:Sto->Prop)(g:CG)(ct:CT)(ce:CE)(l:Nat):List U->Rho->Sto->Option Sto
 |[],_,S=>if ok S then some S else none
 |u::us,ρ,S=>if ok S then(g u ρ S).bind fun p=>(ct p.1 p.2).bind fun q=>if q.1=true then(ce p.1 q.2).bind fun r=>match r.2[l]? with
  |some (.lst ys)=>if ys.length<LIM then bB ok g ct ce l us p.1 (r.2.set l (.lst (ys++[r.1])))else none
  |_=>none else bB ok g ct ce l us p.1 q.2 else none
def aG(ci:CI)(g:CG)(ct:CT)(ce:CE)(n:Nat)(caps:List Nat):CE:=fun ρ S=>(ci ρ S).bind fun p=>(bB p.2.1 g ct ce p.2.2.length p.1 (gJ n caps ρ) (p.2.2++[.lst []])).bind fun S'=>some (.ref p.2.2.length,S')
section
variable{X:Cx}{K:Q5}
theorem pC{g:CG}{ct:CT}{ce:CE}{n:Nat}{caps:List Nat}{J:It}{us:List U}{ok:Sto->Prop}{Q:VK}{m1:List Addr}{H1:Hp}{S1 S':Sto}{ρ:Rho}{σ:L2.St}{l:Addr}(sr1:Sr K m1 S1 H1)(lr:Lr K m1 H1 ρ σ)(ito:zc K J m1 H1 us ok)(hl:H1 l=none)(h2:bB ok g ct ce S1.length us (gJ n caps ρ) (S1++[.lst []])=some S')
  (post:∀m2 H2,Ext K (m1++[l]) (upd H1 l (.lst [])) m2 H2->Sr K m2 S' H2->Q (.ref l) H2) :
  ∃W:Nat->Nat->L2.St->Hp->Prop,(∃m,W 0 m (OG.stC n caps σ) (upd H1 l (.lst [])))/\
 ∀i m σ' H2,W i m σ' H2->(J.stop i H2/\Q (.ref l) H2)\/(J.go i H2/\∃N:L2.St->Hp->Prop,(∀σ'' H',N σ'' H'->∃m',m'<m/\W (i+1) m' σ'' H')/\
  ∀x H3,J.yld i H2 x H3->tG K g x σ' H3 fun σ2 H4=>tT K ct σ2 H4 fun b H5=>match b with
   |true=>tE K ce σ2 H5 fun v H6=>∃ys,H6 l=some (.lst ys)/\ys.length<sizeLine/\N σ2 (upd H6 l (.lst (ys++[v])))
   |false=>N σ2 H5):=by
 have ee:Ext K m1 H1 (m1++[l]) (upd H1 l (.lst [])):=.new (br hl _)
 let W:Nat->Nat->L2.St->Hp->Prop:=fun i k σ2 H2=>k=us.length-i/\i<=us.length/\∃m2 ρ2 S2,Ext K (m1++[l]) (upd H1 l (.lst [])) m2 H2/\Sr K m2 S2 H2/\Lr K m2 H2 ρ2 σ2/\bB ok g ct ce S1.length (us.drop i) ρ2 S2=some S'
 refine⟨W,⟨us.length,by simp,Qs _,m1++[l],gJ n caps ρ,S1++[.lst []],.refl,sr1.new (o:=.lst []) hl ⟨[],aJ,.nil_⟩,ve (lr.mono ee),by simpa using h2⟩,?_⟩
 rintro i k σ2 H2 ⟨rfl,hi,m2,ρ2,S2,e2,sr2,lr2,hl2⟩
 by_cases hlt:i<us.length
 ·have hu:=Q7 hlt
  rw[j9 hu]at hl2
  unfold bB at hl2
  split at hl2
  ·rename_i hok
   obtain⟨⟨ρ3,S3⟩,h3,hl2⟩:=Q3.mp hl2
   obtain⟨⟨b4,S4⟩,h4,hl2⟩:=Q3.mp hl2
   obtain⟨hgo,hy⟩:=(ito m2 S2 H2 i (ee.trans e2) sr2 hok).1 _ hu
   refine .inr ⟨hgo,W (i+1) (us.length-(i+1)),fun σ' H' w'=>⟨_,by omega,w'⟩,fun x H3 y=>?_⟩
   obtain⟨e3,sr3,ix⟩:=hy x H3 y
   refine⟨m2,ρ2,S2,_,ρ3,S3,sr3,lr2.mono e3,ix,h3,fun m4 σ4 H4 e4 sr4 lr4=>⟨m4,ρ3,S3,b4,S4,sr4,lr4,h4,fun m4' H4' e4' sr4'=>?_⟩⟩
   cases b4 with
   |false=>
    rw[if_neg QF]at hl2
    exact⟨rfl,hlt,m4',ρ3,_,(((e2.trans e3).trans e4).trans e4'),sr4',lr4.mono e4',hl2⟩
   |true=>
    rw[if_pos rfl]at hl2
    obtain⟨⟨u5,S5⟩,h5,hl2⟩:=Q3.mp hl2
    simp only at hl2
    split at hl2<;>try cases hl2
    rename_i ys hys
    split at hl2<;>try cases hl2
    rename_i hlen
    refine⟨m4',ρ3,S4,u5,S5,sr4',lr4.mono e4',h5,fun m5 v5 H5 e5 sr5 i5=>?_⟩
    obtain⟨a',ha',xs,hx,il⟩:=sr5.get hys
    have ha:m5[S1.length]?=some l:=((((e2.trans e3).trans e4).trans e4').trans e5).get (cN sr1.len)
    rw[ha]at ha';cases ha'
    have eu:Ext K m5 H5 m5 (upd H5 l (.lst (xs++[v5]))):=.of (sr5.keep ha _)
    exact⟨xs,hx,EX (by rw[il.length];exact hlen),rfl,hlt,m5,ρ3,_,(((((e2.trans e3).trans e4).trans e4').trans e5).trans eu),sr5.put (o:=.lst (ys++[u5])) ha ⟨_,aJ,(il.append (.cons_ i5 .nil_)).mono eu⟩,(lr4.mono ((e4'.trans e5).trans eu)),hl2⟩
  ·cases hl2
 ·have e:i=us.length:=by omega
  subst e
  rw[List.drop_length]at hl2
  unfold bB at hl2
  split at hl2
  ·rename_i hok
   cases hl2
   exact .inl ⟨(ito m2 _ H2 _ (ee.trans e2) sr2 hok).2 (QJ _),post m2 H2 e2 sr2⟩
  ·cases hl2
theorem iP{ci:CI}{g:CG}{ct:CT}{ce:CE}{n:Nat}{caps:List Nat}:∀σ H Q,tE K (aG ci g ct ce n caps) σ H Q->iC (tI K ci) (tG K g) (tT K ct) (tE K ce) n caps σ H Q:=by
 rintro σ H Q ⟨m,ρ,S,u,S',sr,lr,hc,post⟩
 obtain⟨⟨us,ok,S1⟩,h1,h2⟩:=Q3.mp hc
 obtain⟨S2,h2,h3⟩:=Q3.mp h2
 cases h3
 refine⟨m,ρ,S,us,ok,S1,sr,lr,h1,fun m1 H1 J e1 sr1 ito l hl=>?_⟩
 have ee:Ext K m1 H1 (m1++[l]) (upd H1 l (.lst [])):=.new (br hl _)
 exact pC sr1 (lr.mono e1) ito hl h2 fun m2 H2 e2 sr2=>post m2 _ H2 ((e1.trans ee).trans e2) sr2 (.ref_ (e2.get (cN sr1.len)))
theorem eK{Nc capN tn:List Str}{scope:Scope}{cl:List (Str×Addr)}{n:Nat}{caps:List Nat}{tg iter elt:Expr}{pos:Pos}{ci:CI}{g:CG}{ct:CT}{ce:CE}{c:Expr}
  (hc:X.calm=true) (hi:QI X tg iter ci) (hg:∀s3 H3 fp,WG (cxC X Nc scope cl s3 H3 fp) tg (tG X.K g)) (ht:∀s3 H3 fp,WT (cxC X Nc scope cl s3 H3 fp) c (tT X.K ct)) (he:∀s3 H3 fp,WE (cxC X Nc scope cl s3 H3 fp) elt (tE X.K ce))
  (hclos:closureFor scope X.env=pure cl) (hkind:scope.kind=.function) (hnl:∀x∈scope.names,x.2=.local->scope.names.lookup x.1=some .local) (hcell:∀x∈scope.names,x.2≠.cell)
  (hcl:mK X.env cl) (hhas:((relabel scope X.env).names.all fun p=>!(p.2 == .cell||p.2 == .free)||(cl.lookup p.1).isSome)=true)
  (hcap:Paired (Cap X scope cl) caps capN) (hN:Nc=tn++capN) (hn:tn.length=n)
  (hs:∀x,foldedSetIterable iter X.env x=pure x:=by intro _;rfl) :
  QE X (.ListComp elt [⟨tg,iter,[c],0⟩] scope pos) (aG ci g ct ce n caps):=(rN hc hi hg he ht hclos hkind hnl hcell hcl hhas hcap hN hn hs).imp iP
end
end OP
namespace OP
open PySem PySem.Spec PyProof PyProof.Rows L2 OG
mutual
inductive RdV(K:Q5)(H:Hp):V->PyData->Prop
 |non:RdV K H .non .none
 |bl (b:Bool):RdV K H (.bl b) (.bool b)
 |int (i:Int):RdV K H (.int i) (.int i)
 |str (x:Str):RdV K H (.str x) (.str x)
 |lst {a:Addr} {xs:List V} {ds:List PyData}:SqL K H a xs->wH K H xs ds->RdV K H (.ref a) (.list ds)
 |tup {a:Addr} {xs:List V} {ds:List PyData}:SqT K H a xs->wH K H xs ds->RdV K H (.ref a) (.tuple ds)
inductive wH(K:Q5)(H:Hp):List V->List PyData->Prop
 |nil:wH K H [] []
 |cons {x:V} {xs:List V} {d:PyData} {ds:List PyData}:RdV K H x d->wH K H xs ds->wH K H (x::xs) (d::ds)
end
mutual
inductive Dt(S:Sto):U->PyData->Prop
 |non:Dt S .non .none
 |bl (b:Bool):Dt S (.bl b) (.bool b)
 |int (i:Int):Dt S (.int i) (.int i)
 |str (x:Str):Dt S (.str x) (.str x)
 |lst {l:Nat} {us:List U} {ds:List PyData}:S[l]?=some (.lst us)->DtL S us ds->Dt S (.ref l) (.list ds)
 |tup {us:List U} {ds:List PyData}:DtL S us ds->Dt S (.tup us) (.tuple ds)
inductive DtL(S:Sto):List U->List PyData->Prop
 |nil:DtL S [] []
 |cons {x:U} {xs:List U} {d:PyData} {ds:List PyData}:Dt S x d->DtL S xs ds->DtL S (x::xs) (d::ds)
end
section
variable{X:Cx}{K:Q5}{pins:List (Addr×Obj)}{σ:L2.St}{H:Hp}{s:Shared}
mutual
theorem RdV.reads(I:Inv X pins σ H s):∀{x:V} {d:PyData} {v:Value},RdV X.K H x d->bN x v->∃as,Reads s.heap v d as
 |_,_,_,.non,r=>by cases r;exact⟨_,.none⟩
 |_,_,_,.bl b,r=>by cases r;exact⟨_,.bool b⟩
 |_,_,_,.int i,r=>by obtain⟨t,rfl⟩:=r;exact⟨_,.int i t⟩
 |_,_,_,.str i,r=>by obtain⟨t,rfl⟩:=r;exact⟨_,.str i t⟩
 |_,_,_,.lst (a:=a) h t,r=>by
  cases r
  obtain⟨its,rv,pl,_⟩:=I.list h
  obtain⟨as,k⟩:=wH.reads I t rv
  obtain⟨o,h1,h2,n,h3⟩:=pl.isList
  exact⟨_,.list h1 h2 h3 (by simpa using k)⟩
 |_,_,_,.tup (a:=a) h t,r=>by
  cases r
  obtain⟨its,rv,pl,_⟩:=I.tuple h
  obtain⟨as,k⟩:=wH.reads I t rv
  obtain⟨o,h1,h2,n,h3⟩:=pl
  exact⟨_,.tuple h1 h2 h3 (by simpa using k)⟩
theorem wH.reads(I:Inv X pins σ H s):∀{xs:List V} {ds:List PyData} {vs:List Value},wH X.K H xs ds->a5 xs vs->∃as,ReadsAll s.heap vs ds as
 |_,_,_,.nil,r=>by cases r;exact⟨_,.nil⟩
 |_,_,_,.cons h t,.cons r rs=>by
  obtain⟨as,a⟩:=RdV.reads I h r
  obtain⟨bs,b⟩:=wH.reads I t rs
  exact⟨_,.cons a b⟩
end
mutual
theorem Dt.rd{m:List Addr}{S:Sto}(sr:Sr K m S H):∀{u:U} {d:PyData} {v:V},Dt S u d->Is K m H v u->RdV K H v d
 |_,_,_,.non,i=>by rw[i.of_non];exact .non
 |_,_,_,.bl b,i=>by rw[i.of_bl];exact .bl b
 |_,_,_,.int b,i=>by rw[i.of_int];exact .int b
 |_,_,_,.str b,i=>by rw[i.of_str];exact .str b
 |_,_,_,.lst h t,i=>by
  obtain⟨a,ha,rfl⟩:=i.of_ref
  obtain⟨a',ha',xs,hx,il⟩:=sr.get h
  rw[ha]at ha';cases ha'
  exact .lst (SqL.of hx) (DtL.rd sr t il)
 |_,_,_,.tup t,i=>by
  obtain⟨a,xs,rfl,sa,la⟩:=i.of_tup
  exact .tup sa (DtL.rd sr t la)
theorem DtL.rd{m:List Addr}{S:Sto}(sr:Sr K m S H):∀{us:List U} {ds:List PyData} {vs:List V},DtL S us ds->IsL K m H vs us->wH K H vs ds
 |_,_,_,.nil,i=>by rw[i.of_nil];exact .nil
 |_,_,_,.cons h t,i=>by
  obtain⟨x,r,rfl,i1,i2⟩:=i.of_cons
  exact .cons (Dt.rd sr h i1) (DtL.rd sr t i2)
end
mutual
theorem Dt.uniq{S:Sto}:∀{u:U} {d e:PyData},Dt S u d->Dt S u e->d=e
 |_,_,_,.non,.non=>rfl
 |_,_,_,.bl _,.bl _=>rfl
 |_,_,_,.int _,.int _=>rfl
 |_,_,_,.str _,.str _=>rfl
 |_,_,_,.lst h t,.lst h' t'=>by
  rw[h]at h';cases h'
  rw[DtL.uniq t t']
 |_,_,_,.tup t,.tup t'=>by rw[DtL.uniq t t']
theorem DtL.uniq{S:Sto}:∀{us:List U} {ds es:List PyData},DtL S us ds->DtL S us es->ds=es
 |_,_,_,.nil,.nil=>rfl
 |_,_,_,.cons h t,.cons h' t'=>by rw[Dt.uniq h h',DtL.uniq t t']
end
def pK(d:PyData):Prop:=d.canLay0=true/\d.depth<=60
def GV(K:Q5)(neg:Bool):R2:=fun x y H Q=>(∃dx dy,RdV K H x dx/\RdV K H y dy/\pK dx/\pK dy/\Q (.bl (if neg then !dx.eqv dy else dx.eqv dy)) H)\/
 ∃a b xs ys,x=.ref a/\y=.ref b/\SqL K H a xs/\SqL K H b ys/\xs.length≠ys.length/\Q (.bl neg) H
theorem zC(hu:X.A.units+64<cLine):OpR X (compareOp .Eq) (GV X.K false):=by
 rintro pins s σ H x y v u Q I rx ry (⟨dx,dy,hx,hy,lx,ly,q⟩|⟨a,b,xs,ys,rfl,rfl,ha,hb,ne,q⟩)
 ·obtain⟨as,hx⟩:=hx.reads I rx
  obtain⟨bs,hy⟩:=hy.reads I ry
  exact SeqAt.compareEq_reads hx hy lx.1 ly.1 (by have:=lx.2;omega) ⟨.bl _,H,I,rfl,q⟩
 ·cases rx
  cases ry
  obtain⟨i1,r1,p1,_⟩:=I.list ha
  obtain⟨i2,r2,p2,_⟩:=I.list hb
  have l1:=r1.length
  have l2:=r2.length
  exact SeqAt.RcAt.lists_lengths p1.isList p2.isList (by simp;omega) (by omega) X.prog X.w X.xe _ ⟨.bl false,H,I,rfl,q⟩
theorem kZ(hu:X.A.units+64<cLine):OpR X (compareOp .NotEq) (GV X.K true):=by
 rintro pins s σ H x y v u Q I rx ry (⟨dx,dy,hx,hy,lx,ly,q⟩|⟨a,b,xs,ys,rfl,rfl,ha,hb,ne,q⟩)
 ·obtain⟨as,hx⟩:=hx.reads I rx
  obtain⟨bs,hy⟩:=hy.reads I ry
  exact SeqAt.compareNe_reads hx hy lx.1 ly.1 (by have:=lx.2;omega) ⟨.bl _,H,I,rfl,q⟩
 ·cases rx
  cases ry
  obtain⟨i1,r1,p1,_⟩:=I.list ha
  obtain⟨i2,r2,p2,_⟩:=I.list hb
  have l1:=r1.length
  have l2:=r2.length
  exact SeqAt.RcNeAt.lists_lengths p1.isList p2.isList (by simp;omega) (by omega) X.prog X.w X.xe _ ⟨.bl true,H,I,rfl,q⟩
def wY(x y:U)(S:Sto)(b:Bool):Prop:=(∃dx dy,Dt S x dx/\Dt S y dy/\pK dx/\pK dy/\b=dx.eqv dy)\/∃l l' us vs,x=.ref l/\y=.ref l'/\S[l]?=some (.lst us)/\S[l']?=some (.lst vs)/\us.length≠vs.length/\b=false
theorem DtL.length{S:Sto}:∀{us:List U} {ds:List PyData},DtL S us ds->us.length=ds.length
 |_,_,.nil=>rfl
 |_,_,.cons _ t=>by rw[QB,QB,DtL.length t]
theorem wY.mix{l l':Nat}{us vs:List U}{S:Sto}{dx dy:PyData}(h1:Dt S (.ref l) dx)(h2:Dt S (.ref l') dy)(k1:S[l]?=some (.lst us))(k2:S[l']?=some (.lst vs))(ne:us.length≠vs.length):dx.eqv dy=false:=by
 cases h1 with
 |lst a1 t1=>
  cases h2 with
  |lst a2 t2=>
   rw[k1]at a1;cases a1
   rw[k2]at a2;cases a2
   show PyData.eqvAll _ _=false
   exact SeqAt.eqvAll_other_length (by rw[<-t1.length,<-t2.length];exact ne)
theorem wY.uniq{x y:U}{S:Sto}{b c:Bool}(h:wY x y S b)(k:wY x y S c):b=c:=by
 rcases h with⟨dx,dy,h1,h2,_,_,rfl⟩|⟨l,l',us,vs,rfl,rfl,h1,h2,ne,rfl⟩
 ·rcases k with⟨ex,ey,k1,k2,_,_,rfl⟩|⟨l,l',us,vs,rfl,rfl,k1,k2,ne,rfl⟩
  ·rw[h1.uniq k1,h2.uniq k2]
  ·exact wY.mix h1 h2 k1 k2 ne
 ·rcases k with⟨ex,ey,k1,k2,_,_,rfl⟩|⟨_,_,_,_,_,_,_,_,_,rfl⟩
  ·exact(wY.mix k1 k2 h1 h2 ne).symm
  ·rfl
open Classical in
def fJ(neg:Bool):U->U->Sto->Option (U×Sto):=fun x y S=>if h:∃b,wY x y S b then some (.bl (if neg then !h.choose else h.choose),S)else none
theorem mC{x y:U}{S:Sto}{b:Bool}(neg:Bool)(h:wY x y S b):fJ neg x y S=some (.bl (if neg then !b else b),S):=by
 unfold fJ
 rw[dif_pos ⟨b,h⟩]
 have e:(⟨b,h⟩:∃b,wY x y S b).choose=b:=(Exists.choose_spec (⟨b,h⟩:∃b,wY x y S b)).uniq h
 rw[e]
theorem nB{neg:Bool}:OpP K (GV K neg) (fJ neg):=by
 intro m S H x y v w u S' Q sr ix iy hf post
 unfold fJ at hf
 split at hf<;>try cases hf
 rename_i h
 have hb:=h.choose_spec
 generalize h.choose=b at hb post
 rcases hb with⟨dx,dy,h1,h2,l1,l2,rfl⟩|⟨l,l',us,vs,rfl,rfl,h1,h2,ne,rfl⟩
 ·exact .inl ⟨dx,dy,h1.rd sr ix,h2.rd sr iy,l1,l2,post m _ H .refl sr .bl_⟩
 ·obtain⟨a,ha,rfl⟩:=ix.of_ref
  obtain⟨a',ha',xs,hx,la⟩:=sr.get h1
  rw[ha]at ha';cases ha'
  obtain⟨c,hc,rfl⟩:=iy.of_ref
  obtain⟨c',hc',ys,hy,lc⟩:=sr.get h2
  rw[hc]at hc';cases hc'
  refine .inr ⟨a,c,xs,ys,rfl,rfl,SqL.of hx,SqL.of hy,by rw[la.length,lc.length];exact ne,?_⟩
  have e:(if neg=true then !false else false)=neg:=by cases neg<;>rfl
  have:=post m _ H .refl sr (Is.bl_ (b:=if neg=true then !false else false))
  rw[e]at this
  exact this
def Ih(K:Q5)(neg:Bool):R2:=fun x y H Q=>∃dx dys,RdV K H x dx/\(RdV K H y (.list dys)\/RdV K H y (.tuple dys))/\pK dx/\PyData.canLayAll0 dys=true/\Q (.bl (if neg then !(dys.any fun z=>z.eqv dx)else dys.any fun z=>z.eqv dx)) H
theorem zB(hu:X.A.units+64<cLine):OpR X (compareOp .In) (Ih X.K false):=by
 rintro pins s σ H x y v u Q I rx ry ⟨dx,dys,hx,hy,lx,ly,q⟩
 obtain⟨as,hx⟩:=hx.reads I rx
 rcases hy with hy|hy
 ·obtain⟨bs,hy⟩:=hy.reads I ry
  exact SeqAt.in_list_reads hy hx ly lx.1 (by have:=lx.2;omega) ⟨.bl _,H,I,rfl,q⟩
 ·obtain⟨bs,hy⟩:=hy.reads I ry
  exact SeqAt.in_tuple_reads hy hx ly lx.1 (by have:=lx.2;omega) ⟨.bl _,H,I,rfl,q⟩
def CV(x y:U)(S:Sto)(b:Bool):Prop:=∃dx dys,Dt S x dx/\(Dt S y (.list dys)\/Dt S y (.tuple dys))/\pK dx/\PyData.canLayAll0 dys=true/\b=dys.any fun z=>z.eqv dx
theorem CV.uniq{x y:U}{S:Sto}{b c:Bool}(h:CV x y S b)(k:CV x y S c):b=c:=by
 obtain⟨dx,dy,h1,h2,_,_,rfl⟩:=h
 obtain⟨ex,ey,k1,k2,_,_,rfl⟩:=k
 rw[h1.uniq k1]
 rcases h2 with h2|h2<;>rcases k2 with k2|k2<;>cases h2.uniq k2<;>rfl
open Classical in
def pf(neg:Bool):U->U->Sto->Option (U×Sto):=fun x y S=>if h:∃b,CV x y S b then some (.bl (if neg then !h.choose else h.choose),S)else none
theorem CC{x y:U}{S:Sto}{b:Bool}(neg:Bool)(h:CV x y S b):pf neg x y S=some (.bl (if neg then !b else b),S):=by
 unfold pf
 rw[dif_pos ⟨b,h⟩]
 have e:(⟨b,h⟩:∃b,CV x y S b).choose=b:=(Exists.choose_spec (⟨b,h⟩:∃b,CV x y S b)).uniq h
 rw[e]
theorem EH{neg:Bool}:OpP K (Ih K neg) (pf neg):=by
 intro m S H x y v w u S' Q sr ix iy hf post
 unfold pf at hf
 split at hf<;>try cases hf
 rename_i h
 have hb:=h.choose_spec
 generalize h.choose=b at hb post
 obtain⟨dx,dy,h1,h2,l1,l2,rfl⟩:=hb
 exact⟨dx,dy,h1.rd sr ix,h2.elim (fun z=>.inl (z.rd sr iy)) (fun z=>.inr (z.rd sr iy)),l1,l2,post m _ H .refl sr .bl_⟩
def lD(us:List U)(lo hi:Option Int):List U:=(us.drop (HT.sIx us.length 0 lo)).take (HT.sIx us.length us.length hi-HT.sIx us.length 0 lo)
theorem rk{m:List Addr}{xs:List V}{us:List U}{lo hi:Option Int}(i:IsL K m H xs us):IsL K m H (zZ xs lo hi) (lD us lo hi):=by
 unfold zZ lD
 rw[i.length]
 exact(i.drop _).take _
def fSl(x:U)(lo hi:Option Int)(S:Sto):Option (U×Sto):=match x with
 |.tup us=>if HT.sIx us.length 0 lo=0/\HT.sIx us.length us.length hi=us.length then none else some (.tup (lD us lo hi),S)
 |.ref l=>match S[l]? with
  |some (.lst us)=>some (.ref S.length,S++[.lst (lD us lo hi)])
  |_=>none
 |_=>none
def fC:Option CE->Rho->Sto->Option (Option Int×Sto)
 |none,_,S=>some (none,S)
 |some c,ρ,S=>(c ρ S).bind fun p=>match p.1 with
  |.int i=>some (some i,p.2)
  |_=>none
def cSl(ca:CE)(cl ch:Option CE):CE:=fun ρ S=>(ca ρ S).bind fun p=>(fC cl ρ p.2).bind fun q=>(fC ch ρ q.2).bind fun r=>fSl p.1 q.1 r.1 r.2
def HR(K:Q5)(m:List Addr)(H:Hp)(Q:Option Int->Hp->Prop)(o:Option Int)(S':Sto):Prop:=∀m' H',Ext K m H m' H'->Sr K m' S' H'->Q o H'
def tO(K:Q5)(c:Option CE):TO:=fun σ H Q=>∃m ρ S o S',Sr K m S H/\Lr K m H ρ σ/\fC c ρ S=some (o,S')/\HR K m H Q o S'
abbrev QO(X:Cx)(e:Option Expr)(c:Option CE):Prop:=WO X e (tO X.K c)
theorem bu:QO X none none:=⟨fun pins s σ H Q I hz=>ie hz fun m ρ S o S' sr lr hc post=>xm.h pins s σ H Q I (by cases hc;exact post m H .refl sr)⟩
theorem bt{e:Expr}{ca:CE}(h:QE X e ca):QO X (some e) (some ca):=⟨fun pins s σ H Q I hz=>ie hz fun m ρ S o S' sr lr hc post=>(xl h).h pins s σ H Q I (by
 obtain⟨⟨x,S1⟩,h1,h2⟩:=Q3.mp hc
 refine⟨m,ρ,S,x,S1,sr,lr,h1,fun m1 v1 H1 e1 sr1 i1=>?_⟩
 cases x<;>simp at h2
 obtain⟨rfl,rfl⟩:=h2
 exact⟨_,i1.of_int,post m1 H1 e1 sr1⟩)⟩
theorem me{e:Expr}{lo hi:Option Expr}{ca:CE}{cl ch:Option CE}{pos p2:Pos}(ha:QE X e ca)(hl:QO X lo cl)(hh:QO X hi ch):QE X (.Subscript e (.Slice lo hi none p2) pos) (cSl ca cl ch):=(mQ (ub.or zm) ha hl hh).imp fun σ H Q hz=>ie hz fun m ρ S u S' sr lr hc post=>by
 obtain⟨⟨x,S1⟩,h1,ha⟩:=Q3.mp hc
 obtain⟨⟨l,S2⟩,h2,hb⟩:=Q3.mp ha
 obtain⟨⟨k,S3⟩,h3,h⟩:=Q3.mp hb
 clear ha hb hc
 refine⟨m,ρ,S,x,S1,sr,lr,h1,fun m1 v1 H1 e1 sr1 i1=>⟨m1,ρ,S1,l,S2,sr1,lr.mono e1,h2,fun m2 H2 e2 sr2=>⟨m2,ρ,S2,k,S3,sr2,lr.mono (e1.trans e2),h3,fun m3 H3 e3 sr3=>?_⟩⟩⟩
 have i3:=i1.mono (e2.trans e3)
 have e03:=(e1.trans e2).trans e3
 cases x with
 |tup us=>
  simp only[fSl]at h
  split at h<;>try cases h
  rename_i hw
  obtain⟨a,xs,rfl,sa,la⟩:=i3.of_tup
  exact .inr ⟨a,xs,rfl,sa,by rw[la.length];exact hw,fun p hp=>jc sr3 (rk la) (post.mono e03) hp⟩
 |ref r=>
  simp only[fSl]at h
  split at h<;>try cases h
  rename_i us hS
  obtain⟨a,ha,rfl⟩:=i3.of_ref
  obtain⟨a',ha',xs,hx,la⟩:=sr3.get hS
  rw[ha]at ha';cases ha'
  exact .inl ⟨a,xs,rfl,SqL.of hx,fun p hp=>bP sr3 (rk la) (post.mono e03) hp⟩
 |_=>simp[fSl]at h
end
section
variable{X:Cx}{K:Q5}
instance {us:List U}:Decidable (us≠[]):=match us with
 |[]=>.isFalse fun h=>h rfl
 |_::_=>.isTrue fun h=>by cases h
end
end OP
namespace OG
open PySem PySem.Spec PyProof.Rows L2
theorem zD{C a:Addr}{m:Str->Option Value}{h h':Heap}(n:h.Ns C m)(s:Ze a h h')(ne:C≠a):h'.Ns C m:=by
 obtain⟨o,es,ep,e,r⟩:=n
 exact⟨o,es,ep,(s.2 C ne).trans e,r⟩
theorem mP{X:Cx}{Nc capN tn:List Str}{scope:Scope}{cl:List (Str×Addr)}{n:Nat}{caps:List Nat}{tg iter elt:Expr}{pos:Pos}{wi:TI}{g:TG}{te:TE}{tt:TT}{c:Expr}
  (hc:X.calm=true) (hi:WI X tg iter wi) (hg:∀s3 H3 fp,WG (cxC X Nc scope cl s3 H3 fp) tg g) (he:∀s3 H3 fp,WE (cxC X Nc scope cl s3 H3 fp) elt te)
  (ht:∀s3 H3 fp,WT (cxC X Nc scope cl s3 H3 fp) c tt)
  (hclos:closureFor scope X.env=pure cl) (hkind:scope.kind=.function) (hnl:∀x∈scope.names,x.2=.local->scope.names.lookup x.1=some .local) (hcell:∀x∈scope.names,x.2≠.cell)
  (hcl:mK X.env cl) (hhas:((relabel scope X.env).names.all fun p=>!(p.2 == .cell||p.2 == .free)||(cl.lookup p.1).isSome)=true)
  (hcap:Paired (Cap X scope cl) caps capN) (hN:Nc=tn++capN) (hn:tn.length=n)
  {i₀:Nat} {x₀:Str} {pos₀ pos':Pos} (hN0:X.N.Nodup) (hi0:X.N[i₀]?=some x₀) (hx0:X.env.scope.names.lookup x₀=some .local)
  (hsw:swapsWith (.ListComp elt [⟨tg,iter,[c],0⟩] scope pos) (some (.Name x₀ pos')) pos₀.line X.env=pure true)
  (hs:∀x,foldedSetIterable iter X.env x=pure x:=by intro _;rfl) :
  WS X (.Assign [.Name x₀ pos'] (.ListComp elt [⟨tg,iter,[c],0⟩] scope pos) pos₀) (fun D σ H=>iC wi g tt te n caps σ H fun v H'=>D.nx (σ.set i₀ (some v)) H'):=by
 constructor
 intro pins s σ H Dn I h
 rw[exec_Assign_arm]
 refine Q2 (wpAny_standAt ?_)
 have hsw':swapsWithSole [.Name x₀ pos'] (.ListComp elt [⟨tg,iter,[c],0⟩] scope pos) pos₀.line X.env=pure true:=hsw
 rw[hsw']
 refine Q2 (Q8 ?_)
 rw[if_pos rfl,arm_evalThenUse_ListComp]
 refine Q2 (Q2 (lG (Qf:=fun _ s'=>wpAny (model X.prog X.w) X.A (pure ()) (fun _ s'=>wpAny (model X.prog X.w) X.A (pure Flow.next) (SP X pins Dn) X.xe s') X.xe s') hc hi hg he ht hclos hkind hnl hcell hcl hhas hcap hN hn I h (fun D C s6 H5 m I7 hm fr nl sz cn pn qn=>?_) hs))
 show wpAny _ _ (assign (.Name x₀ pos') X.env (.ref D)) _ _ s6
 rw[arm_assign_Name]
 refine Q2 (wpAny_standAt (wpAny_bindName (jv (v:=.ref D) I7 hN0 hi0 (.inl hx0) rfl (fun s7 I7' hsb=>?_) (.inr hx0))))
 obtain⟨a7,hsb,ha7⟩:=hsb
 have cNe:C≠a7:=by
  rcases ha7 with z|z
  ·rw[z];exact nl
  ·exact Ne.symm (cn _ _ z)
 refine⟨m,zD hm hsb cNe,fun h' hs'=>Q8 (Q8 ⟨_,H5,?_,qn⟩)⟩
 exact I7'.turned (t':=s7.toks) (it:=C) (fun b o hb e=>hs'.extBut b o hb e) fr nl (.inr sz) cn pn
end OG
namespace OP
open PySem PySem.Spec PyProof.Rows L2 OG
section
variable{X:Cx}{K:Q5}
theorem ni{i₀:Nat}{x₀:Str}{pos₀ pos':Pos}{Nc capN tn:List Str}{scope:Scope}{cl:List (Str×Addr)}{n:Nat}{caps:List Nat}{tg iter elt:Expr}{pos:Pos}{ci:CI}{g:CG}{ct:CT}{ce:CE}{c:Expr}
  (hc:X.calm=true) (hi:QI X tg iter ci) (hg:∀s3 H3 fp,WG (cxC X Nc scope cl s3 H3 fp) tg (tG X.K g)) (ht:∀s3 H3 fp,WT (cxC X Nc scope cl s3 H3 fp) c (tT X.K ct)) (he:∀s3 H3 fp,WE (cxC X Nc scope cl s3 H3 fp) elt (tE X.K ce))
  (hclos:closureFor scope X.env=pure cl) (hkind:scope.kind=.function) (hnl:∀x∈scope.names,x.2=.local->scope.names.lookup x.1=some .local) (hcell:∀x∈scope.names,x.2≠.cell)
  (hcl:mK X.env cl) (hhas:((relabel scope X.env).names.all fun p=>!(p.2 == .cell||p.2 == .free)||(cl.lookup p.1).isSome)=true)
  (hcap:Paired (Cap X scope cl) caps capN) (hN:Nc=tn++capN) (hn:tn.length=n)
  (hN0:X.N.Nodup) (hi0:X.N[i₀]?=some x₀) (hx0:X.env.scope.names.lookup x₀=some .local)
  (hsw:swapsWith (.ListComp elt [⟨tg,iter,[c],0⟩] scope pos) (some (.Name x₀ pos')) pos₀.line X.env=pure true)
  (hs:∀x,foldedSetIterable iter X.env x=pure x:=by intro _;rfl) :
  QS X (.Assign [.Name x₀ pos'] (.ListComp elt [⟨tg,iter,[c],0⟩] scope pos) pos₀) (bM i₀ (aG ci g ct ce n caps)):=(mP hc hi hg he ht hclos hkind hnl hcell hcl hhas hcap hN hn hN0 hi0 hx0 hsw hs).imp fun D σ H hz=>sE hz fun m ρ S o ρ' S' sr lr hc post=>by
 obtain⟨⟨u,S1⟩,h1,h2⟩:=Q3.mp hc
 cases h2
 exact iP _ _ _ ⟨m,ρ,S,u,_,sr,lr,h1,fun m1 v1 H1 e1 sr1 i1=>post m1 _ H1 e1 sr1 ((lr.mono e1).set i₀ i1)⟩
end
end OP
namespace OP
open PySem PySem.Spec PyProof PyProof.Rows L2 OG
section
variable{X:Cx}{K:Q5}
def fc(ca:CE):CE:=fun ρ S=>(ca ρ S).bind fun p=>match p.1 with
 |.int i=>some (.int (-i),p.2)
 |_=>none
theorem zh:UnR X (unaryOp .USub) (fun x H Q=>∃i,x=.int i/\Q (.int (-i)) H):=by
 rintro pins s σ H x v Q I rx ⟨i,rfl,q⟩
 obtain⟨t,rfl⟩:=rx
 exact PyProof.Rows.neg_int ⟨.int (-i),H,I.tok _,⟨_,rfl⟩,q⟩
theorem kB{a:Expr}{ca:CE}{pos:Pos}(ha:QE X a ca):QE X (.UnaryOp .USub a pos) (fc ca):=(DL zh ha).imp fun σ H Q hz=>ie hz fun m ρ S u S' sr lr hc post=>by
 obtain⟨⟨x,S1⟩,h1,h2⟩:=Q3.mp hc
 refine⟨m,ρ,S,x,S1,sr,lr,h1,fun m1 v1 H1 e1 sr1 i1=>?_⟩
 cases x<;>simp at h2
 obtain⟨rfl,rfl⟩:=h2
 exact⟨_,i1.of_int,post m1 _ H1 e1 sr1 .int_⟩
def ej:U->List U->Sto->Option (U×Sto)
 |.ref l,[.ref b],S=>match S[l]?,S[b]? with
  |some (.lst us),some (.lst vs)=>if us.length+vs.length<=LIM then some (.non,S.set l (.lst (us++vs)))else none
  |_,_=>none
 |_,_,_=>none
theorem ye:MtP K uv ej:=by
 intro m S H x v us vs u S' Q sr ix i hf post
 match x,us,hf with
 |.ref l,[.ref b],hf=>
  simp only[ej]at hf
  split at hf<;>try cases hf
  rename_i xs0 ys0 hS hB
  split at hf<;>try cases hf
  rename_i hl
  obtain⟨a,ha,rfl⟩:=ix.of_ref
  obtain⟨a',ha',xs,hx,la⟩:=sr.get hS
  rw[ha]at ha';cases ha'
  obtain⟨y,rfl,iy⟩:=i.one
  obtain⟨c,hc,rfl⟩:=iy.of_ref
  obtain⟨c',hc',ys,hy,lb⟩:=sr.get hB
  rw[hc]at hc';cases hc'
  have eu:Ext K m H m (upd H a (.lst (xs++ys))):=.of (sr.keep ha _)
  exact⟨a,c,xs,ys,rfl,rfl,hx,hy,lim (by rw[la.length,lb.length];exact hl),post m _ _ eu (sr.put ha ⟨_,aJ,(la.append lb).mono eu⟩) .non_⟩
def lC:U->List U->Sto->Option (U×Sto)
 |.ref l,[.int i],S=>match S[l]? with
  |some (.lst us)=>if 0<=i/\i<us.length/\us.length<=LIM then(us[i.toNat]?).bind fun u=>some (u,S.set l (.lst (us.eraseIdx i.toNat)))else none
  |_=>none
 |_,_,_=>none
theorem BU:MtP K zr lC:=by
 intro m S H x v us vs u S' Q sr ix i hf post
 match x,us,hf with
 |.ref l,[.int k],hf=>
  simp only[lC]at hf
  split at hf<;>try cases hf
  rename_i ws hS
  split at hf<;>try cases hf
  rename_i hk
  obtain⟨w,hw,h⟩:=Q3.mp hf
  cases h
  obtain⟨a,ha,rfl⟩:=ix.of_ref
  obtain⟨a',ha',xs,hx,la⟩:=sr.get hS
  rw[ha]at ha';cases ha'
  obtain⟨y,hy,iy⟩:=la.getD hw
  obtain⟨z,rfl,iz⟩:=i.one
  have eu:Ext K m H m (upd H a (.lst (xs.eraseIdx k.toNat))):=.of (sr.keep ha _)
  have hL:ws.length<=100000:=hk.2.2
  exact⟨a,xs,k,k.toNat,y,rfl,by rw[iz.of_int],hx,by omega,by omega,seqIndex_of hk.1 (by rw[la.length];exact hk.2.1),hy,post m _ _ eu (sr.put ha ⟨_,aJ,(la.erase _).mono eu⟩) (iy.mono eu)⟩
variable{e:Expr}{es:List Expr}{co:CE}{cr:CA}{o:Expr}{apos cpos:Pos}
theorem gM (ho : QE X o co) (ha : QA X (e :: es) cr) (hbase : attributeBase o "extend" X.env (eval o X.env) = eval o X.env := by rfl) (hfew : ((backTo cpos (starEach (e :: es) X.env)).all (fun x => !x.1) && (backToKw cpos (keywordEach [] X.env)).all (fun x => x.1.isSome)
   && decide ((e::es).length+([]:List Keyword).length+(if ([]:List Keyword).isEmpty then 0 else 1)<30))=true:=by rfl) (hline:(apos.endLine == cpos.line)=true:=by rfl) (hs:starEach (e::es) X.env=(false,eval e X.env)::starEach es X.env:=by rfl) (hplain:(backTo cpos (starEach es X.env)).any (·.1)=false:=by rfl) :
  QE X (.Call (.Attribute o "extend" apos) (e::es) [] cpos) (cBM ej co cr):=(pT PySem.F.plainAttrs_list PySem.F.slot_list_extend PySem.F.type_list_extend u0 ho ha.h hbase hfew hline hs hplain).imp (rB ye)
theorem Bv (ho : QE X o co) (ha : QA X (e :: es) cr) (hbase : attributeBase o "pop" X.env (eval o X.env) = eval o X.env := by rfl) (hfew : ((backTo cpos (starEach (e :: es) X.env)).all (fun x => !x.1) && (backToKw cpos (keywordEach [] X.env)).all (fun x => x.1.isSome)
   && decide ((e::es).length+([]:List Keyword).length+(if ([]:List Keyword).isEmpty then 0 else 1)<30))=true:=by rfl) (hline:(apos.endLine == cpos.line)=true:=by rfl) (hs:starEach (e::es) X.env=(false,eval e X.env)::starEach es X.env:=by rfl) (hplain:(backTo cpos (starEach es X.env)).any (·.1)=false:=by rfl) :
  QE X (.Call (.Attribute o "pop" apos) (e::es) [] cpos) (cBM lC co cr):=(pT PySem.F.plainAttrs_list PySem.F.slot_list_pop PySem.F.type_list_pop yj ho ha.h hbase hfew hline hs hplain).imp (rB BU)
def ck(cr:CA):CE:=fun ρ S=>(cr ρ S).bind fun p=>match p.1 with
 |[.int j]=>if 0<=j/\j<=1000 then some (.ref p.2.length,p.2++[.lst (aX 0 j.toNat)])else none
 |_=>none
theorem lB:∀(n:Nat) (a:Int) (vs:List Value),vs.length=n->(∀(j:Nat) (v:Value),vs[j]?=some v->∃t,v=Value.int (a+(j:Int)) t)->a5 ((Qj n).map fun i:Nat=>V.int (a+(i:Nat))) vs
 |0,a,vs,hl,h=>by
  rw[List.length_eq_zero_iff.mp hl];exact .nil
 |n+1,a,[],hl,h=>by simp at hl
 |n+1,a,v::vs,hl,h=>by
  rw[List.range_succ_eq_map,Qx,Qc]
  refine .cons ?_ ?_
  ·obtain⟨t,e⟩:=h 0 v rfl
   exact⟨t,by simpa using e⟩
  ·have:=lB n (a+1) vs (by simpa using hl) fun j x hx=>by
    obtain⟨t,e⟩:=h (j+1) x (by simpa using hx)
    exact⟨t,by rw[e];congr 1;omega⟩
   have e:(Qj n).map (fun i:Nat=>V.int (a+1+(i:Nat)))=(Qj n).map ((fun i:Nat=>V.int (a+(i:Nat))) ∘ Nat.succ):=Zu fun i _=>by
    simp only[Function.comp];congr 1;omega
   rw[<-e];exact this
theorem mT{a:Expr}{ta:TA}{p1 p2 pos1 pos2:Pos}(hc:X.calm=true)(hgl:Gl X "list")(hml:X.mg "list"=none)(hg:Gl X "range")(hm:X.mg "range"=none)(ha:WA X [a] ta)(hs:starEach [a] X.env=[(false,eval a X.env)])
  (hs1:starEach [Expr.Call (.Name "range" p2) [a] [] pos2] X.env=[(false,eval (.Call (.Name "range" p2) [a] [] pos2) X.env)]) :
  WE X (.Call (.Name "list" p1) [.Call (.Name "range" p2) [a] [] pos2] [] pos1) (fun σ H Q=>ta σ H fun vs H1=>∃j:Int,vs=[.int j]/\0<=j/\j<=1000/\∀p,H1 p=none->Q (.ref p) (upd H1 p (.lst ((Qj j.toNat).map fun i:Nat=>V.int (0+(i:Nat)))))):=by
 constructor
 intro pins s σ H Q I h
 refine wpAny_Call_Name_kw (gY I hgl hml OG.dQ ?_ (by decide) (by decide))
 refine PyProof.Rows.callWith_type1 ?_ hs1 rfl
 rw[hs1]
 show wpAny _ _ (spliced [(false,eval (.Call (.Name "range" p2) [a] [] pos2) X.env)]) _ _ s
 refine Calls.spliced_cons ?_
 refine Call_ (gY I hg hm boot_range (PyProof.Rows.callWith_type1 (thn (ha.h pos2 pins s σ H _ I h) fun us s1 ⟨vs,H1,I1,r1,q1⟩=>?_) hs rfl))
 obtain⟨j,e,j0,j1,q⟩:=q1
 subst e
 cases r1 with
 |cons r rr=>
  cases rr
  obtain⟨t,rfl⟩:=r
  refine call_range_1 ?_
  refine Calls.spliced_nil ?_
  have hsz:Builtin.Range.rangeSize 0 j 1=((j.toNat:Nat):Int):=by
   unfold Builtin.Range.rangeSize
   simp
   omega
  refine call_list_range (n:=j.toNat) (I1.ok.hd hc) (QY _ rfl) ?_ hsz (by omega) fun h' tk acc c' hk hg' hi=>?_
  ·unfold Builtin.Range.small
   rw[hsz]
   unfold Builtin.Range.rangeFitsLong
   simp
   omega
  ·have hv:a5 ((Qj j.toNat).map fun i:Nat=>V.int (0+(i:Nat))) acc.toList:=lB j.toNat 0 acc.toList (by simpa using hi.1) fun k v hv=>by
    obtain⟨t,e⟩:=hi.2 k v (by simpa using hv)
    exact⟨t,by rw[e];congr 1;omega⟩
   refine⟨.ref _,_,I1.laid (t':=tk) (o:=.lst ((Qj j.toNat).map fun i:Nat=>V.int (0+(i:Nat)))) (fun b ob q=>hk b ob (Q4 _ q)) (by rw[Z7];omega) ?_,rfl,q _ (I1.hok.fresh (by rw[Z7];omega))⟩
   exact⟨by rw[QZ,Za];exact Qy (by omega) (show 1000<=sizeLine by decide),_,_,hv,by simpa using hg'⟩
theorem vE{m:List Addr}{H:Hp}(n:Nat):IsL K m H ((Qj n).map fun i:Nat=>V.int (0+(i:Nat))) (aX 0 n):=by
 unfold aX
 generalize Qj n=l
 induction l with
 |nil=>exact .nil_
 |cons a r ih=>exact .cons_ .int_ ih
theorem fX{a:Expr}{cr:CA}{p1 p2 pos1 pos2:Pos}(hc:X.calm=true)(hgl:Gl X "list")(hml:X.mg "list"=none)(hg:Gl X "range")(hm:X.mg "range"=none)(ha:QA X [a] cr)(hs:starEach [a] X.env=[(false,eval a X.env)])
  (hs1:starEach [Expr.Call (.Name "range" p2) [a] [] pos2] X.env=[(false,eval (.Call (.Name "range" p2) [a] [] pos2) X.env)]) :
  QE X (.Call (.Name "list" p1) [.Call (.Name "range" p2) [a] [] pos2] [] pos1) (ck cr):=(mT hc hgl hml hg hm ha.h hs hs1).imp fun σ H Q hz=>ie hz fun m ρ S u S' sr lr hc post=>by
 obtain⟨⟨ws,S1⟩,h1,h2⟩:=Q3.mp hc
 simp only at h2
 split at h2<;>try cases h2
 rename_i j
 split at h2<;>try cases h2
 rename_i hj
 refine⟨m,ρ,S,_,S1,sr,lr,h1,fun m1 v1 H1 e1 sr1 i1=>?_⟩
 obtain⟨x,rfl,ix⟩:=i1.one
 rw[ix.of_int]
 exact⟨j,rfl,hj.1,hj.2,fun p hp=>bP sr1 (vE _) (post.mono e1) hp⟩
end
section
variable{X:Cx}{K:Q5}
variable{Nc capN tn:List Str}{scope:Scope}{cl:List (Str×Addr)}{n:Nat}{caps:List Nat}{tg iter elt c:Expr}{pos:Pos}{ci:CE}{g:CG}{ct:CT}{ce:CE}
def Bc:List U->Option (List Key)
 |[]=>some []
 |u::r=>(mL u).bind fun k=>(Bc r).map (k::·)
theorem oR{m:List Addr}{H:Hp}:∀{us:List U} {xs:List V} {ks:List Key},IsL K m H xs us->Bc us=some ks->xs=ks.map kV
 |[],xs,ks,i,h=>by cases h;exact i.of_nil
 |u::r,xs,ks,i,h=>by
  obtain⟨x,t,rfl,ix,it⟩:=i.of_cons
  obtain⟨k,hk,h⟩:=Q3.mp h
  obtain⟨ks',h',rfl⟩:=Qm.mp h
  rw[iN ix hk,oR it h'];rfl
def wm:CE:=fun _ S=>some (.ref S.length,S++[.dit []])
theorem uB{pos:Pos}:QE X (.Dict [] [] pos) wm:=tK.imp fun σ H Q hz=>ie hz fun m ρ S u S' sr lr hc post=>by
 cases hc
 exact fun p hp=>post (m++[p]) _ _ (.new (br hp _)) (sr.new hp ⟨[],aJ,.nil_⟩) (.ref_ (cN sr.len))
def gh(co:CE)(cr:CA)(cv:CE):CS:=fun ρ S=>(cv ρ S).bind fun p=>(co ρ p.2).bind fun q=>(cr ρ q.2).bind fun r=>match q.1 with
 |.ref l=>match r.2[l]? with
  |some (.dit kus)=>(Bc r.1).bind fun k=>if kus.length<LIM/\r.1.length<=LIM then some (.nx,ρ,r.2.set l (.dit (jG kus k p.1)))else none
  |_=>none
 |_=>none
theorem nh{o:Expr}{es:List Expr}{e:Expr}{co cv:CE}{cr:CA}{k2:Nat}{p2 pos pos':Pos}(hu:X.A.units+1<cLine)(ho:QE X o co)(hi:QA X es cr)(hv:QE X e cv)
  (hs:swapsWith e (some (.Subscript o (.Tuple es k2 p2) pos')) pos.line X.env=pure false:=by rfl):QS X (.Assign [.Subscript o (.Tuple es k2 p2) pos'] e pos) (gh co cr cv):=
 (pR hu ho (tJ hi.h) hv hs).imp fun D σ H hz=>sE hz fun m ρ S oo ρ' S' sr lr hc post=>by
 obtain⟨⟨v,S1⟩,h1,ha⟩:=Q3.mp hc
 obtain⟨⟨ou,S2⟩,h2,hb⟩:=Q3.mp ha
 obtain⟨⟨ius,S3⟩,h3,h⟩:=Q3.mp hb
 clear ha hb hc
 cases ou with
 |ref l=>
  simp only at h
  split at h<;>try cases h
  rename_i kus hS
  obtain⟨k,hk,h4⟩:=Q3.mp h
  split at h4<;>try cases h4
  rename_i hlen
  refine⟨m,ρ,S,v,S1,sr,lr,h1,fun m1 v1 H1 e1 sr1 i1=>⟨m1,ρ,S1,_,S2,sr1,lr.mono e1,h2,fun m2 v2 H2 e2 sr2 i2=>⟨m2,ρ,S2,ius,S3,sr2,lr.mono (e1.trans e2),h3,fun m3 vs H3 e3 sr3 i3=>?_⟩⟩⟩
  refine⟨lim (by rw[i3.length];exact hlen.2),fun p hp=>?_⟩
  obtain⟨a,ha,rfl⟩:=(i2.mono e3).of_ref
  obtain⟨a',ha',kvs,hx,ip⟩:=sr3.get hS
  rw[ha]at ha';cases ha'
  have hvs:=oR i3 hk
  subst hvs
  have s3:rF H3 (upd H3 p (.tup (k.map kV))):=eJ hp _
  have en:Ext X.K m3 H3 m3 (upd H3 p (.tup (k.map kV))):=.of (br hp _)
  have srn:=sr3.same s3
  have hxn:(upd H3 p (.tup (k.map kV))) a=some (.dT kvs):=s3 _ _ hx
  have e13:=((e1.trans e2).trans e3).trans en
  have ee:Ext X.K m3 (upd H3 p (.tup (k.map kV))) m3 (upd (upd H3 p (.tup (k.map kV))) a (.dT (oG kvs k v1))):=.of (srn.keep ha _)
  exact⟨a,_,rfl,Af.t hxn aJ (EX (by rw[IsP.length ip];exact hlen.1)),post m3 σ _ (e13.trans ee) (srn.put ha ⟨_,aJ,(IsP.put (ip.mono en) (i1.mono ((e2.trans e3).trans en))).mono ee⟩) (lr.mono (e13.trans ee))⟩
 |_=>cases h
end
end OP
namespace OP
open PySem PySem.Spec PyProof PyProof.Rows L2 OG PySem.W
section
variable{cmp:Nat->Nat->(Bool->Shared->Prop)->Shared->Prop}{s:Shared}{n:Nat}{lt:Nat->Nat->Bool}
structure wX(n:Nat)(lt:Nat->Nat->Bool):Prop where
 tr:∀{i j k},i<n->j<n->k<n->lt i j=true->lt j k=true->lt i k=true
 tot:∀{i j},i<n->j<n->i≠j->lt i j=false->lt j i=true
 asym:∀{i j},i<n->j<n->lt i j=true->lt j i=false
def C8(cmp:Nat->Nat->(Bool->Shared->Prop)->Shared->Prop)(n:Nat)(lt:Nat->Nat->Bool)(s:Shared):Prop:=∀i j C,i<n->j<n->C (lt i j) s->cmp i j C s
structure Pm(n:Nat)(p:Array Nat):Prop where
 sz:p.size=n
 bd:∀i,i<n->p.getD i 0<n
 ne:∀i j,i<j->j<n->p.getD i 0≠p.getD j 0
def Asc(lt:Nat->Nat->Bool)(p:Array Nat)(k:Nat):Prop:=∀i j,i<j->j<k->lt (p.getD i 0) (p.getD j 0)=true
def Dsc(lt:Nat->Nat->Bool)(p:Array Nat)(k:Nat):Prop:=∀i j,i<j->j<k->lt (p.getD j 0) (p.getD i 0)=true
variable{p:Array Nat}
theorem Pm.ne'(P:Pm n p){i j:Nat}(hi:i<n)(hj:j<n)(h:i≠j):p.getD i 0≠p.getD j 0:=by
 rcases Nat.lt_or_gt_of_ne h with z|z
 ·exact P.ne i j z hj
 ·exact Ne.symm (P.ne j i z hi)
theorem Asc.snoc(O:wX n lt)(P:Pm n p){m:Nat}(h1:1<=m)(hm:m<n)(h:Asc lt p m)(h2:lt (p.getD (m-1) 0) (p.getD m 0)=true):Asc lt p (m+1):=fun i j hij hj=>by
 by_cases e:j=m
 ·subst e
  by_cases e2:i=j-1
  ·subst e2;exact h2
  ·exact O.tr (P.bd _ (by omega)) (P.bd _ (by omega)) (P.bd _ (by omega)) (h i (j-1) (by omega) (by omega)) h2
 ·exact h i j hij (by omega)
theorem Dsc.snoc(O:wX n lt)(P:Pm n p){m:Nat}(h1:1<=m)(hm:m<n)(h:Dsc lt p m)(h2:lt (p.getD m 0) (p.getD (m-1) 0)=true):Dsc lt p (m+1):=fun i j hij hj=>by
 by_cases e:j=m
 ·subst e
  by_cases e2:i=j-1
  ·subst e2;exact h2
  ·exact O.tr (P.bd _ (by omega)) (P.bd _ (by omega)) (P.bd _ (by omega)) h2 (h i (j-1) (by omega) (by omega))
 ·exact h i j hij (by omega)
theorem wB(O:wX n lt)(A:C8 cmp n lt s)(P:Pm n p):∀(f m:Nat) {Q:Nat->Shared->Prop},1<=m->m+f<=n->Asc lt p m->(∀m',m<=m'->m'<=m+f->Asc lt p m'->(m'=m+f\/lt (p.getD m' 0) (p.getD (m'-1) 0)=true)->Q m' s)->(kas_asc p f m).kasWp cmp Q s
 |0,m,Q,h1,h2,h3,q=>q m (QJ _) (by omega) h3 (.inl rfl)
 |f+1,m,Q,h1,h2,h3,q=>by
  refine A _ _ _ (P.bd _ (by omega)) (P.bd _ (by omega)) ?_
  cases hc:lt (p.getD m 0) (p.getD (m-1) 0)with
  |true=>exact q m (QJ _) (by omega) h3 (.inr hc)
  |false=>
   have h4:=h3.snoc O P h1 (by omega) (O.tot (P.bd _ (by omega)) (P.bd _ (by omega)) (P.ne' (by omega) (by omega) (by omega)) hc)
   exact wB O A P f (m+1) (by omega) (by omega) h4 fun m' a b c d=>q m' (by omega) (by omega) c (by rcases d with d|d;exact .inl (by omega);exact .inr d)
theorem vV(O:wX n lt)(A:C8 cmp n lt s)(P:Pm n p):∀(f m:Nat) {Q:Array Nat×Nat×Nat->Shared->Prop},1<=m->m+f<=n->Dsc lt p m->(∀m',m<=m'->m'<=m+f->Dsc lt p m'->Q (p,m',0) s)->(kas_desc f p m 0).kasWp cmp Q s
 |0,m,Q,h1,h2,h3,q=>q m (QJ _) (by omega) h3
 |f+1,m,Q,h1,h2,h3,q=>by
  refine A _ _ _ (P.bd _ (by omega)) (P.bd _ (by omega)) ?_
  cases hc:lt (p.getD m 0) (p.getD (m-1) 0)with
  |true=>exact vV O A P f (m+1) (by omega) (by omega) (h3.snoc O P h1 (by omega) hc) fun m' a b c=>q m' (by omega) (by omega) c
  |false=>
   refine A _ _ _ (P.bd _ (by omega)) (P.bd _ (by omega)) ?_
   rw[O.tot (P.bd _ (by omega)) (P.bd _ (by omega)) (P.ne' (by omega) (by omega) (by omega)) hc]
   exact q m (QJ _) (by omega) h3
theorem jU{p q:Array Nat}{i j:Nat}(h:p[i]?=q[j]?):p.getD i 0=q.getD j 0:=by
 rw[ZX,ZX,h]
theorem jD{m k:Nat}(hm:m<=p.size):(kas_rev p 0 m).getD k 0=if k<m then p.getD (m-1-k) 0 else p.getD k 0:=by
 unfold kas_rev
 have h:=getElem?_mirror_all (i:=0) hm k
 split
 ·rename_i c
  rw[if_pos ⟨Qs _,c⟩]at h
  exact jU (by rw[h];congr 1;omega)
 ·rename_i c
  rw[if_neg (by omega)]at h
  exact jU h
theorem Pm.rev(P:Pm n p){m:Nat}(hm:m<=n):Pm n (kas_rev p 0 m) where
 sz:=by rw[kas_rev_size];exact P.sz
 bd:=fun i hi=>by
  rw[jD (by rw[P.sz];exact hm)]
  split<;>exact P.bd _ (by omega)
 ne:=fun i j hij hj=>by
  rw[jD (by rw[P.sz];exact hm),jD (by rw[P.sz];exact hm)]
  split<;>split<;>exact P.ne' (by omega) (by omega) (by omega)
theorem Dsc.rev{m:Nat}(P:Pm n p)(hm:m<=n)(h:Dsc lt p m):Asc lt (kas_rev p 0 m) m:=fun i j hij hj=>by
 rw[jD (by rw[P.sz];exact hm),jD (by rw[P.sz];exact hm),if_pos (by omega),if_pos hj]
 exact h _ _ (by omega) (by omega)
theorem yU(O:wX n lt)(A:C8 cmp n lt s)(P:Pm n p){Q:Nat×Array Nat->Shared->Prop}(h1:1<=n)(q:∀m p',1<=m->m<=n->Pm n p'->Asc lt p' m->Q (m,p') s):(kas_count n p).kasWp cmp Q s:=by
 unfold kas_count
 rw[KasT.kasWp_bind]
 refine wB O A P (n-1) 1 (QJ _) (by omega) (fun i j a b=>by omega) fun m a b c d=>?_
 by_cases e:m=n
 ·rw[if_pos (by rw[e];exact beq_self_eq_true n)]
  exact q m p a (by omega) P c
 rw[if_neg (by simpa using e)]
 have d':lt (p.getD m 0) (p.getD (m-1) 0)=true:=by
  rcases d with d|d
  ·omega
  ·exact d
 by_cases g:m>1
 ·rw[if_pos g]
  refine A _ _ _ (P.bd _ (by omega)) (P.bd _ (by omega)) ?_
  rw[c 0 (m-1) (by omega) (by omega)]
  exact q m p a (by omega) P c
 ·rw[if_neg g]
  have m1:m=1:=by omega
  subst m1
  unfold kas_descPart
  rw[KasT.kasWp_bind]
  have d2:Dsc lt p 2:=fun i j a b=>by
   have e1:i=0:=by omega
   have e2:j=1:=by omega
   subst e1;subst e2;exact d'
  refine vV O A P (n-(1+1)) (1+1) (by omega) (by omega) d2 fun m' a' b' c'=>?_
  rw[if_neg (by simp)]
  unfold kas_tail3
  rw[KasT.kasWp_bind]
  have hm':m'<=n:=by omega
  exact wB O A (P.rev hm') (n-m') m' (by omega) (by omega) (c'.rev P hm') fun m2 a2 b2 c2 _=>q m2 _ (by omega) (by omega) (P.rev hm') c2
theorem mi(O:wX n lt)(A:C8 cmp n lt s)(P:Pm n p){k:Nat}(hk:k<n)(hs:Asc lt p k):∀(f l r:Nat) {Q:Nat->Shared->Prop},l<=r->r<=k->r-l<=f->(∀i,i<l->lt (p.getD i 0) (p.getD k 0)=true)->(∀i,r<=i->i<k->lt (p.getD k 0) (p.getD i 0)=true)->
  (∀l',l'<=k->(∀i,i<l'->lt (p.getD i 0) (p.getD k 0)=true)->(∀i,l'<=i->i<k->lt (p.getD k 0) (p.getD i 0)=true)->Q l' s)->(kas_place p k f l r).kasWp cmp Q s
 |0,l,r,Q,h1,h2,h3,h4,h5,q=>q l (by omega) h4 fun i a b=>h5 i (by omega) b
 |f+1,l,r,Q,h1,h2,h3,h4,h5,q=>by
  unfold kas_place
  by_cases e:l≥r
  ·rw[if_pos e]
   exact q l (by omega) h4 fun i a b=>h5 i (by omega) b
  ·rw[if_neg e]
   have hM:(l+r) / 2<k:=by omega
   refine A _ _ _ (P.bd _ hk) (P.bd _ (by omega)) ?_
   cases hc:lt (p.getD k 0) (p.getD ((l+r) / 2) 0)with
   |true=>
    refine mi O A P hk hs f l ((l+r) / 2) (by omega) (by omega) (by omega) h4 (fun i a b=>?_) q
    by_cases e2:i=(l+r) / 2
    ·subst e2;exact hc
    ·exact O.tr (P.bd _ hk) (P.bd _ (by omega)) (P.bd _ (by omega)) hc (hs _ i (by omega) b)
   |false=>
    have hc':=O.tot (P.bd _ hk) (P.bd _ (show(l+r) / 2<n by omega)) (P.ne' hk (by omega) (by omega)) hc
    refine mi O A P hk hs f ((l+r) / 2+1) r (by omega) (by omega) (by omega) (fun i a=>?_) h5 q
    by_cases e2:i=(l+r) / 2
    ·subst e2;exact hc'
    ·exact O.tr (P.bd _ (by omega)) (P.bd _ (by omega)) (P.bd _ hk) (hs i ((l+r) / 2) (by omega) hM) hc'
theorem ke{k l i:Nat}(hk:k<p.size)(hl:l<=k):(bubble p k (k-l)).getD i 0=if i=l then p.getD k 0 else if l<i/\i<=k then p.getD (i-1) 0 else p.getD i 0:=by
 have h:=getElem?_bubble hk (k-l) (by omega) i
 rw[show k-(k-l)=l by omega]at h
 by_cases c:i=l
 ·rw[if_pos c]at h ⊢;exact jU h
 ·rw[if_neg c]at h ⊢
  by_cases d:l<i/\i<=k
  ·rw[if_pos d]at h ⊢;exact jU h
  ·rw[if_neg d]at h ⊢;exact jU h
theorem Pm.bub(P:Pm n p){k l:Nat}(hk:k<n)(hl:l<=k):Pm n (bubble p k (k-l)) where
 sz:=by rw[bubble_size];exact P.sz
 bd:=fun i hi=>by
  rw[ke (by rw[P.sz];exact hk) hl]
  repeat' split
  all_goals exact P.bd _ (by omega)
 ne:=fun i j hij hj=>by
  rw[ke (by rw[P.sz];exact hk) hl,ke (by rw[P.sz];exact hk) hl]
  repeat' split
  all_goals first|(exfalso;omega)|exact P.ne' (by omega) (by omega) (by omega)
theorem Asc.bub(P:Pm n p){k l:Nat}(hk:k<n)(hl:l<=k)(h:Asc lt p k)(h1:∀i,i<l->lt (p.getD i 0) (p.getD k 0)=true)(h2:∀i,l<=i->i<k->lt (p.getD k 0) (p.getD i 0)=true):Asc lt (bubble p k (k-l)) (k+1):=fun i j hij hj=>by
 rw[ke (by rw[P.sz];exact hk) hl,ke (by rw[P.sz];exact hk) hl]
 repeat' split
 all_goals first|(exfalso;omega)|exact h1 _ (by omega)|exact h2 _ (by omega) (by omega)|exact h _ _ (by omega) (by omega)
theorem Aa(O:wX n lt)(A:C8 cmp n lt s):∀(f:Nat) (p:Array Nat) (k:Nat) {Q:Array Nat->Shared->Prop},Pm n p->k+f=n->Asc lt p k->(∀p',Pm n p'->Asc lt p' n->Q p' s)->(kas_bin f p k).kasWp cmp Q s
 |0,p,k,Q,P,h1,h2,q=>q p P (by rw[<-h1];exact h2)
 |f+1,p,k,Q,P,h1,h2,q=>by
  unfold kas_bin
  rw[KasT.kasWp_bind]
  refine mi O A P (k:=k) (by omega) h2 k 0 k (Qs _) (QJ _) (by omega) (fun i a=>by omega) (fun i a b=>by omega) fun l a b c=>?_
  exact Aa O A f _ (k+1) (P.bub (by omega) a) (by omega) (h2.bub P (by omega) a b c) q
theorem mh:Pm n (List.toArray (Qj n)):=by
 have g:∀i,i<n->(List.toArray (Qj n)).getD i 0=i:=fun i hi=>by simp[Zp,hi]
 exact⟨by simp,fun i hi=>by rw[g i hi];exact hi,fun i j hij hj=>by rw[g i (by omega),g j hj];omega⟩
theorem tZ(O:wX n lt)(A:C8 cmp n lt s){Q:Array Nat->Shared->Prop}(h1:1<=n)(q:∀p',Pm n p'->Asc lt p' n->Q p' s):(kas_sort n).kasWp cmp Q s:=by
 unfold kas_sort
 rw[KasT.kasWp_bind]
 refine yU O A mh h1 fun m p' a b P c=>?_
 by_cases e:m<n
 ·rw[if_pos e]
  rw[show max m 1=m by omega]
  exact Aa O A _ _ _ P (by omega) c q
 ·rw[if_neg e]
  exact q p' P (by rw[show n=m by omega];exact c)
end
end OP
namespace OP
open PySem PySem.Spec PyProof PyProof.Rows L2 OG
section
variable{prog:Program}{w:World}{A:Around}{E:Value->Shared->Prop}{s:Shared}{d it:Addr}{o:Obj}{es:Array DictEntry}{ep i:Nat}
theorem qq{Q:Value->Shared->Prop}(hd:(d == sysModules)=false)(ho:s.heap.get? d=some o)(hc:o.ExactDict)(he:o.data=.dict es ep)
  (q:Q (.ref s.heap.objs.size) { s with heap:=s.heap.push { cls:=.type "dict_keyiterator",data:=.fields #[.ref d,.int 0 0,.int es.size 0,.int ep 0] } }):wpAny (model prog w) A (pyIter (.ref d)) Q E s:=by
 have T:s.TypeIs (.ref d) "dict":=⟨o,ho,hc.1⟩
 refine wpAny_pyIter_slot T F.slot_dict_iter (wpAny_call_entry F.slot_dict_iter T F.entry_dict_iter ?_ (F.args_dict_iter_1 _))
 unfold Builtin.«dict.__iter__»;refine Q2 ?_
 unfold Builtin.Dict.dictSlotNone;refine Q2 (wpAny_notOrdered_dict T ?_)
 refine Q8 (show wpAny _ _ (Builtin.Dict.showsAll d >>= _) _ _ s from ?_)
 unfold Builtin.Dict.showsAll;rw[if_neg (by rw[hd];exact QF)]
 refine Q2 (Q8 (Q2 (wpAny_dictEntries ho he (Q2 (wpAny_dictEpoch ho he ?_)))))
 refine Q2 (wpAny_newObj_type (Q8 ⟨_,rfl,"dict_keyiterator",_,⟨_,QY _ rfl,rfl⟩,F.slot_dict_keyiterator_next.lookup,q⟩))
theorem qr{Q:Option Value->Shared->Prop}(hit:s.heap.IsKeyIter it d i es.size ep)(ho:s.heap.get? d=some o)(he:o.data=.dict es ep)(hi:i<es.size)
  (q:∀h',h'.IsKeyIter it d (i+1) es.size ep->Ze it s.heap h'->Q (some es[i].key) { s with heap:=h' }):wpAny (model prog w) A (pyNext (.ref it)) Q E s:=by
 obtain⟨io,hio,ic,id'⟩:=id hit
 unfold pyNext;refine Q2 (wpAny_attempt (wpAny_callSpecial?_slot (name:=Str.ofString "__next__") hit.typeIs F.slot_dict_keyiterator_next (wpAny_call_entry F.slot_dict_keyiterator_next hit.typeIs F.entry_dict_keyiterator_next ?_ (F.args_dict_keyiterator_next_1 _))))
 refine Q2 (Q8 (Q2 (Q2 ?_)))
 first|refine Q2 (wpAny_typeNameOfWhole_keyiter hit.typeIs (Q8 (Q2 (wpAny_fieldsOf hio id' ?_))))|refine Q2 (wpAny_typeNameOf_keyiter hit.typeIs (Q8 (Q2 (wpAny_fieldsOf hio id' ?_))))
 simp only[show Builtin.Dict_items.ownsTuple "dict_keyiterator"=false by decide,Qk,if_false]
 refine(show wpAny _ _ (if (Value.ref d == Value.none)=true then _ else _) _ _ s from ?_)
 rw[if_neg (show ¬((Value.ref d == Value.none)=true)from QF)];refine Q2 (Q8 (Q2 (wpAny_dictEntries ho he ?_)))
 rw[if_neg (by simp)];refine Q2 (Q8 (Q2 (wpAny_dictEpoch ho he ?_)))
 rw[if_neg (by simp)];refine Q8 ?_
 simp only[show ¬((i:Int)<0)by omega,if_false,Z3,QR hi];refine Q2 ?_
 first|refine Q2 (wpAny_typeNameOfWhole_keyiter hit.typeIs (Q8 (Q2 (wpAny_isOneOf_keyiter hit.typeIs ?_))))|refine Q2 (wpAny_typeNameOf_keyiter hit.typeIs (Q8 (Q2 (wpAny_isOneOf_keyiter hit.typeIs ?_))))
 refine(show wpAny _ _ (setField (.ref it) 1 (rawInt ((i:Int)+1)) >>= _) _ _ s from Q2 (wpAny_setField hio id' (by simp) ?_))
 have hit2:(s.heap.update it (Obj.mapFields (·.setIfInBounds 1 (rawInt ((i:Int)+1))))).IsKeyIter it d (i+1) es.size ep:=⟨_,ZU _ hio (Obj.isFreed_of_fields (Obj.data_mapFields id' _)),(Obj.cls_mapFields ..).trans ic,by rw[Obj.data_mapFields id'];simp[rawInt]⟩
 refine Q2 (wpAny_holding (Q2 (wpAny_isOneOf_keyiter (s:={ s with heap:=s.heap.update it (Obj.mapFields (·.setIfInBounds 1 (rawInt ((i:Int)+1)))) }) hit2.typeIs ?_)))
 exact(show wpAny _ _ (pure es[i].key) _ _ _ from Q8 (Q8 ⟨_,rfl,Q8 (q _ hit2 (Heap.SameBut.update ..))⟩))
theorem ur{Q:Option Value->Shared->Prop}(hh:A.handled=none)(hit:s.heap.IsKeyIter it d i es.size ep)(ho:s.heap.get? d=some o)(he:o.data=.dict es ep)(hi:es.size<=i)
  (q:∀h',Heap.ExtBut it s.heap h'->Q none { s with heap:=h' }):wpAny (model prog w) A (pyNext (.ref it)) Q E s:=by
 obtain⟨io,hio,ic,id'⟩:=id hit
 unfold pyNext;refine Q2 (wpAny_attempt (wpAny_callSpecial?_slot (name:=Str.ofString "__next__") hit.typeIs F.slot_dict_keyiterator_next (wpAny_call_entry F.slot_dict_keyiterator_next hit.typeIs F.entry_dict_keyiterator_next ?_ (F.args_dict_keyiterator_next_1 _))))
 refine Q2 (Q8 (Q2 (Q2 ?_)))
 first|refine Q2 (wpAny_typeNameOfWhole_keyiter hit.typeIs (Q8 (Q2 (wpAny_fieldsOf hio id' ?_))))|refine Q2 (wpAny_typeNameOf_keyiter hit.typeIs (Q8 (Q2 (wpAny_fieldsOf hio id' ?_))))
 simp only[show Builtin.Dict_items.ownsTuple "dict_keyiterator"=false by decide,Qk,if_false]
 refine(show wpAny _ _ (if (Value.ref d == Value.none)=true then _ else _) _ _ s from ?_)
 rw[if_neg (show ¬((Value.ref d == Value.none)=true)from QF)];refine Q2 (Q8 (Q2 (wpAny_dictEntries ho he ?_)))
 rw[if_neg (by simp)];refine Q2 (Q8 (Q2 (wpAny_dictEpoch ho he ?_)))
 rw[if_neg (by simp)];refine Q8 ?_
 simp only[show ¬((i:Int)<0)by omega,if_false,Z3,Zz hi];refine Q2 ?_
 first|refine Q2 (wpAny_typeNameOfWhole_keyiter hit.typeIs (Q8 ?_));skip|refine Q2 (wpAny_typeNameOf_keyiter hit.typeIs (Q8 ?_));skip
 refine(show wpAny _ _ (setField (.ref it) 0 .none >>= _) _ _ s from Q2 (wpAny_setField hio id' (by simp) ?_))
 refine(show wpAny _ _ (newExc (.type "StopIteration") [] >>= _) _ _ _ from Q2 ?_)
 simp only[newExc,newTuple];refine Q2 (wpAny_newObj_type ?_ (by size_fits));refine Q2 (m:=firstArgMember _ _) (wpAny_of_eq (a:=Value.none) (by first|rfl|(simp only[firstArgMember];rfl)) (wpAny_newObj_type ?_ (by size_fits)))
 simp only[raiseNew];refine Q2 (wpAny_handled ?_);rw[show A.in1.handled=none from hh]
 refine Q2 (Q8 (wpAny_throw ?_));refine Q2 (wpAny_isInstance (T:="StopIteration") (b:=true) ⟨_,QY _ rfl,rfl⟩ isSubtype_stop ?_);exact Q8 (q _ (((Heap.SameBut.update ..).extBut.push _).push _))
end
def FzT(H:Hp)(a:Addr)(ep:Nat)(ks:List (List Key)):Prop:=∃ob es kvs,H a=some (.frz ob (.dT kvs))/\ob.data=.dict es ep/\kvs.map (·.1)=ks
def Itt(a:Addr)(ep:Nat)(ks:List (List Key)):It:=
 ⟨fun i H=>i<ks.length/\FzT H a ep ks,fun i H x H'=>H'=H/\∃k p,ks[i]?=some k/\x=.ref p/\H p=some (.tup (k.map kV)),fun i H=>ks.length<=i/\FzT H a ep ks⟩
theorem vN{P:Program}{w:World}{H:Hp}{h:Heap}{a:Addr}{ob:Obj}{kvs:List (List Key×V)}{es:Array DictEntry}{ep:Nat}(ok:HOk P w H h)(e:H a=some (.frz ob (.dT kvs)))(d:ob.data=.dict es ep) :
  h.get? a=some ob/\es.size=kvs.length/\∀(i:Nat) (hi:i<es.size),∃k p,(kvs.map (·.1))[i]?=some k/\es[i].key=.ref p/\H p=some (.tup (k.map kV)):=by
 obtain⟨e1,_,_,xs,r,o,es',ep',e2,e3,e4,e5,_⟩:=(show bC P w H h a (.frz ob (.dT kvs))from ok a _ e)
 rw[e1]at e2;cases e2
 rw[d]at e4;cases e4
 have hl:kvs.length=xs.length:=Paired.length r
 have hs:es.size=xs.length:=size_of_entries e5
 refine⟨e1,by omega,fun i hi=>?_⟩
 have key:∀{l:List (List Key×V)} {m:List (List Key×Addr×Value)} {i:Nat} {x:List Key×Addr×Value},Paired (fun(p:List Key×V) (q:List Key×Addr×Value)=>p.1=q.1/\H q.2.1=some (.tup (p.1.map kV))/\bN p.2 q.2.2) l m->m[i]?=some x->∃k,(l.map (·.1))[i]?=some k/\H x.2.1=some (.tup (k.map kV)):=by
  intro l m i x q
  induction q generalizing i with
  |nil=>intro z;simp at z
  |@cons p q ps qs hq t ih=>
   intro z
   cases i with
   |zero=>simp at z;subst z;exact⟨p.1,by simp,hq.2.1⟩
   |succ i=>obtain⟨k,k1,k2⟩:=ih (by simpa using z);exact⟨k,by simpa using k1,k2⟩
 have hx:xs[i]?=some xs[i]:=Q7 (by omega)
 obtain⟨k,k1,k2⟩:=key r hx
 refine⟨k,(xs[i]).2.1,k1,?_,k2⟩
 have h1:=entry_at e5 i
 rw[hx,QR hi]at h1
 have h2:=Option.some.inj h1
 rw[h2];rfl
theorem rS{P:Program}{w:World}{K:Q5}{tg:Expr}(a it:Addr){ks:List (List Key)}{ep:Nat} :
  C5 P w K tg (Itt a ep ks) [it] it (fun n h=>h.IsKeyIter it a n ks.length ep) where
 mem:=by simp
 obj:=fun n h st c hc=>by
  simp only[QM,Z5,or_false]at hc
  subst hc
  obtain⟨o,e,_,q⟩:=st
  exact⟨o,e,fun v z=>by rw[q]at z;cases z⟩
 keep:=fun n h h' st kp=>Heap.IsKeyIter.at st fun o q=>kp it (by simp) o q
 item:=by
  intro X hP hw hK hc n pins s σ H E Iv hf st hg
  subst hP hw hK
  obtain⟨hi,ob,es,kvs,hq,d,ek⟩:=hg
  obtain⟨g1,g2,g3⟩:=vN Iv.hok hq d
  have hl:ks.length=es.size:=by rw[<-ek,QZ,g2]
  have hi':n<es.size:=by omega
  obtain⟨k,p,k1,k2,k3⟩:=g3 n hi'
  obtain⟨f0,f1,f2,f3⟩:=hf it (by simp)
  refine qr (by rw[<-hl];exact st) g1 d hi' fun h1 st1 sb=>⟨_,rfl,?_⟩
  have I1:Inv X pins σ H { s with heap:=h1 }:=Iv.turned (t':=s.toks) (fun b o hb e=>(sb.2 b hb).trans e) f0 f1 f3.1 f3.2.1 f3.2.2
  have st2:h1.IsKeyIter it a (n+1) ks.length ep:=by rw[hl];exact st1
  obtain⟨o,e,c,q⟩:=id st2
  exact yK (s:={ s with heap:=h1 }) e c q (by decide) ⟨.ref p,H,I1,by rw[k2];rfl,⟨rfl,k,p,by rw[<-ek];exact k1,rfl,k3⟩,st2,fun b hb=>(hf b hb).1⟩
 done:=by
  intro X hP hw hK hc n pins s σ H E Iv hf st hg
  subst hP hw hK
  obtain⟨hi,ob,es,kvs,hq,d,ek⟩:=hg
  obtain⟨g1,g2,g3⟩:=vN Iv.hok hq d
  have hl:ks.length=es.size:=by rw[<-ek,QZ,g2]
  obtain⟨f0,f1,f2,f3⟩:=hf it (by simp)
  exact ur (Iv.ok.hd hc) (by rw[<-hl];exact st) g1 d (by omega) fun h1 eb=>⟨rfl,Iv.turned (t':=s.toks) (fun b o hb e=>eb b o hb e) f0 f1 f3.1 f3.2.1 f3.2.2⟩
 self:=fun _ _ _ _ _ st h=>wpAny_pyIter_keyiter st h
def zP(X:Cx)(tl:TE):TI:=fun σ H R=>tl σ H fun x H1=>∃a kvs,x=.ref a/\H1 a=some (.dT kvs)/\∀ob es ep,FQ X a->ob.data=.dict es ep->R (Itt a ep (kvs.map (·.1))) (upd H1 a (.frz ob (.dT kvs)))
theorem xt{X:Cx}{tg l:Expr}{tl:TE}(hl:WE X l tl):WI X tg l (zP X tl):=by
 constructor
 intro pins s σ H R I h
 refine thn (hl.h pins s σ H _ I h) fun v s1 hz=>?_
 obtain⟨x,H1,I1,r1,q1⟩:=hz
 obtain⟨a,kvs,rfl,hq,q⟩:=q1
 have hq0:=hq
 cases r1
 obtain⟨hz,hs,xs,rv,ob,es,ep,e1,e2,e3,e4,e5⟩:=(show bC X.prog X.w H1 s1.heap a (.dT kvs)from I1.hok a _ hq)
 have hl:kvs.length=es.size:=by rw[size_of_entries e4];exact Paired.length rv
 have nf:FQ X a:=fun ob' u' z=>by have:=I1.base.frzs a ob' u' z;rw[hq]at this;cases this
 have mono:∀{l:List (List Key×V)} {m:List (List Key×Addr×Value)} (fz:HO),Paired (fun(p:List Key×V) (q:List Key×Addr×Value)=>p.1=q.1/\H1 q.2.1=some (.tup (p.1.map kV))/\bN p.2 q.2.2) l m->Paired (fun(p:List Key×V) (q:List Key×Addr×Value)=>p.1=q.1/\(upd H1 a fz) q.2.1=some (.tup (p.1.map kV))/\bN p.2 q.2.2) l m:=by
  intro l m fz z
  induction z with
  |nil=>exact .nil
  |cons hq t ih=>exact .cons ⟨hq.1,by rw[aV (fun e=>by rw[e,hq0]at hq;cases hq.2.1)];exact hq.2.1,hq.2.2⟩ ih
 have rv2:=mono (.frz ob (.dT kvs)) rv
 have I2:Inv X pins σ (upd H1 a (.frz ob (.dT kvs))) s1:=qX I1 hq (by simp) (by simp) (by simp) nf ⟨e1,hz,hs,xs,rv2,ob,es,ep,e1,e2,e3,e4,e5⟩
 refine qq hs e1 e2 e3 ?_
 refine⟨s1.heap.objs.size,[s1.heap.objs.size],_,_,_,rfl,I2.kept (t':=s1.toks) fun b o g=>Q4 _ g,rS a _,⟨_,QY _ rfl,rfl,by rw[QZ,hl];rfl⟩,fun b hb=>?_,q ob es ep nf e3⟩
 simp only[QM,Z5,or_false]at hb
 subst hb
 exact I2.fpOk (QJ _) (I2.hok.fresh (QJ _))
theorem vG{X:Cx}{pins:List (Addr×Obj)}{σ:L2.St}{H:Hp}{s:Shared}{a:Addr}{ob:Obj}{kvs:List (List Key×V)}(I:Inv X pins σ H s)(nf:FQ X a)(e:H a=some (.frz ob (.dT kvs))):Inv X pins σ (upd H a (.dT kvs)) s:=by
 obtain⟨_,hz,hs,xs,rv,rest⟩:=(show bC X.prog X.w H s.heap a (.frz ob (.dT kvs))from I.hok a _ e)
 have mono:∀{l:List (List Key×V)} {m:List (List Key×Addr×Value)} (fz:HO),Paired (fun(p:List Key×V) (q:List Key×Addr×Value)=>p.1=q.1/\H q.2.1=some (.tup (p.1.map kV))/\bN p.2 q.2.2) l m->Paired (fun(p:List Key×V) (q:List Key×Addr×Value)=>p.1=q.1/\(upd H a fz) q.2.1=some (.tup (p.1.map kV))/\bN p.2 q.2.2) l m:=by
  intro l m fz z
  induction z with
  |nil=>exact .nil
  |cons hq t ih=>exact .cons ⟨hq.1,by rw[aV (fun q=>by rw[q,e]at hq;cases hq.2.1)];exact hq.2.1,hq.2.2⟩ ih
 exact qX I e (by simp) (by simp) (by simp) nf ⟨hz,hs,xs,mono _ rv,rest⟩
theorem qV{K:Q5}{m:List Addr}{H:Hp}:∀ks:List Key,IsL K m H (ks.map kV) (ks.map kU)
 |[]=>.nil_
 |k::r=>.cons_ (Fi k) (qV r)
theorem yD{K:Q5}{m:List Addr}{H:Hp}{a:Addr}{l ep:Nat}{kus:List (List Key×U)}(ha:m[l]?=some a):zc K (Itt a ep (kus.map (·.1))) m H (kus.map fun q=>.tup (q.1.map kU)) (fun S'=>S'[l]?=some (.fdt ep kus)):=by
 intro m2 S2 H2 i e sr hok
 obtain⟨a',ha',ob,es,kvs,hx,hd,ip⟩:=sr.get hok
 have ha2:=e.get ha
 rw[ha2]at ha';cases ha'
 have hz:FzT H2 a ep (kus.map (·.1)):=⟨ob,es,kvs,hx,hd,ip.1⟩
 refine⟨fun u hu=>?_,fun hu=>⟨by simpa using hu,hz⟩⟩
 have hi:i<kus.length:=by have:=(Q6.mp hu).1;simpa using this
 refine⟨⟨by simpa using hi,hz⟩,?_⟩
 rintro x H3 ⟨rfl,k,p,hk,rfl,hp⟩
 refine⟨.refl,sr,?_⟩
 rw[Qv]at hk hu
 rw[Q7 hi]at hk hu
 cases hk;cases hu
 exact .tup_ (.inl (.inl hp)) (qV _)
end OP
namespace OP
open PySem PySem.Spec PyProof PyProof.Rows L2 OG PySem.W
theorem gX{prog:Program}{w:World}{A:Around}{E:Value->Shared->Prop}{s:Shared}{a:Addr}{vs:List Value}{n:Nat}{P:PySem.Fin->Shared->Prop}
  (g:s.heap.get? a=some (seqObj "list" vs.toArray n)) (h2:2<=vs.length) (h64:vs.length<64)
  (ask:∀h':Heap,(∀b o,b≠a->s.heap.get? b=some o->h'.get? b=some o)->wpAny (model prog w) A (keyKind' vs.toArray) (fun κ s'=>s'={ s with heap:=h' }/\KasT.kasWp (kas_ask prog w A κ vs) (kas_sort vs.length)
   (fun p s''=>s''={ s with heap:=h' }/\P (Fin.done (Flow.ret Value.none)) { s with heap:=sortedHeap s.heap a vs (p.toList.map fun i=>vs.getD i Value.none).toArray }) { s with heap:=h' }) E { s with heap:=h' }) :
  wpAny (model prog w) A (Builtin.«list.sort» { pos:=[Value.ref a] }) P E s:=by
 rw[list_sort_plain]
 have hS:vs.toArray.size=vs.length:=by simp
 have hz:vs.length<=sizeLine:=by unfold sizeLine;omega
 have lt:=QX g
 refine Q2 (listItems_at g rfl (Q2 (listUpdate_at g rfl ?_ (by rw[hS];exact hz) (by simp))))
 obtain⟨e1,g1⟩:∃e1,(s.heap.update a (Obj.mapSeq fun _=>#[])).get? a=some (seqObj "list" #[] e1):=⟨_,get?_update_seq g fun _=>#[]⟩
 refine Q2 (seqEpoch_at g1 rfl (Q2 (wpAny_newTuple (Q2 (wpAny_newList (wpAny_holding ?_) (by simp))) (by simpa using hz))))
 have hu:(s.heap.update a (Obj.mapSeq fun _=>#[])).objs.size=s.heap.objs.size:=Heap.size_update ..
 have g2:(((s.heap.update a (Obj.mapSeq fun _=>#[])).push (seqObj "tuple" vs.toArray 0)).push (seqObj "list" #[] 0)).get? a=some (seqObj "list" #[] e1):=
  Q4 _ (Q4 _ g1)
 have n2:¬vs.toArray.size<2:=by rw[hS];omega
 dsimp only
 rw[if_neg n2]
 have hk:∀b o,b≠a->s.heap.get? b=some o->(((s.heap.update a (Obj.mapSeq fun _=>#[])).push (seqObj "tuple" vs.toArray 0)).push (seqObj "list" #[] 0)).get? b=some o:=fun b o hb ho=>by
  refine Q4 _ (Q4 _ ?_)
  rw[Heap.get?_update_ne _ _ _ _ hb];exact ho
 refine Q2 (Z6 (ask _ hk) (fun κ s' hs'=>?_) fun _ _ h'=>h')
 obtain⟨rfl,hrun⟩:=hs'
 rw[if_neg n2]
 refine Q2 (Z6 (kat_run (ks:=vs) (Q:=fun st' s'=>∃p:Array Nat,p.size=vs.length/\arrOf st'=Array.map (kas_item (vs.toArray.zip vs.toArray)) p/\failedOf st'=none/\s'=_/\P (Fin.done (Flow.ret Value.none)) { s with heap:=sortedHeap s.heap a vs (p.toList.map fun i=>vs.getD i Value.none).toArray }) rfl h2 h64 (fun p st' s' hp harr hfail hG=>⟨p,hp,harr,hfail,hG⟩) hrun) (fun r s' hr=>?_) fun _ _ h'=>h')
 obtain⟨u,st'⟩:=r
 obtain⟨p,hp,harr,hfail,rfl,hP⟩:=hr
 have hout:Array.map (fun x=>x.snd) (arrOf st')=(p.toList.map fun i=>vs.getD i Value.none).toArray:=kat_snds rfl harr
 refine Q2 (seqEpoch_at g2 rfl (Q2 (listUpdate_at g2 rfl ?_ (by simp) ?_)))
 ·dsimp only at hfail ⊢
  rw[hfail]
  simp only[bne_self_eq_false,Qk,if_false]
  have hP':=hP
  rw[<-hout]at hP'
  exact Q8 hP'
 ·dsimp only
  rw[hout]
  simp
  unfold sizeLine
  omega
def bF(h:Heap)(v:Value)(p:Int×Int):Prop:=∃b o t1 t2 e,v=Value.ref b/\h.get? b=some o/\o.cls=Value.type "tuple"/\o.data=Data.seq #[Value.int p.1 t1,Value.int p.2 t2] e
def ltP(p q:Int×Int):Bool:=decide (p.1<q.1\/p.1=q.1/\p.2<q.2)
section
variable{prog:Program}{w:World}{A:Around}{E:Value->Shared->Prop}{s:Shared}
theorem iK{b:Bool}{x y:Int}{t u:Tok}{Q:Bool->Shared->Prop}(h:Q (decide (x<y)) s):wpAny (model prog w) A (oneLt' b (Value.int x t) (Value.int y u)) Q E s:=by
 cases b with
 |true=>exact oneLt_int h
 |false=>
  rw[oneLt'_eq]
  dsimp only
  rw[if_neg QF]
  exact Q2 (wpAny_lt_int (wpAny_truthy_bool h))
theorem BQ{v v':Value}{p p':Int×Int}{C:Bool->Shared->Prop}(h:bF s.heap v p)(h':bF s.heap v' p')(c:C (ltP p p') s):wpAny (model prog w) A (keyLt' (tuples' true) v v') C E s:=by
 obtain⟨b,o,t1,t2,e,rfl,g,_,d⟩:=h
 obtain⟨b',o',t1',t2',e',rfl,g',_,d'⟩:=h'
 refine kat_lt g d g' d' (kat_cons (wpAny_eqBool_int ?_))
 by_cases e1:p.1=p'.1
 ·rw[e1,beq_self_eq_true]
  refine kat_yes (kat_cons (wpAny_eqBool_int ?_))
  by_cases e2:p.2=p'.2
  ·rw[e2,beq_self_eq_true]
   refine kat_yes (kat_nil ?_)
   have:ltP p p'=false:=by simp[ltP,e1,e2]
   rw[this]at c
   exact c
  ·rw[beq_eq_false_iff_ne.mpr e2]
   refine kat_no (iK ?_)
   have:ltP p p'=decide (p.2<p'.2):=by simp[ltP,e1]
   rw[this]at c
   exact c
 ·rw[beq_eq_false_iff_ne.mpr e1]
  refine kat_no (iK ?_)
  have:ltP p p'=decide (p.1<p'.1):=by simp[ltP,e1]
  rw[this]at c
  exact c
def dj(h:Heap):List Value->List (Int×Int)->Prop
 |[],[]=>True
 |v::vs,p::ps=>bF h v p/\dj h vs ps
 |_,_=>False
theorem eD{h:Heap}:∀{vs:List Value} {ps:List (Int×Int)},dj h vs ps->vs.length=ps.length
 |[],[],_=>rfl
 |_::_,_::_,k=>by rw[QB,QB,eD k.2]
 |[],_::_,k=>k.elim
 |_::_,[],k=>k.elim
theorem ft{h:Heap}:∀{vs:List Value} {ps:List (Int×Int)} {i:Nat},dj h vs ps->i<ps.length->bF h (vs.getD i Value.none) (ps.getD i (0,0))
 |[],[],_,_,k=>absurd k (Nat.not_lt_zero _)
 |_::_,_::_,0,k,_=>k.1
 |_::vs,_::ps,i+1,k,l=>by
  show bF h (vs.getD i Value.none) (ps.getD i (0,0))
  exact ft k.2 (by rw[QB]at l;omega)
 |[],_::_,_,k,_=>k.elim
 |_::_,[],_,k,_=>k.elim
theorem uR{h h':Heap}{v:Value}{p:Int×Int}{a:Addr}(k:bF h v p)(hv:v≠.ref a)(m:∀b o,b≠a->h.get? b=some o->h'.get? b=some o):bF h' v p:=by
 obtain⟨b,o,t1,t2,e,rfl,g,c,d⟩:=k
 exact⟨b,o,t1,t2,e,rfl,m b o (fun e=>hv (by rw[e])) g,c,d⟩
theorem iG{h h':Heap}{a:Addr}(m:∀b o,b≠a->h.get? b=some o->h'.get? b=some o):∀{vs:List Value} {ps:List (Int×Int)},dj h vs ps->(∀v∈vs,v≠.ref a)->dj h' vs ps
 |[],[],_,_=>trivial
 |v::vs,_::_,k,hv=>⟨uR k.1 (hv v QK) m,iG m k.2 fun x hx=>hv x (QU _ hx)⟩
 |[],_::_,k,_=>k.elim
 |_::_,[],k,_=>k.elim
theorem kW{h:Heap}:∀{vs:List Value} {ps:List (Int×Int)},dj h vs ps->∃fs,KatTups h vs fs/\fs.length=vs.length/\∀f∈fs,∃i t,f=Value.int i t
 |[],[],_=>⟨[],trivial,rfl,fun f hf=>by cases hf⟩
 |v::vs,p::ps,k=>by
  obtain⟨fs,h1,h2,h3⟩:=kW k.2
  obtain⟨b,o,t1,t2,e,hv,g,c,d⟩:=k.1
  refine⟨Value.int p.1 t1::fs,⟨⟨b,o,_,e,hv,g,c,d,rfl⟩,h1⟩,by rw[QB,QB,h2],fun f hf=>?_⟩
  rcases QM.mp hf with z|z
  ·exact⟨_,_,z⟩
  ·exact h3 f z
 |[],_::_,k=>k.elim
 |_::_,[],k=>k.elim
theorem sg{vs:List Value}{ps:List (Int×Int)}{Q:SortKind->Shared->Prop}(h:dj s.heap vs ps)(hn:0<vs.length)(q:Q (tuples' true) s):wpAny (model prog w) A (keyKind' vs.toArray) Q E s:=by
 obtain⟨fs,h1,h2,h3⟩:=kW h
 refine kat_kind (T:=Value.type "int") h1 (by omega) (fun v hv A Q E s' _ q=>?_) (by decide +kernel) (by exact q)
 obtain⟨i,t,rfl⟩:=h3 v hv
 exact wpAny_typeOf (typeIs_int s' i t) q
end
theorem EV{ps:List (Int×Int)}(nd:ps.Nodup):wX ps.length fun i j=>ltP (ps.getD i (0,0)) (ps.getD j (0,0)) where
 tr:=fun{i j k} hi hj hk h1 h2=>by simp only[ltP,decide_eq_true_eq]at *;omega
 asym:=fun{i j} hi hj h=>by simp only[ltP,decide_eq_true_eq,decide_eq_false_iff_not]at *;omega
 tot:=fun{i j} hi hj hne h=>by
  simp only[ltP,decide_eq_true_eq,decide_eq_false_iff_not]at *
  have hd:ps.getD i (0,0)≠ps.getD j (0,0):=by
   rw[QV,QV,Q7 hi,Q7 hj]
   simp only[Qi]
   exact fun e=>hne ((List.getElem_inj nd).mp e)
  have:¬((ps.getD i (0,0)).1=(ps.getD j (0,0)).1/\(ps.getD i (0,0)).2=(ps.getD j (0,0)).2):=fun e=>hd (Prod.ext e.1 e.2)
  omega
theorem fu{prog:Program}{w:World}{A:Around}{E:Value->Shared->Prop}{s:Shared}{a:Addr}{vs:List Value}{n:Nat}{P:PySem.Fin->Shared->Prop}
  (g:s.heap.get? a=some (seqObj "list" vs.toArray n)) (h2:vs.length<2) (hP:P (Fin.done (Flow.ret Value.none)) { s with heap:=sortedHeap s.heap a vs vs.toArray }) :
  wpAny (model prog w) A (Builtin.«list.sort» { pos:=[Value.ref a] }) P E s:=by
 rw[list_sort_plain]
 have hS:vs.toArray.size=vs.length:=by simp
 have hz:vs.length<=sizeLine:=by unfold sizeLine;omega
 refine Q2 (listItems_at g rfl (Q2 (listUpdate_at g rfl ?_ (by rw[hS];exact hz) (by simp))))
 obtain⟨e1,g1⟩:∃e1,(s.heap.update a (Obj.mapSeq fun _=>#[])).get? a=some (seqObj "list" #[] e1):=⟨_,get?_update_seq g fun _=>#[]⟩
 refine Q2 (seqEpoch_at g1 rfl (Q2 (wpAny_newTuple (Q2 (wpAny_newList (wpAny_holding ?_) (by simp))) (by simpa using hz))))
 have g2:(((s.heap.update a (Obj.mapSeq fun _=>#[])).push (seqObj "tuple" vs.toArray 0)).push (seqObj "list" #[] 0)).get? a=some (seqObj "list" #[] e1):=
  Q4 _ (Q4 _ g1)
 have n2:vs.toArray.size<2:=by rw[hS];omega
 dsimp only
 rw[if_pos n2]
 refine Q2 (Q8 ?_)
 rw[if_pos n2]
 refine Q2 (Q8 ?_)
 have hout:Array.map (fun x=>x.snd) (arrOf (SortSt.mk' general' (vs.toArray.zip vs.toArray) #[] 7 none))=vs.toArray:=by
  show Array.map (fun x=>x.snd) (vs.toArray.zip vs.toArray)=vs.toArray
  simp[List.map_snd_zip]
 refine Q2 (seqEpoch_at g2 rfl (Q2 (listUpdate_at g2 rfl ?_ (by simp) ?_)))
 ·have hfail:failedOf (SortSt.mk' general' (vs.toArray.zip vs.toArray) #[] 7 none)=none:=rfl
  dsimp only at hfail ⊢
  simp only[hfail,bne_self_eq_false,Qk,if_false]
  have hP':=hP
  rw[<-hout]at hP'
  exact Q8 hP'
 ·dsimp only
  rw[hout]
  rw[hS]
  omega
def Gf(ps:List (Int×Int))(q:Array Nat):Prop:=Pm ps.length q/\Asc (fun i j=>ltP (ps.getD i (0,0)) (ps.getD j (0,0))) q ps.length
theorem jM{prog:Program}{w:World}{A:Around}{E:Value->Shared->Prop}{s:Shared}{a:Addr}{vs:List Value}{ps:List (Int×Int)}{n:Nat}{P:PySem.Fin->Shared->Prop}
  (g:s.heap.get? a=some (seqObj "list" vs.toArray n)) (hp:dj s.heap vs ps) (hv:∀v∈vs,v≠.ref a) (nd:ps.Nodup) (h64:ps.length<64)
  (k:∀q:Array Nat,Gf ps q->P (Fin.done (Flow.ret Value.none)) { s with heap:=sortedHeap s.heap a vs (q.toList.map fun i=>vs.getD i Value.none).toArray }) :
  wpAny (model prog w) A (Builtin.«list.sort» { pos:=[Value.ref a] }) P E s:=by
 have hl:=eD hp
 by_cases h2:vs.length<2
 ·have hr:((Qj ps.length).toArray.toList.map fun i=>vs.getD i Value.none)=vs:=by
   rw[<-hl]
   refine ZT fun i=>?_
   by_cases hi:i<vs.length
   ·simp[List.getElem?_range hi,Q7 hi]
   ·simp[Z9 (Nat.le_of_not_lt hi),hi]
  have:=k (Qj ps.length).toArray ⟨mh,fun i j hij hj=>by omega⟩
  rw[hr]at this
  exact fu g h2 this
 ·refine gX g (by omega) (by omega) fun h' m=>?_
  have hp':dj ({ s with heap:=h' }:Shared).heap vs ps:=iG m hp hv
  refine sg hp' (by omega) ⟨rfl,?_⟩
  have hl':vs.length=ps.length:=hl
  rw[hl']
  refine tZ (EV nd) (fun i j C hi hj c=>?_) (by omega) fun q P1 P2=>⟨rfl,k q ⟨P1,P2⟩⟩
  exact BQ (ft hp' hi) (ft hp' hj) c
theorem kX{h:Heap}:∀{vs:List Value} {ps:List (Int×Int)},dj h vs ps->∀v∈vs,∀a,h.objs.size<=a->v≠.ref a
 |[],[],_,v,hv,_,_=>by cases hv
 |_::_,_::_,k,v,hv,a,ha=>by
  rcases QM.mp hv with z|z
  ·obtain⟨b,o,t1,t2,e,e1,g,_⟩:=k.1
   rw[z,e1]
   intro e2
   cases e2
   exact absurd (QX g) (Zj.mpr ha)
  ·exact kX k.2 v z a ha
 |[],_::_,k,_,_,_,_=>k.elim
 |_::_,[],k,_,_,_,_=>k.elim
def PrL(K:Q5)(H:Hp):List V->List (Int×Int)->Prop
 |[],[]=>True
 |x::xs,p::ps=>(∃a,x=.ref a/\SqT K H a [.int p.1,.int p.2])/\PrL K H xs ps
 |_,_=>False
theorem mf{K:Q5}{H:Hp}:∀{ys:List V} {ps:List (Int×Int)},PrL K H ys ps->ys.length=ps.length
 |[],[],_=>rfl
 |_::_,_::_,k=>by rw[QB,QB,mf k.2]
 |[],_::_,k=>k.elim
 |_::_,[],k=>k.elim
theorem uI{X:Cx}{pins:List (Addr×Obj)}{σ:L2.St}{H:Hp}{s:Shared}(I:Inv X pins σ H s):∀{ys:List V} {ps:List (Int×Int)} {vs:List Value},PrL X.K H ys ps->a5 ys vs->dj s.heap vs ps
 |[],[],_,_,r=>by cases r;trivial
 |_::_,p::ps,_,k,r=>by
  cases r with
  |cons r1 r2=>
   refine⟨?_,uI I k.2 r2⟩
   obtain⟨a,rfl,hs⟩:=k.1
   obtain⟨its,rv,⟨o,g,c,n,d⟩,_⟩:=I.tuple hs
   cases r1
   cases rv with
   |cons u1 u2=>cases u2 with
    |cons u3 u4=>
     cases u4
     obtain⟨t1,rfl⟩:=u1
     obtain⟨t2,rfl⟩:=u3
     exact⟨a,o,t1,t2,n,rfl,g,c,d⟩
 |[],_::_,_,k,_=>k.elim
 |_::_,[],_,k,_=>k.elim
theorem xx{ys:List V}{vs:List Value}(r:a5 ys vs){i:Nat}(hi:i<ys.length):bN (ys.getD i .non) (vs.getD i Value.none):=by
 induction r generalizing i with
 |nil=>simp at hi
 |cons r1 r2 ih=>
  cases i with
  |zero=>exact r1
  |succ i=>exact ih (by simpa using hi)
theorem iZ{ys:List V}{vs:List Value}(r:a5 ys vs):∀(is:List Nat),(∀i∈is,i<ys.length)->a5 (is.map fun i=>ys.getD i .non) (is.map fun i=>vs.getD i Value.none)
 |[],_=>.nil
 |i::is,h=>.cons (xx r (h i QK)) (iZ r is fun j hj=>h j (QU _ hj))
theorem eZ{n:Nat}{q:Array Nat}(P:Pm n q):∀i∈q.toList,i<n:=fun i hi=>by
 obtain⟨j,hj,e⟩:=List.mem_iff_getElem.mp hi
 have hj':j<q.size:=by simpa using hj
 have:=P.bd j (by rw[<-P.sz];exact hj')
 rw[ZX,QR hj']at this
 rw[Array.getElem_toList]at e
 rw[<-e];exact this
theorem wQ{X:Cx}{pins:List (Addr×Obj)}{σ:List (Option V)}{H H':Hp}{s:Shared}{h':Heap}{t':Nat}(I:Inv X pins σ H s)(k:∀b u,s.heap.get? b=some u->h'.get? b=some u)
  (same:∀b,b<s.heap.objs.size->H' b=H b) (new:∀b u,s.heap.objs.size<=b->H' b=some u->bC X.prog X.w H' h' b u):Inv X pins σ H' { s with heap:=h',toks:=t' }:=by
 have up:∀b u,H b=some u->H' b=some u:=fun b u e=>by
  rw[same b (Nat.lt_of_not_le fun z=>by rw[I.hok.fresh z]at e;cases e)];exact e
 refine I.un ⟨fun b u q _ _ _=>k b u q,fun b u q _ _ _=>⟨u.slots,k b u q⟩,fun b u q n _=>?_,fun b u q _=>⟨u,k b u q⟩,fun b xs q=>up b _ q,fun b u xs q=>up b _ q,fun b ps q=>⟨#[],by rw[up b _ q];simp⟩⟩ fun b u e=>?_
 ·rw[same b (QX q)];exact n
 ·by_cases hb:b<s.heap.objs.size
  ·rw[same b hb]at e
   exact(I.hok b u e).stay (fun c v _ q=>k c v q) (fun c q=>up c _ q) fun c xs q=>up c _ q
  ·exact new b u (Nat.le_of_not_lt hb) e
theorem lP:∀as:List Addr,a5 (as.map V.ref) (as.map Value.ref)
 |[]=>.nil
 |a::r=>.cons rfl (lP r)
theorem mw{p:Int×Int}:ltP p p=false:=by simp[ltP]
theorem yo{p q:Int×Int}(h:ltP p q=true)(k:ltP q p=true):False:=by simp only[ltP,decide_eq_true_eq]at h k;omega
theorem rC:∀{L M:List (Int×Int)},L.Pairwise (fun a b=>ltP a b=true)->M.Pairwise (fun a b=>ltP a b=true)->(∀x,x∈L↔x∈M)->L=M
 |[],[],_,_,_=>rfl
 |[],m::M,_,_,h=>by have:=(h m).mpr QK;cases this
 |l::L,[],_,_,h=>by have:=(h l).mp QK;cases this
 |l::L,m::M,h1,h2,h=>by
  obtain⟨a1,b1⟩:=ZH.mp h1
  obtain⟨a2,b2⟩:=ZH.mp h2
  have e:l=m:=by
   rcases QM.mp ((h l).mp QK)with z|z
   ·exact z
   ·rcases QM.mp ((h m).mpr QK)with y|y
    ·exact y.symm
    ·exact(yo (a2 l z) (a1 m y)).elim
  subst e
  congr 1
  refine rC b1 b2 fun x=>⟨fun hx=>?_,fun hx=>?_⟩
  ·rcases QM.mp ((h x).mp (QU _ hx))with z|z
   ·subst z;have:=a1 x hx;rw[mw]at this;cases this
   ·exact z
  ·rcases QM.mp ((h x).mpr (QU _ hx))with z|z
   ·subst z;have:=a2 x hx;rw[mw]at this;cases this
   ·exact z
open Classical in
def c7(ps:List (Int×Int)):List (Int×Int):=if h:∃L:List (Int×Int),L.Pairwise (fun a b=>ltP a b=true)/\∀x,x∈L↔x∈ps then h.choose else[]
theorem i9{L ps:List (Int×Int)}(h1:L.Pairwise (fun a b=>ltP a b=true))(h2:∀x,x∈L↔x∈ps):c7 ps=L:=by
 have h:∃L:List (Int×Int),L.Pairwise (fun a b=>ltP a b=true)/\∀x,x∈L↔x∈ps:=⟨L,h1,h2⟩
 unfold c7
 rw[dif_pos h]
 obtain⟨k1,k2⟩:=h.choose_spec
 exact rC k1 h1 fun x=>(k2 x).trans (h2 x).symm
theorem wD{ps:List (Int×Int)}{q:Array Nat}(h:Gf ps q):c7 ps=q.toList.map fun i=>ps.getD i (0,0):=by
 obtain⟨P,A⟩:=h
 have hl:q.toList.length=ps.length:=by rw[QH,P.sz]
 have gd:∀i (hi:i<q.toList.length),q.getD i 0=q.toList[i]:=fun i hi=>by
  have hi':i<q.size:=by simpa using hi
  rw[ZX,QR hi',Array.getElem_toList];rfl
 have h1:(q.toList.map fun i=>ps.getD i (0,0)).Pairwise (fun a b=>ltP a b=true):=by
  rw[ZR]
  intro i j hi hj hij
  rw[QZ]at hi hj
  rw[List.getElem_map,List.getElem_map,<-gd i hi,<-gd j hj]
  exact A i j hij (by omega)
 have nd:(q.toList.map fun i=>ps.getD i (0,0)).Nodup:=h1.imp fun{a b} h e=>by subst e;rw[mw]at h;cases h
 have sub:∀x∈q.toList.map fun i=>ps.getD i (0,0),x∈ps:=fun x hx=>by
  obtain⟨i,hi,rfl⟩:=Qa.mp hx
  have:=eZ P i hi
  rw[QV,Q7 this]
  exact Z8 this
 refine i9 h1 fun x=>⟨sub x,fun hx=>?_⟩
 refine Classical.byContradiction fun hn=>?_
 have:=List.Nodup.length_le_of_subset (ZV.mpr ⟨hn,nd⟩) (l₂:=ps) fun y hy=>by
  rcases QM.mp hy with z|z
  ·rw[z];exact hx
  ·exact sub y z
 rw[QB,QZ,hl]at this
 omega
def pP(p:Int×Int):U:=.tup [.int p.1,.int p.2]
def kY:List U->Option (List (Int×Int))
 |[]=>some []
 |.tup [.int a,.int b]::r=>(kY r).map ((a,b)::·)
 |_=>none
theorem iH:∀ps:List (Int×Int),kY (ps.map pP)=some ps
 |[]=>rfl
 |p::ps=>by rw[Qx,pP,kY,iH ps];rfl
theorem ny:∀{us:List U} {ps:List (Int×Int)},kY us=some ps->us=ps.map pP
 |[],ps,h=>by cases h;rfl
 |u::us,ps,h=>by
  unfold kY at h
  split at h
  ·rename_i e;cases e
  ·rename_i e
   injection e with e1 e2
   subst e1;subst e2
   obtain⟨qs,e,h⟩:=Qm.mp h
   subst h
   rw[Qx,<-ny e];rfl
  ·cases h
section
variable{K:Q5}{m:List Addr}{H:Hp}
theorem zw:∀{ys:List V} {ps:List (Int×Int)},IsL K m H ys (ps.map pP)->PrL K H ys ps
 |ys,[],h=>by rw[h.of_nil];trivial
 |ys,p::ps,h=>by
  obtain⟨y,r,rfl,i,t⟩:=h.of_cons
  obtain⟨a,xs,rfl,hs,il⟩:=i.of_tup
  have e:xs=[p.1,p.2].map V.int:=IsL.ints (ns:=[p.1,p.2]) il
  subst e
  exact⟨⟨a,rfl,hs⟩,zw t⟩
theorem uG:∀{ys:List V} {ps:List (Int×Int)} {i:Nat},PrL K H ys ps->i<ps.length->Is K m H (ys.getD i .non) (pP (ps.getD i (0,0)))
 |[],[],i,_,h=>by simp at h
 |y::ys,p::ps,0,k,_=>by
  obtain⟨a,e,hs⟩:=k.1
  show Is K m H y (pP p)
  rw[e]
  exact .tup_ hs (fH [p.1,p.2])
 |y::ys,p::ps,i+1,k,h=>by
  show Is K m H (ys.getD i .non) (pP (ps.getD i (0,0)))
  exact uG k.2 (by simpa using h)
 |[],_::_,_,k,_=>k.elim
 |_::_,[],_,k,_=>k.elim
theorem uF{ys:List V}{ps:List (Int×Int)}(k:PrL K H ys ps):∀is:List Nat,(∀i∈is,i<ps.length)->IsL K m H (is.map fun i=>ys.getD i .non) (is.map fun i=>pP (ps.getD i (0,0)))
 |[],_=>.nil_
 |i::is,h=>.cons_ (uG k (h i QK)) (uF k is fun j hj=>h j (QU _ hj))
end
section
variable{X:Cx}{K:Q5}
def zt:V->List V->Hp->VK->Prop:=fun x vs H Q=>∃(l:Addr) (ns:List Int) (z:Int) (j:Nat),x=.ref l/\vs=[.int z]/\H l=some (.lst (ns.map V.int))/\ns[j]?=some z/\(∀m,m<j->ns[m]?≠some z)/\j<1000000/\Q (.int (j:Nat)) H
def vF(z:Int):Value->Bool
 |.int i _=>i == z
 |_=>false
theorem mU{ns:List Int}{its:List Value}(r:a5 (ns.map V.int) its){i:Nat}{v:Value}(h:its[i]?=some v):∃n t,ns[i]?=some n/\v=Value.int n t:=by
 have hi:i<its.length:=(Q6.mp h).1
 have hl:=r.length
 rw[QZ]at hl
 have hn:i<ns.length:=by omega
 obtain⟨u,e1,e2⟩:=r.get (i:=i) (x:=.int ns[i]) (by rw[Qv,Q7 hn];rfl)
 rw[h]at e1;cases e1
 obtain⟨t,e⟩:=e2
 exact⟨_,t,Q7 hn,e⟩
theorem yk:MtM X "list.index" zt:=by
 intro pins s σ H x vs v us Q I rx rv h
 obtain⟨l,ns,z,j,rfl,rfl,hH,hj,hm,hb,q⟩:=h
 cases rx
 obtain⟨u,rfl,ru⟩:=rv.one
 obtain⟨tz,rfl⟩:=ru
 obtain⟨_,its,n,r,hl,e⟩:=I.lstM hH
 have hlen:=r.length
 rw[QZ]at hlen
 have hj':j<its.toArray.size:=by have:=(Q6.mp hj).1;simp;omega
 have at_:∀(m:Nat) (hm:m<its.toArray.size),∃k t,ns[m]?=some k/\its.toArray[m]=Value.int k t:=fun m hm=>by
  have hm':m<its.length:=by simpa using hm
  obtain⟨k,t,e1,e2⟩:=mU r (Q7 hm')
  exact⟨k,t,e1,by simpa using e2⟩
 refine call_meets PySem.F.slot_list_index ⟨_,e,rfl⟩ PySem.F.entry_list_index (PySem.F.args_list_index_2 _ _) (PySem.MeetsSeq.list_index l its.toArray n (Value.int z tz) (vF z) (fun y hy=>?_) j hj' (by omega) ?_ fun m hm1 hm2=>?_) ⟨e,?_⟩
 ·obtain⟨m,hm1,rfl⟩:=Array.mem_iff_getElem.mp hy
  obtain⟨k,t,_,e2⟩:=at_ m hm1
  rw[e2]
  exact PySem.MeetsSeq.EqGives.int _ _ _ _
 ·obtain⟨k,t,e1,e2⟩:=at_ j hj'
  rw[e2]
  rw[hj]at e1;cases e1
  simp[vF]
 ·obtain⟨k,t,e1,e2⟩:=at_ m hm1
  rw[e2]
  simp only[vF,beq_eq_false_iff_ne]
  intro e3
  exact hm m hm2 (by rw[e1,e3])
 ·exact⟨.int (j:Nat),_,I.kept (fun b o g=>g),⟨_,rfl⟩,q⟩
theorem zO:∀{ns:List Int} {z:Int} {k:Nat} (h:k<ns.length),ns[k]=z->ns.idxOf z<=k
 |[],_,_,h,_=>absurd h (Nat.not_lt_zero _)
 |n::ns,z,0,_,e=>by
  have:n=z:=e
  subst this
  simp
 |n::ns,z,k+1,h,e=>by
  rw[List.idxOf_cons]
  have:=zO (ns:=ns) (z:=z) (k:=k) (by simpa using h) (by simpa using e)
  cases (n == z)<;>simp<;>omega
def aI:U->List U->Sto->Option (U×Sto)
 |.ref l,[.int z],S=>match S[l]? with
  |some (.lst us)=>(mx us).bind fun ns=>if z∈ns/\ns.length<=LIM then some (.int (ns.idxOf z:Nat),S)else none
  |_=>none
 |_,_,_=>none
theorem BV:MtP K zt aI:=by
 intro m S H x v us vs u S' Q sr ix i hf post
 match x,us,hf with
 |.ref l,[.int z],hf=>
  simp only[aI]at hf
  split at hf<;>try cases hf
  rename_i ws hS
  obtain⟨ns,hn,h⟩:=Q3.mp hf
  split at h<;>try cases h
  have hk:z∈ns/\ns.length<=LIM:=by assumption
  obtain⟨a,ha,rfl⟩:=ix.of_ref
  obtain⟨a',ha',xs,hx,la⟩:=sr.get hS
  rw[ha]at ha';cases ha'
  obtain⟨y,rfl,iy⟩:=i.one
  rw[g9 hn]at la
  rw[la.ints]at hx
  have hlt:ns.idxOf z<ns.length:=List.idxOf_lt_length_of_mem hk.1
  have hL:ns.length<=100000:=hk.2
  refine⟨a,ns,z,ns.idxOf z,rfl,by rw[iy.of_int],hx,?_,fun k hk e=>?_,by omega,post m _ _ .refl sr .int_⟩
  ·rw[Q7 hlt,List.getElem_idxOf]
  ·obtain⟨h1,h2⟩:=Q6.mp e
   exact absurd (zO h1 h2) (Nat.not_le.mpr hk)
variable{e:Expr}{es:List Expr}{co:CE}{cr:CA}{o:Expr}{apos cpos:Pos}
theorem dI (ho : QE X o co) (ha : QA X (e :: es) cr) (hbase : attributeBase o "index" X.env (eval o X.env) = eval o X.env := by rfl) (hfew : ((backTo cpos (starEach (e :: es) X.env)).all (fun x => !x.1) && (backToKw cpos (keywordEach [] X.env)).all (fun x => x.1.isSome)
   && decide ((e::es).length+([]:List Keyword).length+(if ([]:List Keyword).isEmpty then 0 else 1)<30))=true:=by rfl) (hline:(apos.endLine == cpos.line)=true:=by rfl) (hs:starEach (e::es) X.env=(false,eval e X.env)::starEach es X.env:=by rfl) (hplain:(backTo cpos (starEach es X.env)).any (·.1)=false:=by rfl) :
  QE X (.Call (.Attribute o "index" apos) (e::es) [] cpos) (cBM aI co cr):=(pT PySem.F.plainAttrs_list PySem.F.slot_list_index PySem.F.type_list_index yk ho ha.h hbase hfew hline hs hplain).imp (rB BV)
end
section
variable{X:Cx}{K:Q5}
theorem Cj{pins:List (Addr×Obj)}{σ:L2.St}{H:Hp}{s:Shared}{b:Addr}{ks:List Key}(I:Inv X pins σ H s)(sq:SqT X.K H b (ks.map kV)):(tupleKind (bA X.prog X.w)).is s.heap ks b:=by
 obtain⟨its,r,⟨o,h1,h2,n,h3⟩,_⟩:=I.tuple sq
 exact⟨o,its.toArray,n,h1,h2,h3,by simpa using jP r⟩
def DW(K:Q5)(td ty:TE):TE:=fun σ H Q=>td σ H fun x H1=>ty σ H1 fun y H2=>∃(a b:Addr) (kvs:List (List Key×V)) (k:List Key) (v:V),x=.ref a/\y=.ref b/\Rd H2 a (.dT kvs)/\SqT K H2 b (k.map kV)/\ku kvs k=some v/\Q v H2
theorem tL{o i:Expr}{td ty:TE}{pos:Pos}(hu:X.A.units+1<cLine)(ho:WE X o td)(hi:WE X i ty)(hs:C6 i):WE X (.Subscript o i pos) (DW X.K td ty):=by
 constructor
 intro pins s σ H Q I h
 refine tY PySem.F.slot_dict_getitem.lookup hs (thn (ho.h pins s σ H _ I h) fun u s1 hz=>?_)
 obtain⟨x,H1,I1,rx,q1⟩:=hz
 refine thn (hi.h pins s1 σ H1 _ I1 q1) fun iv s2 hz=>?_
 obtain⟨y,H2,I2,ry,a,b,kvs,k,v,ex,ey,e,sq,l,q2⟩:=hz
 subst ex
 subst ey
 cases (show u=Value.ref a from rx)
 cases (show iv=Value.ref b from ry)
 obtain⟨z,hd,xs,rel,dd⟩:=px I2.hok e
 refine⟨dd.typeIs,?_⟩
 obtain⟨w',hw,rw'⟩:=sO.some_of (v:=v) (o:=(atKey xs k).map (·.2)) (by rw[<-l];exact rel.val k)
 obtain⟨p,hp,hp2⟩:=Qm.mp hw
 refine wpAny_getItem_heap (tupleKind_room_in1 hu) (Cj I2 sq) dd hp ?_
 rw[hp2]
 exact⟨v,H2,I2.tok _,rw',q2⟩
def CB:U->U->Sto->Option (U×Sto):=fun x y S=>match x with
 |.ref l=>match y with
  |.tup us=>(Bc us).bind fun ks=>match S[l]? with
   |some (.dit kus)=>(i7 kus ks).bind fun u=>some (u,S)
   |some (.fdt _ kus)=>(i7 kus ks).bind fun u=>some (u,S)
   |_=>none
  |_=>none
 |_=>none
theorem G8{a b:Expr}{ca cb:CE}{pos:Pos}(hu:X.A.units+1<cLine)(ha:QE X a ca)(hb:QE X b cb)(hs:C6 b):QE X (.Subscript a b pos) (cOp CB ca cb):=
 (tL hu ha hb hs).imp fun σ H Q hz=>ie hz fun m ρ S u S' sr lr hc post=>by
 obtain⟨⟨x,S1⟩,h1,h⟩:=Q3.mp hc
 obtain⟨⟨y,S2⟩,h3,h4⟩:=Q3.mp h
 refine⟨m,ρ,S,_,S1,sr,lr,h1,fun m1 v1 H1 e1 sr1 i1=>⟨m1,ρ,S1,_,S2,sr1,lr.mono e1,h3,fun m2 v2 H2 e2 sr2 i2=>?_⟩⟩
 cases x with
 |ref l=>
  cases y with
  |tup us=>
   simp only[CB]at h4
   obtain⟨ks,hk,h5⟩:=Q3.mp h4
   obtain⟨a,ha,rfl⟩:=(i1.mono e2).of_ref
   obtain⟨b,xs,rfl,sb,lb⟩:=i2.of_tup
   have hx:=oR lb hk
   subst hx
   split at h5<;>try cases h5
   ·rename_i kus hS
    obtain⟨w,hw,h6⟩:=Q3.mp h5
    cases h6
    obtain⟨a',ha',kvs,hx,ip⟩:=sr2.get hS
    rw[ha]at ha';cases ha'
    have rf:=IsP.val (k:=ks) ip
    rw[hw]at rf
    cases hv:ku kvs ks with
    |none=>rw[hv]at rf;exact rf.elim
    |some z=>
     rw[hv]at rf
     exact⟨a,b,kvs,ks,z,rfl,rfl,.inl hx,sb,hv,post m2 _ H2 (e1.trans e2) sr2 rf⟩
   ·rename_i ep kus hS
    obtain⟨w,hw,h6⟩:=Q3.mp h5
    cases h6
    obtain⟨a',ha',ob,es,kvs,hx,hd,ip⟩:=sr2.get hS
    rw[ha]at ha';cases ha'
    have rf:=IsP.val (k:=ks) ip
    rw[hw]at rf
    cases hv:ku kvs ks with
    |none=>rw[hv]at rf;exact rf.elim
    |some z=>
     rw[hv]at rf
     exact⟨a,b,kvs,ks,z,rfl,rfl,.inr ⟨ob,hx⟩,sb,hv,post m2 _ H2 (e1.trans e2) sr2 rf⟩
  |_=>cases h4
 |_=>cases h4
theorem xw{e:Expr}{t:TE}(h:WE X e t):WE X e (fun σ H Q=>t σ H fun v H'=>∃a ob kvs,FQ X a/\H' a=some (.frz ob (.dT kvs))/\Q v (upd H' a (.dT kvs))):=by
 constructor
 intro pins s σ H Q I k
 refine thn (h.h pins s σ H _ I k) fun u s1 hz=>?_
 obtain⟨v,H1,I1,r1,a,ob,kvs,nf,e,q⟩:=hz
 exact⟨v,_,vG I1 nf e,r1,q⟩
def wj(ce:CE)(f:(Sto->Prop)->Nat->List U->Rho->Sto->Option Sto)(n:Nat)(caps:List Nat):CE:=fun ρ S=>(ce ρ S).bind fun p=>match p.1 with
 |.ref l=>match p.2[l]? with
  |some (.dit kus)=>uni fun ep=>(f (fun S'=>S'[l]?=some (.fdt ep kus)) p.2.length (kus.map fun q=>.tup (q.1.map kU)) (gJ n caps ρ) (p.2.set l (.fdt ep kus)++[.lst []])).bind fun S'=>match S'[l]? with
   |some (.fdt _ kus')=>some (.ref p.2.length,S'.set l (.dit kus'))
   |_=>none
  |_=>none
 |_=>none
def rq(ce:CE)(g:CG)(el:CE)(n:Nat)(caps:List Nat):CE:=wj ce (fun ok l=>fO ok g el l) n caps
theorem tP{ce:CE}{f:(Sto->Prop)->Nat->List U->Rho->Sto->Option Sto}{n:Nat}{caps:List Nat}{G:It->Hp->L2.St->VK->Prop}
  (core:∀{J:It} {us:List U} {ok:Sto->Prop} {Q:VK} {m1:List Addr} {H1:Hp} {S1 S':Sto} {ρ:Rho} {σ:L2.St},Sr X.K m1 S1 H1->Lr X.K m1 H1 ρ σ->zc X.K J m1 H1 us ok->f ok S1.length us (gJ n caps ρ) (S1++[.lst []])=some S'->
   (∀l,H1 l=none->∀m2 H2,Ext X.K (m1++[l]) (upd H1 l (.lst [])) m2 H2->Sr X.K m2 S' H2->Q (.ref l) H2)->G J H1 σ Q) :
  ∀σ H Q,tE X.K (wj ce f n caps) σ H Q->zP X (tE X.K ce) σ H fun J H1=>G J H1 σ fun v H'=>∃a ob kvs,FQ X a/\H' a=some (.frz ob (.dT kvs))/\Q v (upd H' a (.dT kvs)):=by
 intro σ H Q hz
 refine ie hz fun m ρ S u S' sr lr hc post=>?_
 obtain⟨⟨x,S1⟩,h1,h⟩:=Q3.mp hc
 refine⟨m,ρ,S,x,S1,sr,lr,h1,fun m1 v1 H1 e1 sr1 i1=>?_⟩
 cases x with
 |ref l=>
  simp only at h
  split at h<;>try cases h
  rename_i kus hS
  obtain⟨a,ha,rfl⟩:=i1.of_ref
  obtain⟨a',ha',kvs,hx,ip⟩:=sr1.get hS
  rw[ha]at ha';cases ha'
  refine⟨a,kvs,rfl,hx,fun ob es ep nf hd=>?_⟩
  obtain⟨S2,h2,h3⟩:=Q3.mp (xB h ep)
  try simp only at h3
  split at h3<;>try cases h3
  rename_i ep' kus' hS2
  have ee:Ext X.K m1 H1 m1 (upd H1 a (.frz ob (.dT kvs))):=.of (sr1.keep ha _)
  have sr2:Sr X.K m1 (S1.set l (.fdt ep kus)) (upd H1 a (.frz ob (.dT kvs))):=sr1.put ha ⟨ob,es,kvs,aJ,hd,ip.mono ee⟩
  rw[ip.1]
  have hln:(S1.set l (.fdt ep kus)).length=S1.length:=by simp
  refine core sr2 (lr.mono (e1.trans ee)) (yD ha) (by rw[hln];exact h2) fun p hp m3 H3 e3 sr3=>?_
  have en:Ext X.K m1 (upd H1 a (.frz ob (.dT kvs))) (m1++[p]) (upd (upd H1 a (.frz ob (.dT kvs))) p (.lst [])):=.new (br hp _)
  have e03:=en.trans e3
  obtain⟨a3,ha3,ob3,es3,kvs3,hx3,hd3,ip3⟩:=sr3.get hS2
  rw[e03.get ha]at ha3;cases ha3
  have e4:Ext X.K m3 H3 m3 (upd H3 a (.dT kvs3)):=.of (sr3.keep (e03.get ha) _)
  refine⟨a,ob3,kvs3,nf,hx3,post m3 _ _ (((e1.trans ee).trans e03).trans e4) (sr3.put (e03.get ha) ⟨kvs3,aJ,ip3.mono e4⟩) ?_⟩
  have lg:(m1++[p])[S1.length]?=some p:=cN sr1.len
  exact .ref_ (e3.get lg)
 |_=>cases h
variable{Nc capN tn:List Str}{scope:Scope}{cl:List (Str×Addr)}{n:Nat}{caps:List Nat}{tg iter elt c:Expr}{pos:Pos}{ci:CE}{g:CG}{ct:CT}{ce:CE}
theorem Bx(hc:X.calm=true)(hi:QE X iter ci)(hg:∀s3 H3 fp,WG (cxC X Nc scope cl s3 H3 fp) tg (tG X.K g))(he:∀s3 H3 fp,WE (cxC X Nc scope cl s3 H3 fp) elt (tE X.K ce))
  (hclos:closureFor scope X.env=pure cl) (hkind:scope.kind=.function) (hnl:∀x∈scope.names,x.2=.local->scope.names.lookup x.1=some .local) (hcell:∀x∈scope.names,x.2≠.cell)
  (hcl:mK X.env cl) (hhas:((relabel scope X.env).names.all fun p=>!(p.2 == .cell||p.2 == .free)||(cl.lookup p.1).isSome)=true)
  (hcap:Paired (Cap X scope cl) caps capN) (hN:Nc=tn++capN) (hn:tn.length=n)
  (hs:∀x,foldedSetIterable iter X.env x=pure x:=by intro _;rfl) :
  QE X (.ListComp elt [⟨tg,iter,[],0⟩] scope pos) (rq ci g ce n caps):=
 (xw (pS hc (xt hi) hg he hclos hkind hnl hcell hcl hhas hcap hN hn hs)).imp (tP (G:=fun J H1 σ Q=>∀l,H1 l=none->∃W:Nat->Nat->L2.St->Hp->Prop,(∃m,W 0 m (OG.stC n caps σ) (upd H1 l (.lst [])))/\
  ∀i m σ' H2,W i m σ' H2->(J.stop i H2/\Q (.ref l) H2)\/(J.go i H2/\∃N:L2.St->Hp->Prop,(∀σ'' H',N σ'' H'->∃m',m'<m/\W (i+1) m' σ'' H')/\
  ∀x H3,J.yld i H2 x H3->tG X.K g x σ' H3 fun σ2 H4=>tE X.K ce σ2 H4 fun v H5=>∃ys,H5 l=some (.lst ys)/\ys.length<sizeLine/\N σ2 (upd H5 l (.lst (ys++[v]))))) fun sr lr ito h2 post l hl=>n9 sr lr ito hl h2 (post l hl))
end
theorem kS(n:Nat):(Qj n).map (fun k=>n-1-k)=(Qj n).reverse:=by
 refine List.ext_getElem (by simp) fun i h1 h2=>?_
 simp at h1
 simp[List.getElem_reverse]
theorem uN(its:List Value):slicePick its.toArray none none (some (-1))=its.reverse.toArray:=by
 have hr:sliceRange ((its.length:Int)-1) (-1) (-1)=(Qj its.length).reverse:=by
  rw[<-kS]
  unfold sliceRange
  have h0:¬((-1:Int)>0):=by decide
  simp only[h0,if_false]
  have hc:(if (its.length:Int)-1 > -1 then((its.length:Int)-1 - -1 - -1-1) / - -1 else 0).toNat=its.length:=by
   by_cases h:(its.length:Int)-1 > -1
   ·rw[if_pos h]
    have:((its.length:Int)-1 - -1 - -1-1) / - -1=its.length:=by
     rw[Int.neg_neg,Int.ediv_one];omega
    rw[this];exact Z3 _
   ·rw[if_neg h];simp;omega
  rw[hc]
  refine Zu fun k hk=>?_
  have:=Qu.mp hk
  omega
 unfold slicePick sliceBounds
 have h0:¬((-1:Int)>0):=by decide
 simp only[Qi,h0,if_false,QD,hr]
 rw[List.filterMap_reverse]
 have:=pick_run its.toArray 0 its.length
 simp only[Nat.zero_add,List.map_id',List.drop_zero]at this
 rw[this,Z4 (by simp)]
theorem xU(its:List Value):slicePick its.toArray none none (some 1)=its.toArray:=by
 unfold slicePick sliceBounds
 have h0:(1:Int)>0:=by decide
 simp only[Qi,h0,if_true,QD]
 have:=sliceRange_one 0 its.length
 simp only[Nat.sub_zero]at this
 rw[show((0:Int))=((0:Nat):Int)from rfl,this]
 have:=pick_run its.toArray 0 its.length
 rw[this,List.drop_zero,Z4 (by simp)]
theorem lO:∀{xs:List V} {us:List Value},a5 xs us->a5 xs.reverse us.reverse
 |[],us,r=>by cases r;exact .nil
 |x::xs,us,r=>by
  cases r with
  |cons r1 r2=>
   rw[List.reverse_cons,List.reverse_cons]
   exact a5.append (lO r2) (.cons r1 .nil)
section
variable{X:Cx}{K:Q5}
def IQ(K:Q5)(te ts:TE):TE:=fun σ H Q=>te σ H fun x H1=>ts σ H1 fun y H2=>∃(a:Addr) (xs:List V) (b:Bool),x=.ref a/\SqL K H2 a xs/\y=.int (if b then 1 else -1)/\∀p,H2 p=none->Q (.ref p) (upd H2 p (.lst (if b then xs else xs.reverse)))
theorem AS{e st:Expr}{te ts:TE}{pos p2:Pos}(he:WE X e te)(hst:WE X st ts):WE X (.Subscript e (.Slice none none (some st) p2) pos) (IQ X.K te ts):=by
 constructor
 intro pins s σ H Q I h
 refine Subscript_ (thn (he.h pins s σ H _ I h) fun v s1 hz=>?_)
 obtain⟨x,H1,I1,r1,q1⟩:=hz
 refine wpAny_Slice ?_
 rw[evalPart_none]
 refine Q8 (Q8 ?_)
 show wpAny _ _ (eval st X.env) _ _ s1
 refine thn (hst.h pins s1 σ H1 _ I1 q1) fun vs s3 hz=>?_
 obtain⟨y,H3,I3,ry,a,xs,b,rfl,hx,rfl,q⟩:=hz
 cases r1
 obtain⟨t,rfl⟩:=(show ∃t,vs=Value.int (if b then 1 else -1) t from ry)
 have I4:Inv X pins σ H3 { s3 with heap:=s3.heap.push { cls:=.type "slice",data:=.fields #[.none,.none,.int (if b then 1 else -1) t] } }:=I3.kept (t':=s3.toks) fun b ob q=>Q4 _ q
 obtain⟨its,r,ht,hz⟩:=I4.list hx
 have hlen:=r.length
 show wpAny (model X.prog X.w) X.A (subscriptTail e (.Slice none none (some st) p2) (.ref a) (.ref s3.heap.objs.size)) (EP X pins σ Q) X.xe { s3 with heap:=s3.heap.push { cls:=.type "slice",data:=.fields #[.none,.none,.int (if b then 1 else -1) t] } }
 refine tail_any (ops:=[.ref a,.ref s3.heap.objs.size]) ht.isList.typeIs slot_list_getitem.lookup ?_ (by with_unfolding_all rfl)
 refine wpAny_getItem_list_slice ht.isList (Heap.IsSliceOf.new ..) .none .none (.int _ t) (by cases b<;>simp) ?_ (by rw[QD]<;>omega)
 have hp:slicePick its.toArray none none (some (if b then 1 else -1))=(if b then its else its.reverse).toArray:=by
  cases b
  ·exact uN its
  ·exact xU its
 rw[hp]
 refine⟨.ref _,_,I4.laid (t':=s3.toks) (o:=.lst (if b then xs else xs.reverse)) (fun b ob q=>Q4 _ q) (QJ _) ?_,rfl,q _ (I4.hok.fresh (QJ _))⟩
 cases b
 ·exact⟨by simpa using hz,_,0,lO r,QY _ rfl⟩
 ·exact⟨hz,_,0,r,QY _ rfl⟩
def wU(x y:U)(S:Sto):Option (U×Sto):=match x with
 |.ref l=>match y with
  |.int i=>match S[l]? with
   |some (.lst us)=>if i=1 then some (.ref S.length,S++[.lst us])else if i=-1 then some (.ref S.length,S++[.lst us.reverse])else none
   |_=>none
  |_=>none
 |_=>none
theorem Ed{e st:Expr}{ca cs:CE}{pos p2:Pos}(ha:QE X e ca)(hs:QE X st cs):QE X (.Subscript e (.Slice none none (some st) p2) pos) (cOp wU ca cs):=
 (AS ha hs).imp fun σ H Q hz=>ie hz fun m ρ S u S' sr lr hc post=>by
 obtain⟨⟨x,S1⟩,h1,h⟩:=Q3.mp hc
 obtain⟨⟨y,S2⟩,h3,h4⟩:=Q3.mp h
 refine⟨m,ρ,S,_,S1,sr,lr,h1,fun m1 v1 H1 e1 sr1 i1=>⟨m1,ρ,S1,_,S2,sr1,lr.mono e1,h3,fun m2 v2 H2 e2 sr2 i2=>?_⟩⟩
 cases x with
 |ref l=>
  cases y with
  |int i=>
   simp only[wU]at h4
   split at h4<;>try cases h4
   rename_i us hS
   obtain⟨a,ha,rfl⟩:=(i1.mono e2).of_ref
   obtain⟨a',ha',xs,hx,la⟩:=sr2.get hS
   rw[ha]at ha';cases ha'
   split at h4
   ·rename_i hi
    subst hi
    cases h4
    refine⟨a,xs,true,rfl,SqL.of hx,i2.of_int,fun p hp=>?_⟩
    have en:Ext X.K m2 H2 (m2++[p]) (upd H2 p (.lst xs)):=.new (br hp _)
    exact post (m2++[p]) _ _ ((e1.trans e2).trans en) (sr2.new hp ⟨xs,aJ,la.mono en⟩) (.ref_ (cN sr2.len))
   ·split at h4<;>try cases h4
    rename_i hi
    subst hi
    refine⟨a,xs,false,rfl,SqL.of hx,i2.of_int,fun p hp=>?_⟩
    have en:Ext X.K m2 H2 (m2++[p]) (upd H2 p (.lst xs.reverse)):=.new (br hp _)
    exact post (m2++[p]) _ _ ((e1.trans e2).trans en) (sr2.new hp ⟨xs.reverse,aJ,la.rev.mono en⟩) (.ref_ (cN sr2.len))
  |_=>cases h4
 |_=>cases h4
end
def ltR:List Int->List Int->Bool
 |[],[]=>false
 |[],_::_=>true
 |_::_,[]=>false
 |a::r,b::t=>if a=b then ltR r t else decide (a<b)
theorem jJ:∀r:List Int,ltR r r=false
 |[]=>rfl
 |a::r=>by rw[ltR,if_pos rfl];exact jJ r
theorem mv:∀{r t:List Int},ltR r t=true->ltR t r=false
 |[],[],h=>by cases h
 |[],_::_,_=>rfl
 |_::_,[],h=>by cases h
 |a::r,b::t,h=>by
  rw[ltR]at h ⊢
  by_cases e:a=b
  ·rw[if_pos e]at h;rw[if_pos e.symm];exact mv h
  ·rw[if_neg e,decide_eq_true_eq]at h;rw[if_neg (Ne.symm e),decide_eq_false_iff_not];omega
theorem vc:∀{r t:List Int},r≠t->ltR r t=false->ltR t r=true
 |[],[],n,_=>absurd rfl n
 |[],_::_,_,h=>by cases h
 |_::_,[],_,_=>rfl
 |a::r,b::t,n,h=>by
  rw[ltR]at h ⊢
  by_cases e:a=b
  ·subst e
   rw[if_pos rfl]at h ⊢
   exact vc (fun z=>n (by rw[z])) h
  ·rw[if_neg e,decide_eq_false_iff_not]at h;rw[if_neg (Ne.symm e),decide_eq_true_eq];omega
theorem nH:∀{r t u:List Int},ltR r t=true->ltR t u=true->ltR r u=true
 |[],[],_,h,_=>by cases h
 |_::_,[],_,h,_=>by cases h
 |_,_::_,[],_,k=>by cases k
 |[],_::_,_::_,_,_=>rfl
 |a::r,b::t,c::u,h,k=>by
  rw[ltR]at h k ⊢
  by_cases e:a=b
  ·subst e
   rw[if_pos rfl]at h
   by_cases e2:a=c
   ·rw[if_pos e2]at k ⊢;exact nH h k
   ·rw[if_neg e2]at k ⊢;exact k
  ·rw[if_neg e,decide_eq_true_eq]at h
   by_cases e2:b=c
   ·subst e2;rw[if_neg e,decide_eq_true_eq];exact h
   ·rw[if_neg e2,decide_eq_true_eq]at k
    have:a≠c:=by omega
    rw[if_neg this,decide_eq_true_eq];omega
def pH(h:Heap)(v:Value)(ns:List Int):Prop:=∃b o its e,v=Value.ref b/\h.get? b=some o/\o.cls=Value.type "tuple"/\o.data=Data.seq its e/\a5 (ns.map V.int) its.toList
section
variable{prog:Program}{w:World}{A:Around}{E:Value->Shared->Prop}{s:Shared}
theorem zG{C:Bool->Shared->Prop}{fin:Bool}:∀{ns ms:List Int} {vs us:List Value} {i:Nat},a5 (ns.map V.int) vs->a5 (ms.map V.int) us->fin=decide (ns.length<ms.length)->C (ltR ns ms) s->KatLex prog w A true fin C (vs.zip us) i s
 |[],ms,vs,us,i,r1,r2,e,c=>by
  cases r1
  rw[List.zip_nil_left]
  refine kat_nil ?_
  cases ms with
  |nil=>subst e;exact c
  |cons m ms=>subst e;exact c
 |n::ns,[],vs,us,i,r1,r2,e,c=>by
  cases r2
  rw[List.zip_nil_right]
  refine kat_nil ?_
  subst e;exact c
 |n::ns,m::ms,vs,us,i,r1,r2,e,c=>by
  cases r1 with
  |cons u1 t1=>
   cases r2 with
   |cons u2 t2=>
    obtain⟨k1,rfl⟩:=u1
    obtain⟨k2,rfl⟩:=u2
    rw[List.zip_cons_cons]
    refine kat_cons (wpAny_eqBool_int ?_)
    by_cases en:n=m
    ·subst en
     rw[beq_self_eq_true]
     rw[ltR,if_pos rfl]at c
     exact kat_yes (zG t1 t2 (by rw[e];simp) c)
    ·rw[beq_eq_false_iff_ne.mpr en]
     rw[ltR,if_neg en]at c
     exact kat_no (iK c)
theorem Ea{v v':Value}{ns ms:List Int}{C:Bool->Shared->Prop}(h:pH s.heap v ns)(h':pH s.heap v' ms)(c:C (ltR ns ms) s):wpAny (model prog w) A (keyLt' (tuples' true) v v') C E s:=by
 obtain⟨b,o,its,e,rfl,g,_,d,r⟩:=h
 obtain⟨b',o',its',e',rfl,g',_,d',r'⟩:=h'
 refine kat_lt g d g' d' (zG r r' ?_ c)
 have l1:its.size=ns.length:=by have:=r.length;rw[QZ]at this;rw[this];exact QH.symm
 have l2:its'.size=ms.length:=by have:=r'.length;rw[QZ]at this;rw[this];exact QH.symm
 rw[l1,l2]
def dY(h:Heap):List Value->List (List Int)->Prop
 |[],[]=>True
 |v::vs,p::ps=>pH h v p/\dY h vs ps
 |_,_=>False
theorem lW{h:Heap}:∀{vs:List Value} {ps:List (List Int)},dY h vs ps->vs.length=ps.length
 |[],[],_=>rfl
 |_::_,_::_,k=>by rw[QB,QB,lW k.2]
 |[],_::_,k=>k.elim
 |_::_,[],k=>k.elim
theorem lX{h:Heap}:∀{vs:List Value} {ps:List (List Int)} {i:Nat},dY h vs ps->i<ps.length->pH h (vs.getD i Value.none) (ps.getD i [])
 |[],[],_,_,k=>absurd k (Nat.not_lt_zero _)
 |_::_,_::_,0,k,_=>k.1
 |_::vs,_::ps,i+1,k,l=>by
  show pH h (vs.getD i Value.none) (ps.getD i [])
  exact lX k.2 (by rw[QB]at l;omega)
 |[],_::_,_,k,_=>k.elim
 |_::_,[],_,k,_=>k.elim
theorem gH{h h':Heap}{a:Addr}(m:∀b o,b≠a->h.get? b=some o->h'.get? b=some o):∀{vs:List Value} {ps:List (List Int)},dY h vs ps->(∀v∈vs,v≠.ref a)->dY h' vs ps
 |[],[],_,_=>trivial
 |v::vs,_::_,k,hv=>by
  refine⟨?_,gH m k.2 fun x hx=>hv x (QU _ hx)⟩
  obtain⟨b,o,its,e,rfl,g,c,d⟩:=k.1
  exact⟨b,o,its,e,rfl,m b o (fun e=>hv _ QK (by rw[e])) g,c,d⟩
 |[],_::_,k,_=>k.elim
 |_::_,[],k,_=>k.elim
theorem m9{h:Heap}:∀{vs:List Value} {ps:List (List Int)},dY h vs ps->(∀p∈ps,p≠[])->∃fs,KatTups h vs fs/\fs.length=vs.length/\∀f∈fs,∃i t,f=Value.int i t
 |[],[],_,_=>⟨[],trivial,rfl,fun f hf=>by cases hf⟩
 |v::vs,p::ps,k,ne=>by
  obtain⟨fs,h1,h2,h3⟩:=m9 k.2 fun q hq=>ne q (QU _ hq)
  obtain⟨b,o,its,e,hv,g,c,d,r⟩:=k.1
  cases p with
  |nil=>exact absurd rfl (ne [] QK)
  |cons n ns=>
   obtain⟨x,t,hx⟩:∃x t,its.toList=x::t:=by
    cases hl:its.toList with
    |nil=>rw[hl]at r;have:=r.length;simp at this
    |cons x t=>exact⟨x,t,rfl⟩
   have hi:∃i t',x=Value.int i t':=by
    rw[hx]at r
    cases r with
    |cons u1 t1=>obtain⟨k1,rfl⟩:=u1;exact⟨_,_,rfl⟩
   refine⟨x::fs,⟨⟨b,o,its,e,hv,g,c,d,?_⟩,h1⟩,by rw[QB,QB,h2],fun f hf=>?_⟩
   ·rw[<-Qw,hx];rfl
   ·rcases QM.mp hf with z|z
    ·rw[z];exact hi
    ·exact h3 f z
 |[],_::_,k,_=>k.elim
 |_::_,[],k,_=>k.elim
theorem uq{vs:List Value}{ps:List (List Int)}{Q:SortKind->Shared->Prop}(h:dY s.heap vs ps)(ne:∀p∈ps,p≠[])(hn:0<vs.length)(q:Q (tuples' true) s):wpAny (model prog w) A (keyKind' vs.toArray) Q E s:=by
 obtain⟨fs,h1,h2,h3⟩:=m9 h ne
 refine kat_kind (T:=Value.type "int") h1 (by omega) (fun v hv A Q E s' _ q=>?_) (by decide +kernel) (by exact q)
 obtain⟨i,t,rfl⟩:=h3 v hv
 exact wpAny_typeOf (typeIs_int s' i t) q
theorem gI{h:Heap}:∀{vs:List Value} {ps:List (List Int)},dY h vs ps->∀v∈vs,∀a,h.objs.size<=a->v≠.ref a
 |[],[],_,v,hv,_,_=>by cases hv
 |_::_,_::_,k,v,hv,a,ha=>by
  rcases QM.mp hv with z|z
  ·obtain⟨b,o,its,e,e1,g,_⟩:=k.1
   rw[z,e1]
   intro e2
   cases e2
   exact absurd (QX g) (Zj.mpr ha)
  ·exact gI k.2 v z a ha
 |[],_::_,k,_,_,_,_=>k.elim
 |_::_,[],k,_,_,_,_=>k.elim
end
theorem EU{ps:List (List Int)}(nd:ps.Nodup):wX ps.length fun i j=>ltR (ps.getD i []) (ps.getD j []) where
 tr:=fun{i j k} hi hj hk h1 h2=>nH h1 h2
 asym:=fun{i j} hi hj h=>mv h
 tot:=fun{i j} hi hj hne h=>by
  refine vc (fun e=>hne ?_) h
  rw[QV,QV,Q7 hi,Q7 hj]at e
  simp only[Qi]at e
  exact(List.getElem_inj nd).mp e
def FV(ps:List (List Int))(q:Array Nat):Prop:=Pm ps.length q/\Asc (fun i j=>ltR (ps.getD i []) (ps.getD j [])) q ps.length
theorem fR{prog:Program}{w:World}{A:Around}{E:Value->Shared->Prop}{s:Shared}{a:Addr}{vs:List Value}{ps:List (List Int)}{n:Nat}{P:PySem.Fin->Shared->Prop}
  (g:s.heap.get? a=some (seqObj "list" vs.toArray n)) (hp:dY s.heap vs ps) (hv:∀v∈vs,v≠.ref a) (ne:∀p∈ps,p≠[]) (nd:ps.Nodup) (h64:ps.length<64)
  (k:∀q:Array Nat,FV ps q->P (Fin.done (Flow.ret Value.none)) { s with heap:=sortedHeap s.heap a vs (q.toList.map fun i=>vs.getD i Value.none).toArray }) :
  wpAny (model prog w) A (Builtin.«list.sort» { pos:=[Value.ref a] }) P E s:=by
 have hl:=lW hp
 by_cases h2:vs.length<2
 ·have hr:((Qj ps.length).toArray.toList.map fun i=>vs.getD i Value.none)=vs:=by
   rw[<-hl]
   refine ZT fun i=>?_
   by_cases hi:i<vs.length
   ·simp[List.getElem?_range hi,Q7 hi]
   ·simp[Z9 (Nat.le_of_not_lt hi),hi]
  have:=k (Qj ps.length).toArray ⟨mh,fun i j hij hj=>by omega⟩
  rw[hr]at this
  exact fu g h2 this
 ·refine gX g (by omega) (by omega) fun h' m=>?_
  have hp':dY ({ s with heap:=h' }:Shared).heap vs ps:=gH m hp hv
  refine uq hp' ne (by omega) ⟨rfl,?_⟩
  have hl':vs.length=ps.length:=hl
  rw[hl']
  refine tZ (EU nd) (fun i j C hi hj c=>?_) (by omega) fun q P1 P2=>⟨rfl,k q ⟨P1,P2⟩⟩
  exact Ea (lX hp' hi) (lX hp' hj) c
theorem oT{prog:Program}{w:World}{A:Around}{E:Value->Shared->Prop}{s:Shared}{l:Addr}{vs:List Value}{ps:List (List Int)}{Q:Value->Shared->Prop}
  (hL:s.heap.IsList l vs.toArray) (hp:dY s.heap vs ps) (ne:∀p∈ps,p≠[]) (nd:ps.Nodup) (h64:ps.length<64)
  (k:∀q:Array Nat,FV ps q->Q (Value.ref (s.heap.objs.size+1)) { s with heap:=sortedAll s.heap vs (q.toList.map fun i=>vs.getD i Value.none).toArray }) :
  wpAny (model prog w) A (call (Value.builtin "sorted") [Value.ref l]) Q E s:=by
 have hl:=lW hp
 have hz:vs.length<=sizeLine:=by unfold sizeLine;omega
 refine Calls.call_function_entry kind_sorted plain_sorted entry_sorted (args_sorted1 _) ?_
 unfold Builtin.«sorted»
 refine Q2 (m:=checkCount "sorted" 1 1 _) (Q8 (Q2 (collect_list hL (Q2 (wpAny_newList ?_ hz)) hz)))
 have hsz:((s.heap.push (seqObj "list" #[] 0)).update s.heap.objs.size (Obj.mapSeq fun x=>x++vs.toArray)).objs.size=s.heap.objs.size+1:=by
  rw[Heap.size_update,size_push']
 have gL:(((s.heap.push (seqObj "list" #[] 0)).update s.heap.objs.size (Obj.mapSeq fun x=>x++vs.toArray)).push (seqObj "list" vs.toArray 0)).get? (s.heap.objs.size+1)=some (seqObj "list" vs.toArray 0):=by
  rw[<-hsz];exact QY _ rfl
 have old:∀b o,s.heap.get? b=some o->(((s.heap.push (seqObj "list" #[] 0)).update s.heap.objs.size (Obj.mapSeq fun x=>x++vs.toArray)).push (seqObj "list" vs.toArray 0)).get? b=some o:=fun b o g=>by
  refine Q4 _ ?_
  rw[Heap.get?_update_ne _ _ _ _ (QC (QX g))]
  exact Q4 _ g
 show wpAny _ _ _ _ _ { s with heap:=((s.heap.push (seqObj "list" #[] 0)).update s.heap.objs.size (Obj.mapSeq fun x=>x++vs.toArray)).push (seqObj "list" vs.toArray 0) }
 rw[show Value.ref ((s.heap.push (seqObj "list" #[] 0)).update s.heap.objs.size (Obj.mapSeq fun x=>x++vs.toArray)).objs.size=Value.ref (s.heap.objs.size+1)from by rw[hsz]]
 refine Q2 (wpAny_holding (wpAny_call_entry slot_list_sort ⟨_,gL,rfl⟩ entry_list_sort (fR (n:=0) gL (gH (a:=s.heap.objs.size+1) (fun b o _ g=>old b o g) hp fun v hv=>gI hp v hv _ (by omega)) (fun v hv=>gI hp v hv _ (by omega)) ne nd h64 fun q hq=>⟨_,rfl,?_⟩) (args_list_sort _)))
 exact Q8 ⟨_,rfl,k q hq⟩
def RwL(K:Q5)(H:Hp):List V->List (List Int)->Prop
 |[],[]=>True
 |x::xs,p::ps=>(∃a,x=.ref a/\SqT K H a (p.map V.int))/\RwL K H xs ps
 |_,_=>False
theorem ui{K:Q5}{H:Hp}:∀{ys:List V} {ps:List (List Int)},RwL K H ys ps->ys.length=ps.length
 |[],[],_=>rfl
 |_::_,_::_,k=>by rw[QB,QB,ui k.2]
 |[],_::_,k=>k.elim
 |_::_,[],k=>k.elim
theorem zq{X:Cx}{pins:List (Addr×Obj)}{σ:L2.St}{H:Hp}{s:Shared}(I:Inv X pins σ H s):∀{ys:List V} {ps:List (List Int)} {vs:List Value},RwL X.K H ys ps->a5 ys vs->dY s.heap vs ps
 |[],[],_,_,r=>by cases r;trivial
 |_::_,p::ps,_,k,r=>by
  cases r with
  |cons r1 r2=>
   refine⟨?_,zq I k.2 r2⟩
   obtain⟨a,rfl,hs⟩:=k.1
   obtain⟨its,rv,⟨o,g,c,n,d⟩,_⟩:=I.tuple hs
   cases r1
   exact⟨a,o,_,n,rfl,g,c,d,by simpa using rv⟩
 |[],_::_,_,k,_=>k.elim
 |_::_,[],_,k,_=>k.elim
def lZ(K:Q5):List V->Hp->VK->Prop:=fun xs H Q=>∃(p:Addr) (ys:List V) (ps:List (List Int)),xs=[.ref p]/\SqL K H p ys/\RwL K H ys ps/\(∀p∈ps,p≠[])/\ps.Nodup/\ps.length<64/\
 ∀(l:Addr) (q:Array Nat),H l=none->FV ps q->Q (.ref l) (upd H l (.lst (q.toList.map fun i=>ys.getD i .non)))
theorem uZ{X:Cx}:cG X (.builtin "sorted") (lZ X.K):=by
 rintro pins s σ H xs us Q I r ⟨p,ys,ps,rfl,hL,hp,ne,nd,h64,q⟩
 obtain⟨u,rfl,ru⟩:=gC r
 cases ru
 obtain⟨its,rv,pl,hz⟩:=I.list hL
 have hlen:=ui hp
 refine oT pl.isList (zq I hp rv) ne nd h64 fun qa a1=>?_
 obtain⟨e,ge⟩:=sortedAll_at s.heap its (qa.toList.map fun i=>its.getD i Value.none).toArray
 have hf:=I.hok.fresh (Zm s.heap.objs.size)
 have hq:qa.toList.length=ps.length:=by rw[QH,a1.1.sz]
 refine⟨.ref (s.heap.objs.size+1),_,I.laid (o:=.lst (qa.toList.map fun i=>ys.getD i .non)) (t':=s.toks) (fun b o e=>sortedAll_old e) (Zm _) ⟨by rw[QZ,hq];unfold sizeLine;omega,_,e,iZ rv qa.toList (by rw[hlen];exact eZ a1.1),ge⟩,rfl,q _ qa hf a1⟩
theorem Bs{prog:Program}{w:World}{d:Addr}{o:Obj}{es:Array DictEntry}{ep:Nat}(hd:(d == sysModules)=false)(hc:o.ExactDict)(he:o.data=.dict es ep) :
  KdlSrc prog w "dict" d d es.size (fun i v=>∃h:i<es.size,v=es[i].key) (fun h=>h.get? d=some o) where
 type:=fun s g=>⟨o,g,hc.1⟩
 there:=fun h g=>⟨QX g,QX g⟩
 keep:=fun h h' g m=>m d (.inl rfl) o g
 notList:=by decide
 notTuple:=by decide
 hint:=fun A E s Q g q=>kdl_hint_dict ⟨o,g,hc.1⟩ q
 iter:=fun A s hh g=>by
  refine⟨_,fun i h=>h.IsKeyIter s.heap.objs.size d i es.size ep/\h.get? d=some o,fun E Q q=>qq hd g hc he q,?_,⟨⟨_,QY _ rfl,rfl,rfl⟩,Q4 _ g⟩⟩
  refine⟨fun b hb=>by simp at hb;simp[hb],fun i h h' st m=>?_,fun i s' Q E hi st k=>?_,fun s' Q E st k=>?_,fun i s' Q E st q=>?_⟩
  ·obtain⟨⟨o1,g1,c1,d1⟩,g2⟩:=st
   exact⟨⟨o1,m _ (by simp) o1 g1,c1,d1⟩,m _ (by simp) o g2⟩
  ·refine qr st.1 st.2 he hi fun h' it' sb=>k _ h' _ ⟨hi,rfl⟩ ⟨it',?_⟩ fun b o' hb g'=>?_
   ·have:d≠s.heap.objs.size:=QC (QX g)
    rw[sb.2 d this];exact st.2
   ·rw[sb.2 b (by simpa using hb)];exact g'
  ·exact ur hh st.1 st.2 he (QJ _) fun h' eb=>k h' _ fun b o' hb g'=>eb b o' (by simpa using hb) g'
  ·exact wpAny_pyIter_keyiter st.1 q
def lY:List V->Hp->VK->Prop:=fun xs H Q=>∃(d:Addr) (kvs:List (List Key×V)) (ps:List (List Int)),xs=[.ref d]/\H d=some (.dT kvs)/\kvs.map (·.1)=ps.map (fun p=>p.map Sum.inl)/\(∀p∈ps,p≠[])/\ps.Nodup/\ps.length<64/\
 ∀(as:List Addr) (l:Addr) (q:Array Nat),H l=none->as.length=ps.length->(∀(i:Nat) (a:Addr) (p:List Int),as[i]?=some a->ps[i]?=some p->H a=some (.tup (p.map V.int)))->FV ps q->
  Q (.ref l) (upd H l (.lst (q.toList.map fun i=>.ref (as.getD i 0))))
theorem E2{H:Hp}:∀{kvs:List (List Key×V)} {xs:List (List Key×Addr×Value)} {ps:List (List Int)},KT H kvs xs->kvs.map (·.1)=ps.map (fun p=>p.map Sum.inl)->∀(i:Nat) (a:Addr) (p:List Int),(xs.map fun x=>x.2.1)[i]?=some a->ps[i]?=some p->H a=some (.tup (p.map V.int))
 |_,_,ps,.nil,_,i,a,p,h,_=>by simp at h
 |(k,v)::kvs,(k',b,u)::xs,[],.cons r t,e,i,a,p,_,hp=>by simp at hp
 |(k,v)::kvs,(k',b,u)::xs,p0::ps,.cons r t,e,i,a,p,h,hp=>by
  simp only[Qx,List.cons.injEq]at e
  obtain⟨e1,e2⟩:=e
  cases i with
  |zero=>
   simp at h hp
   subst h;subst hp
   obtain⟨r1,r2,r3⟩:=r
   dsimp only at r1 r2
   rw[r2,e1,Qc];rfl
  |succ i=>
   simp only[Qx,Qg]at h hp
   exact E2 t e2 i a p h hp
theorem uo{h:Heap}:∀{as:List Addr} {ps:List (List Int)},as.length=ps.length->(∀(i:Nat) (a:Addr) (p:List Int),as[i]?=some a->ps[i]?=some p->pH h (.ref a) p)->dY h (as.map Value.ref) ps
 |[],[],_,_=>trivial
 |a::as,p::ps,l,k=>⟨k 0 a p rfl rfl,uo (by simpa using l) fun i a p h1 h2=>k (i+1) a p (by simpa using h1) (by simpa using h2)⟩
 |[],_::_,l,_=>by simp at l
 |_::_,[],l,_=>by simp at l
theorem uY{X:Cx}(hc:X.calm=true):cG X (.builtin "sorted") lY:=by
 rintro pins s σ H xs us Q I r ⟨d,kvs,ps,rfl,hD,hk,ne,nd,h64,q⟩
 obtain⟨u,rfl,ru⟩:=gC r
 cases ru
 obtain⟨z,hd,ks,rel,o,es,ep,h1,h2,h3,h4,h5⟩:=px I.hok (.inl hD)
 have lkv:kvs.length=ps.length:=by have:=congrArg List.length hk;simpa using this
 have lks:ks.length=ps.length:=by rw[<-Paired.length rel];exact lkv
 have les:es.size=ps.length:=by rw[<-lks,<-QH,h4,QZ]
 obtain⟨as,has⟩:∃as,as=ks.map fun x=>x.2.1:=⟨_,rfl⟩
 have las:as.length=ps.length:=by rw[has,QZ,lks]
 have hH:∀(i:Nat) (a:Addr) (p:List Int),as[i]?=some a->ps[i]?=some p->H a=some (.tup (p.map V.int)):=by rw[has];exact E2 rel hk
 refine Calls.call_function_entry kind_sorted plain_sorted entry_sorted (args_sorted1 _) ?_
 unfold Builtin.«sorted»
 refine Q2 (m:=checkCount "sorted" 1 1 _) (Q8 (Q2 (kdu_collect (Bs hd h2 h3) (show X.A.in1.handled=none from I.ok.hd hc) h1 (by rw[les];unfold sizeLine;omega) fun h' tk acc up hac=>?_)))
 have hacc:acc.toList=as.map Value.ref:=by
  refine ZT fun i=>?_
  by_cases hi:i<es.size
  ·have hi':i<acc.size:=by rw[hac.1];exact hi
   obtain⟨_,e2⟩:=hac.2 i acc[i] (QR hi')
   have e3:acc.toList[i]?=some acc[i]:=by rw[Qw,QR hi']
   have hk2:i<ks.length:=by rw[lks,<-les];exact hi
   have e4:es.toList[i]?=some (entryOfKey (tupleKind (bA X.prog X.w)) ks[i]):=by rw[h4,Qv,Q7 hk2];rfl
   rw[Qw,QR hi]at e4
   rw[e3,e2,Option.some.inj e4,has,Qc,Qv,Q7 hk2]
   rfl
  ·rw[Z9 (by rw[QH,hac.1];omega),Z9 (by rw[QZ,las,<-les];omega)]
 have hrow:∀(i:Nat) (a:Addr) (p:List Int),as[i]?=some a->ps[i]?=some p->pH h' (.ref a) p:=fun i a p ha hp=>by
  obtain⟨_,its,r,o1,g1,c1,n1,d1⟩:=(show bC X.prog X.w H s.heap a (.tup (p.map V.int))from I.hok a _ (hH i a p ha hp))
  exact⟨a,o1,_,n1,rfl,up a o1 g1,c1,d1,by simpa using r⟩
 have hrows:dY h' (as.map Value.ref) ps:=uo las hrow
 rw[hacc]
 refine Q2 (wpAny_newList ?_ (by rw[QZ,las];unfold sizeLine;omega))
 have gL:(h'.push { cls:=.type "list",data:=.seq (as.map Value.ref).toArray }).get? h'.objs.size=some (seqObj "list" (as.map Value.ref).toArray 0):=QY _ rfl
 have hv':∀v∈as.map Value.ref,v≠.ref h'.objs.size:=fun v hv=>gI hrows v hv _ (QJ _)
 refine Q2 (wpAny_holding (wpAny_call_entry slot_list_sort ⟨_,gL,rfl⟩ entry_list_sort (fR (s:={ s with heap:=h'.push { cls:=.type "list",data:=.seq (as.map Value.ref).toArray },toks:=tk }) gL (gH (a:=h'.objs.size) (fun b o _ g=>Q4 _ g) hrows hv') hv' ne nd h64 fun qa a1=>⟨_,rfl,?_⟩) (args_list_sort _)))
 obtain⟨e,ge⟩:=sortedHeap_at (out:=(qa.toList.map fun i=>(as.map Value.ref).getD i Value.none).toArray) gL
 have I2:Inv X pins σ H { s with heap:=h',toks:=tk }:=I.kept (t':=tk) up
 have old:∀b o,h'.get? b=some o->(sortedHeap (h'.push { cls:=.type "list",data:=.seq (as.map Value.ref).toArray }) h'.objs.size (as.map Value.ref) (qa.toList.map fun i=>(as.map Value.ref).getD i Value.none).toArray).get? b=some o:=fun b o g1=>by
  have lt1:=QX g1
  rw[sortedHeap_old (QC lt1) (by rw[Z7];exact ZJ lt1)]
  exact Q4 _ g1
 have hq:qa.toList.length=ps.length:=by rw[QH,a1.1.sz]
 have rv:=lP as
 have gd:∀i,i<as.length->(as.map V.ref).getD i .non=.ref (as.getD i 0):=fun i hi=>by
  simp[QV,Q7 hi]
 have el:(qa.toList.map fun i=>(as.map V.ref).getD i .non)=qa.toList.map fun i=>V.ref (as.getD i 0):=Zu fun i hi=>gd i (by rw[las];exact eZ a1.1 i hi)
 refine Q8 ⟨_,rfl,.ref h'.objs.size,_,Inv.laid (s:={ s with heap:=h',toks:=tk }) (o:=.lst (qa.toList.map fun i=>.ref (as.getD i 0))) (t':=tk) I2 old (QJ _) ⟨by rw[QZ,hq];unfold sizeLine;omega,_,e,?_,ge⟩,rfl,q as _ qa (I2.hok.fresh (QJ _)) las hH a1⟩
 rw[<-el]
 exact iZ rv qa.toList (by rw[QZ,las];exact eZ a1.1)
open Classical in
def fN(ps:List (List Int)):List (List Int):=if h:∃L:List (List Int),L.Pairwise (fun a b=>ltR a b=true)/\∀x,x∈L↔x∈ps then h.choose else[]
theorem oD:∀{L M:List (List Int)},L.Pairwise (fun a b=>ltR a b=true)->M.Pairwise (fun a b=>ltR a b=true)->(∀x,x∈L↔x∈M)->L=M
 |[],[],_,_,_=>rfl
 |[],m::M,_,_,h=>by have:=(h m).mpr QK;cases this
 |l::L,[],_,_,h=>by have:=(h l).mp QK;cases this
 |l::L,m::M,h1,h2,h=>by
  obtain⟨a1,b1⟩:=ZH.mp h1
  obtain⟨a2,b2⟩:=ZH.mp h2
  have e:l=m:=by
   rcases QM.mp ((h l).mp QK)with z|z
   ·exact z
   ·rcases QM.mp ((h m).mpr QK)with y|y
    ·exact y.symm
    ·have p1:=a2 l z
     rw[mv (a1 m y)]at p1;cases p1
  subst e
  congr 1
  refine oD b1 b2 fun x=>⟨fun hx=>?_,fun hx=>?_⟩
  ·rcases QM.mp ((h x).mp (QU _ hx))with z|z
   ·subst z;have:=a1 x hx;rw[jJ]at this;cases this
   ·exact z
  ·rcases QM.mp ((h x).mpr (QU _ hx))with z|z
   ·subst z;have:=a2 x hx;rw[jJ]at this;cases this
   ·exact z
theorem xG{L ps:List (List Int)}(h1:L.Pairwise (fun a b=>ltR a b=true))(h2:∀x,x∈L↔x∈ps):fN ps=L:=by
 have h:∃L:List (List Int),L.Pairwise (fun a b=>ltR a b=true)/\∀x,x∈L↔x∈ps:=⟨L,h1,h2⟩
 unfold fN
 rw[dif_pos h]
 obtain⟨k1,k2⟩:=h.choose_spec
 exact oD k1 h1 fun x=>(k2 x).trans (h2 x).symm
theorem oE{ps:List (List Int)}{q:Array Nat}(h:FV ps q):fN ps=q.toList.map fun i=>ps.getD i []:=by
 obtain⟨P,A⟩:=h
 have hl:q.toList.length=ps.length:=by rw[QH,P.sz]
 have gd:∀i (hi:i<q.toList.length),q.getD i 0=q.toList[i]:=fun i hi=>by
  have hi':i<q.size:=by simpa using hi
  rw[ZX,QR hi',Array.getElem_toList];rfl
 have h1:(q.toList.map fun i=>ps.getD i []).Pairwise (fun a b=>ltR a b=true):=by
  rw[ZR]
  intro i j hi hj hij
  rw[QZ]at hi hj
  rw[List.getElem_map,List.getElem_map,<-gd i hi,<-gd j hj]
  exact A i j hij (by omega)
 have nd:(q.toList.map fun i=>ps.getD i []).Nodup:=h1.imp fun{a b} h e=>by subst e;rw[jJ]at h;cases h
 have sub:∀x∈q.toList.map fun i=>ps.getD i [],x∈ps:=fun x hx=>by
  obtain⟨i,hi,rfl⟩:=Qa.mp hx
  have:=eZ P i hi
  rw[QV,Q7 this]
  exact Z8 this
 refine xG h1 fun x=>⟨sub x,fun hx=>?_⟩
 refine Classical.byContradiction fun hn=>?_
 have:=List.Nodup.length_le_of_subset (ZV.mpr ⟨hn,nd⟩) (l₂:=ps) fun y hy=>by
  rcases QM.mp hy with z|z
  ·rw[z];exact hx
  ·exact sub y z
 rw[QB,QZ,hl]at this
 omega
def rwU(p:List Int):U:=.tup (p.map U.int)
def rY:List U->Option (List (List Int))
 |[]=>some []
 |.tup us::r=>(mx us).bind fun p=>(rY r).map (p::·)
 |_=>none
theorem ng:∀ps:List (List Int),rY (ps.map rwU)=some ps
 |[]=>rfl
 |p::ps=>by rw[Qx,rwU,rY,fv,Q0,ng ps];rfl
theorem qm:∀{us:List U} {ps:List (List Int)},rY us=some ps->us=ps.map rwU
 |[],ps,h=>by cases h;rfl
 |u::us,ps,h=>by
  cases u with
  |tup ws=>
   rw[rY]at h
   obtain⟨p,e1,h⟩:=Q3.mp h
   obtain⟨qs,e2,h⟩:=Qm.mp h
   subst h
   rw[Qx,<-qm e2,g9 e1];rfl
  |_=>cases h
def yE:List Key->Option (List Int)
 |[]=>some []
 |.inl i::r=>(yE r).map (i::·)
 |_=>none
theorem qZ:∀{ks:List Key} {ns:List Int},yE ks=some ns->ks=ns.map Sum.inl
 |[],ns,h=>by cases h;rfl
 |.inl i::r,ns,h=>by
  rw[yE]at h
  obtain⟨qs,e2,h⟩:=Qm.mp h
  subst h
  rw[Qx,<-qZ e2]
 |.inr x::r,ns,h=>by cases h
def rZ:List (List Key×U)->Option (List (List Int))
 |[]=>some []
 |(ks,_)::r=>(yE ks).bind fun p=>(rZ r).map (p::·)
theorem qo:∀{kus:List (List Key×U)} {ps:List (List Int)},rZ kus=some ps->kus.map (·.1)=ps.map fun p=>p.map Sum.inl
 |[],ps,h=>by cases h;rfl
 |(ks,u)::us,ps,h=>by
  rw[rZ]at h
  obtain⟨p,e1,h⟩:=Q3.mp h
  obtain⟨qs,e2,h⟩:=Qm.mp h
  subst h
  rw[Qx,Qx,<-qo e2,qZ e1]
open Classical in
def cP:Fn
 |[.ref l],S=>match S[l]? with
  |some (.lst us)=>(rY us).bind fun ps=>if (∀p∈ps,p≠[])/\ps.Nodup/\ps.length<64 then some (.ref S.length,S++[.lst ((fN ps).map rwU)])else none
  |some (.dit kus)=>(rZ kus).bind fun ps=>if (∀p∈ps,p≠[])/\ps.Nodup/\ps.length<64 then some (.ref S.length,S++[.lst ((fN ps).map rwU)])else none
  |_=>none
 |_,_=>none
section
variable{K:Q5}{m:List Addr}{H:Hp}
theorem zp:∀{ys:List V} {ps:List (List Int)},IsL K m H ys (ps.map rwU)->RwL K H ys ps
 |ys,[],h=>by rw[h.of_nil];trivial
 |ys,p::ps,h=>by
  obtain⟨y,r,rfl,i,t⟩:=h.of_cons
  obtain⟨a,xs,rfl,hs,il⟩:=i.of_tup
  have e:xs=p.map V.int:=IsL.ints il
  subst e
  exact⟨⟨a,rfl,hs⟩,zp t⟩
theorem uj:∀{ys:List V} {ps:List (List Int)} {i:Nat},RwL K H ys ps->i<ps.length->Is K m H (ys.getD i .non) (rwU (ps.getD i []))
 |[],[],i,_,h=>by simp at h
 |y::ys,p::ps,0,k,_=>by
  obtain⟨a,e,hs⟩:=k.1
  show Is K m H y (rwU p)
  rw[e]
  exact .tup_ hs (fH p)
 |y::ys,p::ps,i+1,k,h=>by
  show Is K m H (ys.getD i .non) (rwU (ps.getD i []))
  exact uj k.2 (by simpa using h)
 |[],_::_,_,k,_=>k.elim
 |_::_,[],_,k,_=>k.elim
theorem uh{ys:List V}{ps:List (List Int)}(k:RwL K H ys ps):∀is:List Nat,(∀i∈is,i<ps.length)->IsL K m H (is.map fun i=>ys.getD i .non) (is.map fun i=>rwU (ps.getD i []))
 |[],_=>.nil_
 |i::is,h=>.cons_ (uj k (h i QK)) (uh k is fun j hj=>h j (QU _ hj))
theorem wF{as:List Addr}{ps:List (List Int)}(la:as.length=ps.length)(hH:∀(i:Nat) (a:Addr) (p:List Int),as[i]?=some a->ps[i]?=some p->H a=some (.tup (p.map V.int))):∀is:List Nat,(∀i∈is,i<ps.length)->IsL K m H (is.map fun i=>V.ref (as.getD i 0)) (is.map fun i=>rwU (ps.getD i []))
 |[],_=>.nil_
 |i::is,h=>by
  have hi:=h i QK
  have hi':i<as.length:=by rw[la];exact hi
  refine .cons_ ?_ (wF la hH is fun j hj=>h j (QU _ hj))
  have e1:as.getD i 0=as[i]:=by rw[QV,Q7 hi'];rfl
  have e2:ps.getD i []=ps[i]:=by rw[QV,Q7 hi];rfl
  show Is K m H (V.ref (as.getD i 0)) (rwU (ps.getD i []))
  rw[e1,e2]
  exact .tup_ (SqT.of (hH i _ _ (Q7 hi') (Q7 hi))) (fH _)
end
theorem k8{X:Cx}(hc:X.calm=true):cG X (.builtin "sorted") (fun xs H Q=>lZ X.K xs H Q\/lY xs H Q):=uZ.or (uY hc)
theorem nz{K:Q5}:iY K (fun xs H Q=>lZ K xs H Q\/lY xs H Q) cP:=by
 intro m S H us vs u S' Q sr i hf post
 match us,hf with
 |[.ref l],hf=>
  obtain⟨v,rfl,iv⟩:=i.one
  obtain⟨a,ha,rfl⟩:=iv.of_ref
  simp only[cP]at hf
  split at hf<;>try cases hf
  ·rename_i ws hS
   obtain⟨ps,hn,h⟩:=Q3.mp hf
   split at h<;>try cases h
   have hc:(∀p∈ps,p≠[])/\ps.Nodup/\ps.length<64:=by assumption
   obtain⟨a',ha',xs,hx,la⟩:=sr.get hS
   rw[ha]at ha';cases ha'
   rw[qm hn]at la
   have pr:=zp la
   refine .inl ⟨a,xs,ps,rfl,SqL.of hx,pr,hc.1,hc.2.1,hc.2.2,fun p q hp aq=>?_⟩
   have il:=uh (m:=m) pr q.toList (eZ aq.1)
   have e:(q.toList.map fun i=>rwU (ps.getD i []))=(fN ps).map rwU:=by rw[oE aq,Qc];rfl
   rw[e]at il
   exact bP sr il post hp
  ·rename_i ws hS
   obtain⟨ps,hn,h⟩:=Q3.mp hf
   split at h<;>try cases h
   have hc:(∀p∈ps,p≠[])/\ps.Nodup/\ps.length<64:=by assumption
   obtain⟨a',ha',kvs,hx,ip⟩:=sr.get hS
   rw[ha]at ha';cases ha'
   refine .inr ⟨a,kvs,ps,rfl,hx,ip.1.trans (qo hn),hc.1,hc.2.1,hc.2.2,fun as p q hp las hH aq=>?_⟩
   have il:=wF (m:=m) (K:=K) las hH q.toList (eZ aq.1)
   have e:(q.toList.map fun i=>rwU (ps.getD i []))=(fN ps).map rwU:=by rw[oE aq,Qc];rfl
   rw[e]at il
   exact bP sr il post hp
def qd(K:Q5):Sp:=fun vs H Q _=>∃(a:Addr) (ns:List Int),vs=[.ref a]/\KL K H a ns/\ns.length<=63/\∀H',Q (.bl true) H'
theorem Hr{K:Q5}{H:Hp}{a:Addr}{ns:List Int}(hO:Ga H)(h:SqL K H a (ns.map V.int)):KL K H a ns:=by
 rcases h with(h|h)|h
 ·rcases hO a with e|⟨o,xs,e⟩
  ·rw[e]at h;cases h
  ·rw[e]at h;cases h
 ·exact .inl h
 ·exact .inr h
theorem yz{K:Q5}{H:Hp}{a:Addr}{ns:List Int}{c:CS}{r:Rho}{σ:L2.St}{Q:VK}{nx bk ct:L2.St->Hp->Prop}(h:KL K H a ns)
  (ok:∃ρ' S',c (some (.kl ns)::r) []=some (.rt (.bl true),ρ',S')) (q:∀H',Q (.bl true) H')
  (hr:r=Zv r.length none:=by rfl) (hl:σ.length=r.length:=by rfl):tS K c { nx:=nx,rt:=Q,bk:=bk,ct:=ct } (some (.ref a)::σ) H:=by
 obtain⟨ρ',S',e⟩:=ok
 refine⟨[],_,_,_,ρ',S',⟨rfl,List.nodup_nil,fun l ad o e1 e2=>by simp at e1⟩,⟨by simp[hl],fun i u e1=>?_⟩,e,fun m' v H' _ _ iv=>by rw[iv.of_bl];exact q H'⟩
 cases i with
 |zero=>
  simp at e1
  subst e1
  exact⟨.ref a,rfl,.kl_ h⟩
 |succ i=>
  simp only[Qg]at e1
  rw[hr,ZP]at e1
  split at e1<;>cases e1
theorem Gv{ns:List Int}{i:Int}{S:Sto}:fIx (.kl ns) (.int i) S=(atI (ns.map U.int) i).bind fun u=>some (u,S):=rfl
theorem sZ{ns:List Int}{S:Sto}:eN [.kl ns] S=some (.int ns.length,S):=rfl
def Rs(xs:List Nat):Prop:=xs.Pairwise (· < ·)
theorem Rs.lt{xs:Array Nat}(h:Rs xs.toList){i k d:Nat}(hik:i<k)(hk:k<xs.size):xs.getD i d<xs.getD k d:=by
 have:=ZR.mp h i k (by simp;omega) (by simpa using hk) hik
 simpa [Zp,hk,show i<xs.size by omega] using this
theorem mG{xs:Array Nat}{j:Nat}(h:Rs xs.toList):∀(f lo hi:Nat),hi-lo<=f->lo<=hi->hi<=xs.size->(∀i,i<lo->xs.getD i j<j)->(∀i,hi<=i->i<xs.size->j<=xs.getD i j)->
  ∃p,SetTable.below.go xs j f lo hi=p/\p<=xs.size/\(∀i,i<p->xs.getD i j<j)/\∀i,p<=i->i<xs.size->j<=xs.getD i j
 |0,lo,hi,h1,h2,h3,h4,h5=>⟨lo,rfl,by omega,h4,fun i hi'=>h5 i (by omega)⟩
 |f+1,lo,hi,h1,h2,h3,h4,h5=>by
  unfold SetTable.below.go
  by_cases c:lo<hi
  ·rw[if_pos c]
   dsimp only
   by_cases d:xs.getD ((lo+hi) / 2) j<j
   ·rw[if_pos d]
    refine mG h f _ hi (by omega) (by omega) h3 (fun i hi'=>?_) h5
    by_cases e:i=(lo+hi) / 2
    ·rw[e];exact d
    ·exact Nat.lt_trans (h.lt (by omega) (by omega)) d
   ·rw[if_neg d]
    refine mG h f lo _ (by omega) (by omega) (by omega) h4 fun i hi' hs=>?_
    by_cases e:i=(lo+hi) / 2
    ·rw[e];omega
    ·have:=h.lt (xs:=xs) (d:=j) (show(lo+hi) / 2<i by omega) hs
     omega
  ·rw[if_neg c]
   exact⟨lo,rfl,by omega,h4,fun i hi'=>h5 i (by omega)⟩
theorem jj{xs:Array Nat}(h:Rs xs.toList)(j:Nat):∃p,SetTable.below xs j=p/\p<=xs.size/\(∀i,i<p->xs.getD i j<j)/\∀i,p<=i->i<xs.size->j<=xs.getD i j:=by
 unfold SetTable.below
 exact mG h _ 0 _ (by omega) (by omega) (by omega) (fun i hi=>by omega) fun i hi hs=>by omega
theorem wx{xs:Array Nat}(h:Rs xs.toList){j:Nat}:(xs[SetTable.below xs j]?=some j)↔j∈xs.toList:=by
 obtain⟨p,e,h1,h2,h3⟩:=jj h j
 rw[e]
 constructor
 ·intro g
  exact Qo (by rw[Qw];exact g)
 ·intro hm
  obtain⟨i,hi⟩:=ZQ hm
  have hs:i<xs.size:=by have:=(Q6.mp hi).1;simpa using this
  have gi:xs.getD i j=j:=by
   rw[Qw]at hi
   simp[Zp,hs]
   rw[QR hs]at hi
   injection hi
  have ip:p<=i:=Nat.le_of_not_lt fun z=>by have:=h2 i z;omega
  have:p=i:=by
   rcases ZD p i with c|c
   ·have:=h.lt (d:=j) c hs
    have:=h3 p (QJ _) (by omega)
    omega
   ·omega
  rw[this,<-Qw]
  exact hi
theorem ua{t:SetTable}(h:Rs t.place.toList)(hd:t.dummies=#[])(j:Nat):(j∉t.place.toList/\t.slot j=.empty)\/∃p,t.place[p]?=some j/\t.slot j=.live p:=by
 unfold SetTable.slot
 dsimp only
 by_cases c:t.place[SetTable.below t.place j]?=some j
 ·rw[if_pos (by rw[c];exact beq_self_eq_true _)]
  exact .inr ⟨_,c,rfl⟩
 ·refine .inl ⟨fun z=>c ((wx h).mpr z),?_⟩
  rw[if_neg (by simpa using c)]
  have:SetTable.has t.dummies j=false:=by rw[hd];rfl
  rw[this]
  rfl
theorem Ei{t:SetTable}(h:Rs t.place.toList)(hd:t.dummies=#[]){j:Nat}(hj:j∉t.place.toList):∃p,t.put j=({ t with place:=SetTable.insertAt t.place p j },p)/\p<=t.place.size/\Rs (SetTable.insertAt t.place p j).toList:=by
 obtain⟨p,e,h1,h2,h3⟩:=jj h j
 refine⟨p,?_,h1,?_⟩
 ·unfold SetTable.put
  have:SetTable.has t.dummies j=false:=by rw[hd];rfl
  dsimp only
  rw[e,this]
  rfl
 ·rw[SetTable.toList_insertAt]
  have lt:∀a∈t.place.toList.take p,a<j:=fun a ha=>by
   obtain⟨i,hi⟩:=ZQ ha
   obtain⟨hl,hg⟩:=Q6.mp hi
   rw[Zx]at hl
   have:=h2 i (by omega)
   rw[List.getElem_take]at hg
   have hs:i<t.place.size:=by omega
   simp[Zp,hs]at this
   rw[<-hg]
   simpa using this
  have gt:∀a∈t.place.toList.drop p,j<a:=fun a ha=>by
   have hm:=List.mem_of_mem_drop ha
   obtain⟨i,hi⟩:=ZQ ha
   obtain⟨hl,hg⟩:=Q6.mp hi
   rw[ZE]at hl
   have hs:p+i<t.place.size:=by simp at hl;omega
   have:=h3 (p+i) (by omega) hs
   rw[List.getElem_drop]at hg
   simp[Zp,hs]at this
   have e2:t.place[p+i]=a:=by rw[<-hg];simp
   rw[e2]at this
   rcases ZD j a with c|c
   ·exact c
   ·exact absurd hm (by rw[show a=j by omega];exact hj)
  refine List.pairwise_append.mpr ⟨List.Pairwise.sublist (List.take_sublist _ _) h,ZH.mpr ⟨gt,List.Pairwise.sublist (List.drop_sublist _ _) h⟩,fun a ha b hb=>?_⟩
  rcases QM.mp hb with rfl|hb
  ·exact lt a ha
  ·exact Nat.lt_trans (lt a ha) (gt b hb)
abbrev tb(m:Nat):SetTable:={ SetTable.fresh 0 0 true with mask:=m }
def adv(m:Nat):SetTable.Probe->SetTable.Probe:=SetTable.advance (tb m)
def pth(m:Nat)(h:Int):Nat->SetTable.Probe
 |0=>SetTable.probeStart (tb m) h
 |k+1=>adv m (pth m h k)
theorem nv(m:Nat)(h:Int):∀k,(pth m h k).dummy=none
 |0=>rfl
 |k+1=>by
  have:=nv m h k
  show(adv m (pth m h k)).dummy=none
  unfold adv SetTable.advance
  split
  ·exact this
  ·exact this
def Run(m:Nat)(p:SetTable.Probe)(i u:Nat):Prop:=p.j=i/\p.more=SetTable.runEnd m i-i/\p.i=i/\p.perturb=u
theorem uE(m:Nat)(h:Int):Run m (pth m h 0) (SetTable.bits h % (m+1)) (SetTable.bits h):=⟨rfl,rfl,rfl,rfl⟩
theorem ql{m:Nat}{h:Int}{k i u:Nat}(r:Run m (pth m h k) i u):∀d,d<=SetTable.runEnd m i-i->(pth m h (k+d)).j=i+d/\(pth m h (k+d)).more=SetTable.runEnd m i-i-d/\(pth m h (k+d)).i=i/\(pth m h (k+d)).perturb=u
 |0,_=>⟨r.1,r.2.1,r.2.2.1,r.2.2.2⟩
 |d+1,hd=>by
  obtain⟨h1,h2,h3,h4⟩:=ql r d (by omega)
  show(adv m (pth m h (k+d))).j=_/\(adv m (pth m h (k+d))).more=_/\(adv m (pth m h (k+d))).i=_/\(adv m (pth m h (k+d))).perturb=_
  unfold adv SetTable.advance
  rw[if_pos (by omega)]
  dsimp only
  exact⟨by omega,by omega,h3,h4⟩
theorem qk{m:Nat}{h:Int}{k i u:Nat}(r:Run m (pth m h k) i u):Run m (pth m h (k+(SetTable.runEnd m i-i)+1)) (SetTable.leap m i u).1 (SetTable.leap m i u).2:=by
 obtain⟨h1,h2,h3,h4⟩:=ql r _ (QJ _)
 show Run m (adv m (pth m h (k+(SetTable.runEnd m i-i)))) _ _
 unfold adv SetTable.advance
 rw[if_neg (by omega),h3,h4]
 exact⟨rfl,rfl,rfl,rfl⟩
def lps(m:Nat):Nat->Nat×Nat->Nat×Nat
 |0,x=>x
 |k+1,x=>lps m k (SetTable.leap m x.1 x.2)
theorem um(m i:Nat):SetTable.runEnd m i-i<=9:=by unfold SetTable.runEnd;split<;>omega
theorem uk{m:Nat}{h:Int}:∀(t k:Nat) (x:Nat×Nat),Run m (pth m h k) x.1 x.2->∃k',k<=k'/\k'<=k+10*t/\Run m (pth m h k') (lps m t x).1 (lps m t x).2
 |0,k,x,r=>⟨k,by omega,by omega,r⟩
 |t+1,k,x,r=>by
  have:=um m x.1
  obtain⟨k',h1,h2,h3⟩:=uk t _ (SetTable.leap m x.1 x.2) (qk r)
  exact⟨k',by omega,by omega,h3⟩
theorem vi(m:Nat):∀(a b:Nat) (x:Nat×Nat),lps m (a+b) x=lps m b (lps m a x)
 |0,b,x=>by rw[Nat.zero_add];rfl
 |a+1,b,x=>by rw[Nat.succ_add];exact vi m a b _
theorem wq(h:Int):SetTable.bits h<2^64:=by unfold SetTable.bits;omega
theorem vn{m i u:Nat}:(SetTable.leap m i u).1<m+1:=Nat.mod_lt _ (by omega)
theorem zF{m:Nat}:∀(t:Nat) (x:Nat×Nat),x.1<m+1->(lps m t x).1<m+1
 |0,x,h=>h
 |t+1,x,h=>zF t _ vn
theorem EW{m:Nat}:∀(t:Nat) (x:Nat×Nat) (b:Nat),x.2<2^(5*t+b)->(lps m t x).2<2^b
 |0,x,b,h=>by rw[Nat.mul_zero,Nat.zero_add]at h;exact h
 |t+1,x,b,h=>EW t _ b (by
  show x.2 / 32<_
  rw[show 5*(t+1)+b=5*t+b+5 by omega,Nat.pow_add]at h
  exact Nat.div_lt_of_lt_mul (by rw[Nat.mul_comm];exact h))
def orb(m:Nat):Nat->Nat->Nat
 |0,i=>i
 |k+1,i=>orb m k ((5*i+1) % (m+1))
def GO(m:Nat):Nat->Nat->Nat->Nat
 |0,_,a=>a
 |k+1,i,a=>GO m k ((5*i+1) % (m+1)) (a ||| (1 <<< i))
theorem uf{m:Nat}:∀(k i a e:Nat),(GO m k i a).testBit e=true->a.testBit e=true\/∃t,t<k/\orb m t i=e
 |0,i,a,e,h=>.inl h
 |k+1,i,a,e,h=>by
  rcases uf k _ _ e h with h1|⟨t,h1,h2⟩
  ·rw[Nat.testBit_or,Bool.or_eq_true]at h1
   rcases h1 with h1|h1
   ·exact .inl h1
   ·refine .inr ⟨0,by omega,?_⟩
    rw[Nat.one_shiftLeft,Nat.testBit_two_pow]at h1
    exact of_decide_eq_true h1
  ·exact .inr ⟨t+1,by omega,h2⟩
structure oF(m:Nat):Prop where
 all:GO m (m+1) 0 0=2^(m+1)-1
 back:orb m (m+1) 0=0
theorem mn{m:Nat}:∀(a b i:Nat),orb m (a+b) i=orb m b (orb m a i)
 |0,b,i=>by rw[Nat.zero_add];rfl
 |a+1,b,i=>by rw[Nat.succ_add];exact mn a b _
theorem oF.at_{m:Nat}(F:oF m){e:Nat}(h:e<m+1):∃t,t<m+1/\orb m t 0=e:=by
 rcases uf (m:=m) (m+1) 0 0 e (by rw[F.all,Nat.testBit_two_pow_sub_one];exact decide_eq_true h)with h1|h1
 ·simp at h1
 ·exact h1
theorem oF.go{m:Nat}(F:oF m){i e:Nat}(hi:i<m+1)(he:e<m+1):∃t,t<m+1/\orb m t i=e:=by
 obtain⟨a,ha,ea⟩:=F.at_ hi
 obtain⟨b,hb,eb⟩:=F.at_ he
 rcases ZD b a with c|c
 ·refine⟨m+1-a+b,by omega,?_⟩
  rw[<-ea,<-mn,show a+(m+1-a+b)=m+1+b by omega,mn,F.back]
  exact eb
 ·refine⟨b-a,by omega,?_⟩
  rw[<-ea,<-mn,show a+(b-a)=b by omega]
  exact eb
theorem vg{m:Nat}:∀(t:Nat) (i:Nat),lps m t (i,0)=(orb m t i,0)
 |0,i=>rfl
 |t+1,i=>by
  show lps m t (SetTable.leap m i 0)=_
  have:SetTable.leap m i 0=((5*i+1) % (m+1),0):=by unfold SetTable.leap;simp[Nat.mul_comm]
  rw[this]
  exact vg t _
theorem FI{m:Nat}(F:oF m){i u e:Nat}(hi:i<m+1)(hu:u<2^64)(he:e<m+1):∃t,t<m+14/\(lps m t (i,u)).1=e:=by
 have h0:(lps m 13 (i,u)).2=0:=by
  have:=EW (m:=m) 13 (i,u) 0 (Qq hu (by decide))
  omega
 obtain⟨t,ht,e2⟩:=F.go (zF 13 (i,u) hi) he
 refine⟨13+t,by omega,?_⟩
 rw[vi,show lps m 13 (i,u)=((lps m 13 (i,u)).1,0)from Prod.ext rfl h0,vg]
 exact e2
theorem Fq:oF 7:=⟨by decide +kernel,by decide +kernel⟩
theorem Fs:oF 31:=⟨by decide +kernel,by decide +kernel⟩
theorem Cw:oF 127:=⟨by decide +kernel,by decide +kernel⟩
theorem Cv:oF 511:=⟨by decide +kernel,by decide +kernel⟩
theorem yL:oF 2047:=⟨by decide +kernel,by decide +kernel⟩
def Rch(m:Nat)(P:Nat->Prop)(h:Int)(j:Nat):Prop:=∃k,(pth m h k).j=j/\∀k',k'<k->P (pth m h k').j
theorem Rch.mono{m:Nat}{P P':Nat->Prop}{h:Int}{j:Nat}(r:Rch m P h j)(s:∀x,P x->P' x):Rch m P' h j:=let ⟨k,a,b⟩:=r;⟨k,a,fun k' h=>s _ (b k' h)⟩
theorem Hq{P:Nat->Prop}:∀{k:Nat},P k->∃N,N<=k/\P N/\∀i,i<N->¬P i:=fun{k}=>by
 induction k using Nat.strongRecOn with
 |ind k ih=>
  intro h
  by_cases c:∃i,i<k/\P i
  ·obtain⟨i,hi,pi⟩:=c
   obtain⟨N,h1,h2,h3⟩:=ih i hi pi
   exact⟨N,by omega,h2,h3⟩
  ·exact⟨k,QJ _,h,fun i hi pi=>c ⟨i,hi,pi⟩⟩
theorem sC{m:Nat}(F:oF m)(h:Int){P:Nat->Prop}{e:Nat}(he:e<m+1)(hp:¬P e):∃N,N<10*(m+15)/\¬P (pth m h N).j/\∀k,k<N->P (pth m h k).j:=by
 obtain⟨t,ht,e1⟩:=FI F (i:=SetTable.bits h % (m+1)) (u:=SetTable.bits h) (Nat.mod_lt _ (by omega)) (wq h) he
 obtain⟨k,_,hk,r⟩:=uk t 0 (SetTable.bits h % (m+1),SetTable.bits h) (uE m h)
 rw[e1]at r
 obtain⟨N,h1,h2,h3⟩:=Hq (P:=fun k=>¬P (pth m h k).j) (k:=k) (by rw[r.1];exact hp)
 exact⟨N,by omega,h2,fun k hk=>Classical.not_not.mp (h3 k hk)⟩
theorem gap{m:Nat}{pl:List Nat}(nd:pl.Nodup)(hl:pl.length<=m):∃e,e<m+1/\e∉pl:=by
 by_cases c:∃e,e<m+1/\e∉pl
 ·exact c
 ·have:=List.Nodup.length_le_of_subset (List.nodup_range (n:=m+1)) (l₂:=pl) fun b hb=>Classical.not_not.mp fun z=>c ⟨b,Qu.mp hb,z⟩
  rw[Za]at this
  omega
theorem Rs.nd{xs:List Nat}(h:Rs xs):xs.Nodup:=h.imp fun h=>QC h
theorem Rs.at1{xs:Array Nat}(h:Rs xs.toList){i i' j:Nat}(h1:xs[i]?=some j)(h2:xs[i']?=some j):i=i':=by
 rw[<-Qw]at h1 h2
 obtain⟨l1,e1⟩:=Q6.mp h1
 obtain⟨l2,e2⟩:=Q6.mp h2
 exact(List.getElem_inj h.nd).mp (e1.trans e2.symm)
theorem qw{t:SetTable}{h:Int}(hs:Rs t.place.toList)(hd:t.dummies=#[]){ha:Nat->Int}{N:Nat}(hN:(pth t.mask h N).j∉t.place.toList):∀(f k:Nat),k<=N->N-k<f->(∀k',k<=k'->k'<N->(pth t.mask h k').j∈t.place.toList)->
  (∃k1 i,k<=k1/\k1<N/\(∀k',k<=k'->k'<k1->∀i,t.place[i]?=some (pth t.mask h k').j->ha i≠h)/\t.place[i]?=some (pth t.mask h k1).j/\ha i=h/\SetTable.probe.go t ha h f (pth t.mask h k)=some (.candidate (pth t.mask h k1).j i (pth t.mask h (k1+1))))\/
  ((∀k',k<=k'->k'<N->∀i,t.place[i]?=some (pth t.mask h k').j->ha i≠h)/\SetTable.probe.go t ha h f (pth t.mask h k)=some (.empty (pth t.mask h N).j none))
 |0,k,_,hf,_=>by omega
 |f+1,k,hk,hf,hl=>by
  unfold SetTable.probe.go
  rcases ua hs hd (pth t.mask h k).j with⟨h1,h2⟩|⟨p,h1,h2⟩
  ·have:k=N:=by
    rcases ZD k N with c|c
    ·exact absurd (hl k (QJ _) c) h1
    ·omega
   subst this
   rw[h2]
   refine .inr ⟨fun k' a b=>by omega,?_⟩
   dsimp only
   rw[nv]
  ·have ne:k≠N:=fun e=>hN (by rw[<-e];exact Qo (by rw[Qw];exact h1))
   rw[h2]
   dsimp only
   by_cases c:ha p=h
   ·rw[if_pos (by rw[c];exact beq_self_eq_true _)]
    exact .inl ⟨k,p,QJ _,by omega,fun k' a b=>by omega,h1,c,rfl⟩
   ·rw[if_neg (by simpa using c)]
    have no:∀i,t.place[i]?=some (pth t.mask h k).j->ha i≠h:=fun i hi=>by rw[hs.at1 hi h1];exact c
    have nx:t.advance (pth t.mask h k)=pth t.mask h (k+1):=rfl
    rw[nx]
    rcases qw hs hd hN (ha:=ha) f (k+1) (by omega) (by omega) fun k' a b=>hl k' (by omega) b with⟨k1,i,a1,a2,a3,a4⟩|⟨a1,a2⟩
    ·refine .inl ⟨k1,i,by omega,a2,fun k' b1 b2=>?_,a4⟩
     rcases ZD k k' with c1|c1
     ·exact a3 k' (by omega) b2
     ·rw[show k'=k by omega];exact no
    ·refine .inr ⟨fun k' b1 b2=>?_,a2⟩
     rcases ZD k k' with c1|c1
     ·exact a1 k' (by omega) b2
     ·rw[show k'=k by omega];exact no
structure Tab(t:SetTable)(es:List (Int×Value)):Prop where
 dm:t.dummies=#[]
 rs:Rs t.place.toList
 fl:oF t.mask
 sz:t.place.size=es.length
 rc:∀(i j:Nat) (e:Int×Value),t.place[i]?=some j->es[i]?=some e->Rch t.mask (·∈t.place.toList) e.1 j
theorem Tab.put{t:SetTable}{es:Array (Int×Value)}(T:Tab t es.toList){h:Int}{x:Value}{N:Nat}(h1:(pth t.mask h N).j∉t.place.toList)(h2:∀k,k<N->(pth t.mask h k).j∈t.place.toList) :
  ∃p,t.put (pth t.mask h N).j=({ t with place:=SetTable.insertAt t.place p (pth t.mask h N).j },p)/\(SetTable.insertAt es p (h,x)).toList.Perm (es.toList++[(h,x)])/\Tab { t with place:=SetTable.insertAt t.place p (pth t.mask h N).j } (SetTable.insertAt es p (h,x)).toList:=by
 obtain⟨p,e,hp,rs⟩:=Ei T.rs T.dm h1
 have sz:=T.sz
 have hl:(SetTable.insertAt t.place p (pth t.mask h N).j).toList=t.place.toList.take p++(pth t.mask h N).j::t.place.toList.drop p:=SetTable.toList_insertAt ..
 have hl2:(SetTable.insertAt es p (h,x)).toList=es.toList.take p++(h,x)::es.toList.drop p:=SetTable.toList_insertAt ..
 have sub:∀y,y∈t.place.toList->y∈(SetTable.insertAt t.place p (pth t.mask h N).j).toList:=fun y hy=>by
  rw[hl,<-List.take_append_drop p t.place.toList]at *
  rcases Qt.mp hy with z|z
  ·exact List.mem_append_left _ (by simpa using z)
  ·exact Qr _ (QU _ (by simpa using z))
 refine⟨p,e,(SetTable.insertAt_perm es p (h,x)).trans (by rw[Array.toList_push]),T.dm,rs,T.fl,?_,fun i j e' gi ge=>?_⟩
 ·rw[hl2]
  show(SetTable.insertAt t.place p (pth t.mask h N).j).size=_
  have sz':t.place.size=es.size:=by simpa using sz
  rw[<-QH,hl]
  simp only[QQ,QB,Zx,ZE,QH,sz']
 ·change (SetTable.insertAt t.place p (pth t.mask h N).j)[i]?=some j at gi
  show Rch t.mask (·∈(SetTable.insertAt t.place p (pth t.mask h N).j).toList) e'.1 j
  rw[<-Qw,hl]at gi
  rw[hl2]at ge
  have lt1:(t.place.toList.take p).length=p:=by rw[Zx,QH];omega
  have lt2:(es.toList.take p).length=p:=by rw[Zx,<-sz];omega
  rcases Nat.lt_trichotomy i p with c|c|c
  ·rw[QN (by omega),List.getElem?_take_of_lt c]at gi ge
   exact(T.rc i j e' (by rw[<-Qw];exact gi) ge).mono sub
  ·subst c
   rw[Qz (by omega),lt1,Nat.sub_self,Z2]at gi
   rw[Qz (by omega),lt2,Nat.sub_self,Z2]at ge
   cases gi
   cases ge
   exact⟨N,rfl,fun k hk=>sub _ (h2 k hk)⟩
  ·obtain⟨d,rfl⟩:∃d,i=p+(d+1):=⟨i-p-1,by omega⟩
   rw[Qz (by omega),lt1,show p+(d+1)-p=d+1 by omega,Qg,List.getElem?_drop]at gi
   rw[Qz (by omega),lt2,show p+(d+1)-p=d+1 by omega,Qg,List.getElem?_drop]at ge
   exact(T.rc (p+d) j e' (by rw[<-Qw];exact gi) ge).mono sub
abbrev Own(ow:Array (Option Nat))(j:Nat):Prop:=∃i,ow[j]?=some (some i)
structure sP(m:Nat)(hs:List Int)(ow:Array (Option Nat)):Prop where
 sz:ow.size=m+1
 ix:∀j i:Nat,ow[j]?=some (some i)->i<hs.length/\Rch m (Own ow) (hs.getD i 0) j
 al:∀i:Nat,i<hs.length->∃j:Nat,ow[j]?=some (some i)
 inj:∀j j' i:Nat,ow[j]?=some (some i)->ow[j']?=some (some i)->j=j'
theorem vO{m:Nat}{h:Int}{ow:Array (Option Nat)}(hz:ow.size=m+1):∀(f t k i u:Nat),Run m (pth m h k) i u->i<m+1->t<f->¬Own ow (lps m t (i,u)).1->(lps m t (i,u)).1<m+1->
  ∃N,k<=N/\SetTable.layClean.free m ow f i u=some (pth m h N).j/\ow[(pth m h N).j]?=some none/\∀k',k<=k'->k'<N->Own ow (pth m h k').j
 |0,t,k,i,u,_,_,ht,_,_=>by omega
 |f+1,t,k,i,u,r,hi,ht,hf,hl=>by
  unfold SetTable.layClean.free
  have re:SetTable.runEnd m i<=m/\i<=SetTable.runEnd m i:=by unfold SetTable.runEnd;split<;>omega
  have val:∀d,d<SetTable.runEnd m i+1-i->((ow.getD (i+d) (some 0)).isNone=true↔ow[i+d]?=some none)/\((ow.getD (i+d) (some 0)).isNone=false↔Own ow (i+d)):=fun d hd=>by
   have hlt:i+d<ow.size:=by omega
   have e:ow.getD (i+d) (some 0)=ow[i+d]:=by simp[Zp,hlt]
   rw[e,QR hlt]
   unfold Own
   rw[QR hlt]
   cases ow[i+d]<;>simp
  cases hq:(Qj (SetTable.runEnd m i+1-i)).find? fun k=>(ow.getD (i+k) (some 0)).isNone with
  |some d=>
   rw[List.find?_range_eq_some]at hq
   obtain⟨q1,q2,q3⟩:=hq
   have q2:=Qu.mp q2
   have rin:=fun d' (h':d'<=d)=>(ql r d' (by omega)).1
   refine⟨k+d,by omega,by dsimp only;rw[rin d (QJ _)],by rw[rin d (QJ _)];exact(val d q2).1.mp q1,fun k' a b=>?_⟩
   obtain⟨d',rfl⟩:∃d',k'=k+d':=⟨k'-k,by omega⟩
   rw[rin d' (by omega)]
   exact(val d' (by omega)).2.mp (by simpa using q3 d' (by omega))
  |none=>
   have all:∀d,d<SetTable.runEnd m i+1-i->Own ow (i+d):=fun d hd=>(val d hd).2.mp (Bool.eq_false_iff.mpr (List.find?_eq_none.mp hq d (Qu.mpr hd)))
   cases t with
   |zero=>exact absurd (all 0 (by omega)) hf
   |succ t=>
    obtain⟨N,n1,n2,n3,n4⟩:=vO hz f t _ _ _ (qk r) vn (by omega) hf hl
    refine⟨N,by omega,n2,n3,fun k' a b=>?_⟩
    rcases ZD k' (k+(SetTable.runEnd m i-i)+1)with c|c
    ·obtain⟨d',rfl⟩:∃d',k'=k+d':=⟨k'-k,by omega⟩
     rw[(ql r d' (by omega)).1]
     exact all d' (by omega)
    ·exact n4 k' c b
theorem sP.gap{m:Nat}{hs:List Int}{ow:Array (Option Nat)}(L:sP m hs ow)(hl:hs.length<=m):∃e,e<m+1/\¬Own ow e:=by
 by_cases c:∃e,e<m+1/\¬Own ow e
 ·exact c
 ·have own:∀e,e<m+1->Own ow e:=fun e he=>Classical.not_not.mp fun z=>c ⟨e,he,z⟩
  have hf:∀e,∃i,e<m+1->ow[e]?=some (some i):=fun e=>by
   by_cases he:e<m+1
   ·obtain⟨i,hi⟩:=own e he
    exact⟨i,fun _=>hi⟩
   ·exact⟨0,fun z=>absurd z he⟩
  have hg:=fun e=>(hf e).choose_spec
  have nd:((Qj (m+1)).map fun e=>(hf e).choose).Nodup:=by
   refine ZC.mpr (List.Pairwise.imp_of_mem (fun{a b} ha hb hne e=>hne ?_) List.nodup_range)
   have ga:=hg a (Qu.mp ha)
   have gb:=hg b (Qu.mp hb)
   rw[e]at ga
   exact L.inj _ _ _ ga gb
  have:=List.Nodup.length_le_of_subset nd (l₂:=Qj hs.length) fun i hi=>by
   obtain⟨e,he,rfl⟩:=Qa.mp hi
   exact Qu.mpr (L.ix e _ (hg e (Qu.mp he))).1
  rw[QZ,Za,Za]at this
  omega
theorem iJ{ow:Array (Option Nat)}{j k x:Nat}(h:ow[j]?=some none)(i:Nat):(ow.setIfInBounds j (some k))[x]?=some (some i)↔(x=j/\i=k)\/ow[x]?=some (some i):=by
 have hj:j<ow.size:=(Zk.mp h).1
 rw[Array.getElem?_setIfInBounds]
 by_cases c:j=x
 ·subst c
  rw[if_pos rfl,if_pos hj,h]
  constructor
  ·intro e
   injection e with e
   injection e with e
   exact .inl ⟨rfl,e.symm⟩
  ·rintro(⟨_,rfl⟩|e)
   ·rfl
   ·injection e with e;cases e
 ·rw[if_neg c]
  constructor
  ·exact .inr
  ·rintro(⟨e,_⟩|e)
   ·exact absurd e.symm c
   ·exact e
theorem sP.add{m:Nat}{hs:List Int}{ow:Array (Option Nat)}(F:oF m)(L:sP m hs ow)(hl:hs.length<=m)(h:Int) :
  ∃j,SetTable.layClean.free m ow (SetTable.turns m) (SetTable.bits h % (m+1)) (SetTable.bits h)=some j/\sP m (hs++[h]) (ow.setIfInBounds j (some hs.length)):=by
 obtain⟨e,he,ho⟩:=L.gap hl
 obtain⟨t,ht,e1⟩:=FI F (i:=SetTable.bits h % (m+1)) (u:=SetTable.bits h) (Nat.mod_lt _ (by omega)) (wq h) he
 obtain⟨N,_,n1,n2,n3⟩:=vO (h:=h) L.sz (SetTable.turns m) t 0 _ _ (uE m h) (Nat.mod_lt _ (by omega)) (by unfold SetTable.turns;omega) (by rw[e1];exact ho) (by rw[e1];exact he)
 refine⟨_,n1,?_⟩
 have up:∀x,Own ow x->Own (ow.setIfInBounds (pth m h N).j (some hs.length)) x:=fun x ⟨i,hi⟩=>⟨i,(iJ n2 i).mpr (.inr hi)⟩
 refine⟨by rw[Array.size_setIfInBounds];exact L.sz,fun j i g=>?_,fun i hi=>?_,fun j j' i g g'=>?_⟩
 ·rw[QQ,Z0]
  rcases(iJ n2 i).mp g with⟨rfl,rfl⟩|g
  ·refine⟨by omega,N,?_,?_⟩
   ·rw[QV,Qz (QJ _),Nat.sub_self];rfl
   ·rw[QV,Qz (QJ _),Nat.sub_self]
    exact fun k hk=>up _ (n3 k (Qs _) hk)
  ·obtain⟨a,b⟩:=L.ix j i g
   refine⟨by omega,?_⟩
   rw[QV,QN a,<-QV]
   exact b.mono up
 ·rw[QQ,Z0]at hi
  by_cases c:i=hs.length
  ·exact⟨_,(iJ n2 i).mpr (.inl ⟨rfl,c⟩)⟩
  ·obtain⟨j,hj⟩:=L.al i (by omega)
   exact⟨j,(iJ n2 i).mpr (.inr hj)⟩
 ·rcases(iJ n2 i).mp g with⟨e1,e2⟩|g<;>rcases(iJ n2 i).mp g' with⟨e3,e4⟩|g'
  ·rw[e1,e3]
  ·exact absurd (L.ix _ _ g').1 (by omega)
  ·exact absurd (L.ix _ _ g).1 (by omega)
  ·exact L.inj _ _ _ g g'
theorem sP.nil(m:Nat):sP m [] (Array.replicate (m+1) none):=by
 have no:∀j i:Nat,(Array.replicate (m+1) (none:Option Nat))[j]?≠some (some i):=fun j i=>by
  rw[Array.getElem?_replicate]
  split
  ·exact fun e=>by injection e with e;cases e
  ·exact fun e=>by cases e
 exact⟨by simp,fun j i g=>absurd g (no j i),fun i hi=>by simp at hi,fun j j' i g=>absurd g (no j i)⟩
theorem qQ{m:Nat}(F:oF m):∀(hs done:List Int) (ow:Array (Option Nat)),sP m done ow->done.length+hs.length<=m->
  ∃ow',hs.foldl (fun acc h=>do
   let (owner,k) <-acc
   let j <-SetTable.layClean.free m owner (SetTable.turns m) (SetTable.bits h % (m+1)) (SetTable.bits h)
   pure (owner.setIfInBounds j (some k),k+1)) (some (ow,done.length))=some (ow',done.length+hs.length)/\sP m (done++hs) ow'
 |[],done,ow,L,_=>⟨ow,rfl,by rw[QL];exact L⟩
 |h::hs,done,ow,L,hl=>by
  rw[QB]at hl
  obtain⟨j,e,L'⟩:=L.add F (by omega) h
  obtain⟨ow',e',L''⟩:=qQ F hs (done++[h]) _ L' (by rw[QQ,Z0];omega)
  refine⟨ow',?_,by rw[Q9]at L'';exact L''⟩
  rw[List.foldl_cons]
  have:(do
   let (owner,k) <-some (ow,done.length)
   let j <-SetTable.layClean.free m owner (SetTable.turns m) (SetTable.bits h % (m+1)) (SetTable.bits h)
   pure (owner.setIfInBounds j (some k),k+1):Option (Array (Option Nat)×Nat))=some (ow.setIfInBounds j (some done.length),(done++[h]).length):=by
   rw[QQ,Z0]
   show(SetTable.layClean.free m ow (SetTable.turns m) (SetTable.bits h % (m+1)) (SetTable.bits h)).bind _=_
   rw[e]
   rfl
  rw[this,e',QQ,Z0,QB]
  congr 2
  omega
theorem yY{m:Nat}(F:oF m){hs:Array Int}(hl:hs.size<=m):∃ow,SetTable.layClean m hs=some ow/\sP m hs.toList ow:=by
 obtain⟨ow,e,L⟩:=qQ F hs.toList [] _ (sP.nil m) (by simpa using hl)
 refine⟨ow,?_,L⟩
 unfold SetTable.layClean
 rw[<-Array.foldl_toList]
 rw[List.length_nil]at e
 rw[e]
 rfl
def fY(m:Nat)(ow:Array (Option Nat)):List (Nat×Nat):=(Qj (m+1)).filterMap fun j=>(ow.getD j none).map (j,·)
theorem fG{m:Nat}{ow:Array (Option Nat)}{j:Nat}{q:Nat×Nat}:(ow.getD j none).map (j,·)=some q↔q.1=j/\ow[j]?=some (some q.2):=by
 have e:ow.getD j none=(ow[j]?).getD none:=by rw[ZX]
 rw[e]
 obtain⟨a,b⟩:=q
 cases h:ow[j]? with
 |none=>simp
 |some x=>
  cases x with
  |none=>simp
  |some y=>
   simp only[Qi,Option.map_some,Option.some.injEq,Prod.mk.injEq]
   exact⟨fun⟨h1,h2⟩=>⟨h1.symm,h2⟩,fun⟨h1,h2⟩=>⟨h1.symm,h2⟩⟩
theorem gW{m:Nat}{ow:Array (Option Nat)}{q:Nat×Nat}(hz:ow.size=m+1):q∈fY m ow↔ow[q.1]?=some (some q.2):=by
 unfold fY
 rw[List.mem_filterMap]
 constructor
 ·rintro⟨j,hj,e⟩
  obtain⟨rfl,e2⟩:=(fG (m:=m)).mp e
  exact e2
 ·intro h
  refine⟨q.1,Qu.mpr ?_,(fG (m:=m)).mpr ⟨rfl,h⟩⟩
  have:=(Zk.mp h).1
  omega
theorem yv{m:Nat}{ow:Array (Option Nat)}:Rs ((fY m ow).map (·.1)):=by
 unfold fY Rs
 refine ZC.mpr (List.pairwise_filterMap.mpr (List.Pairwise.imp (fun{a b} hab q hq q' hq'=>?_) List.pairwise_lt_range))
 rw[((fG (m:=m)).mp hq).1,((fG (m:=m)).mp hq').1]
 exact hab
theorem sv{m:Nat}{hs:List Int}{ow:Array (Option Nat)}(L:sP m hs ow):((fY m ow).map (·.2)).Perm (Qj hs.length):=by
 have nd:((fY m ow).map (·.2)).Nodup:=by
  unfold fY
  refine ZC.mpr (List.pairwise_filterMap.mpr (List.Pairwise.imp (fun{a b} hab q hq q' hq' e=>?_) List.pairwise_lt_range))
  obtain⟨e1,g1⟩:=(fG (m:=m)).mp hq
  obtain⟨e2,g2⟩:=(fG (m:=m)).mp hq'
  rw[e]at g1
  have:=L.inj _ _ _ g1 g2
  omega
 refine(List.perm_ext_iff_of_nodup nd List.nodup_range).mpr fun i=>?_
 rw[Qa,Qu]
 constructor
 ·rintro⟨q,hq,rfl⟩
  exact(L.ix _ _ ((gW L.sz).mp hq)).1
 ·intro h
  obtain⟨j,hj⟩:=L.al i h
  exact⟨(j,i),(gW L.sz).mpr hj,rfl⟩
theorem yP{α:Type}(es:List α):(Qj es.length).filterMap (fun i=>es[i]?)=es:=by
 refine ZT fun i=>?_
 have:∀(n:Nat),n<=es.length->(Qj n).filterMap (fun i=>es[i]?)=es.take n:=fun n=>by
  induction n with
  |zero=>intro _;simp
  |succ n ih=>
   intro h
   rw[List.range_succ,List.filterMap_append,ih (by omega),List.take_succ,List.filterMap_cons,Q7 (by omega)]
   simp
 rw[this _ (QJ _),List.take_length]
theorem zQ{α:Type}{es:List α}:∀{is:List Nat},(∀i∈is,i<es.length)->∀k:Nat,(is.filterMap fun i=>es[i]?)[k]?=(is[k]?).bind fun i=>es[i]?
 |[],_,k=>by simp
 |i::is,h,k=>by
  rw[List.filterMap_cons,Q7 (h i QK)]
  dsimp only
  cases k with
  |zero=>simp[Q7 (h i QK)]
  |succ k=>
   rw[Qg,Qg]
   exact zQ (fun j hj=>h j (QU _ hj)) k
theorem Tab.relay{t:SetTable}{es:Array (Int×Value)}{m wanted:Nat}(hm:SetTable.sizeAbove wanted-1=m)(F:oF m)(hl:es.size<=m) :
  ∃t' order,t.relaid (es.map (·.1)) wanted=some (t',order)/\t'.mask=m/\t'.led=t.led/\t'.plain=t.plain/\(order.filterMap (es[·]?)).toList.Perm es.toList/\Tab t' (order.filterMap (es[·]?)).toList:=by
 obtain⟨ow,e,L⟩:=yY F (hs:=es.map (·.1)) (by rw[Array.size_map];exact hl)
 have lh:((es.map (·.1)).toList).length=es.toList.length:=by simp
 have P:=sv L
 rw[lh]at P
 have ol:((((fY m ow).map (·.2)).toArray).filterMap (es[·]?)).toList=((fY m ow).map (·.2)).filterMap fun i=>es.toList[i]?:=by
  rw[Array.toList_filterMap]
  congr 1
  funext i
  rw[Qw]
 have hP:((((fY m ow).map (·.2)).toArray).filterMap (es[·]?)).toList.Perm es.toList:=by
  rw[ol]
  have:=P.filterMap fun i=>es.toList[i]?
  rw[yP]at this
  exact this
 refine⟨{ mask:=m,place:=((fY m ow).map (·.1)).toArray,dummies:=#[],finger:=t.finger,led:=t.led,moves:=t.movedTo m,plain:=t.plain },((fY m ow).map (·.2)).toArray,?_,rfl,rfl,rfl,hP,rfl,yv,F,?_,fun i j e' gi ge=>?_⟩
 ·unfold SetTable.relaid SetTable.laid
  rw[hm,e]
  rfl
 ·rw[hP.length_eq]
  show(((fY m ow).map (·.1)).toArray).size=_
  rw[QD,QZ]
  have:=P.length_eq
  rw[QZ,Za]at this
  exact this
 ·change (((fY m ow).map (·.1)).toArray)[i]?=some j at gi
  show Rch m (·∈((fY m ow).map (·.1))) e'.1 j
  rw[List.getElem?_toArray,Qv]at gi
  obtain⟨q,hq,rfl⟩:=Qm.mp gi
  rw[ol,zQ (fun k hk=>Qu.mp (P.mem_iff.mp hk)),Qv,hq]at ge
  have ge:es.toList[q.2]?=some e':=ge
  have own:=(gW L.sz).mp (Qo hq)
  obtain⟨_,r⟩:=L.ix _ _ own
  have eh:((es.map (·.1)).toList).getD q.2 0=e'.1:=by
   rw[QV,Array.toList_map,Qv,ge]
   rfl
  rw[eh]at r
  exact r.mono fun x ⟨y,hy⟩=>Qa.mpr ⟨(x,y),(gW L.sz).mpr hy,rfl⟩
def Lv(m n:Nat):Prop:=(m=7/\n<5)\/(m=31/\n<19)\/(m=127/\n<77)\/(m=511/\n<307)\/(m=2047/\n<1229)
theorem Lv.full{m n:Nat}(h:Lv m n):oF m:=by
 rcases h with⟨rfl,_⟩|⟨rfl,_⟩|⟨rfl,_⟩|⟨rfl,_⟩|⟨rfl,_⟩
 ·exact Fq
 ·exact Fs
 ·exact Cw
 ·exact Cv
 ·exact yL
theorem Lv.odd{m n:Nat}(h:Lv m n):(m % 2 == 0)=false:=by
 rcases h with⟨rfl,_⟩|⟨rfl,_⟩|⟨rfl,_⟩|⟨rfl,_⟩|⟨rfl,_⟩<;>rfl
theorem Lv.le{m n:Nat}(h:Lv m n):n+1<=m/\m<=2047:=by unfold Lv at h;omega
theorem Lv.next{m n:Nat}(h:Lv m n)(hn:n<1228):(¬(n+1)*5≥m*3/\Lv m (n+1))\/((n+1)*5≥m*3/\∃m',SetTable.sizeAbove (SetTable.grown (n+1))-1=m'/\Lv m' (n+1)/\SetTable.sizeAbove (SetTable.grown (n+1))<=2048):=by
 have s20:SetTable.sizeAbove (SetTable.grown 5)=32:=by decide +kernel
 have s76:SetTable.sizeAbove (SetTable.grown 19)=128:=by decide +kernel
 have s308:SetTable.sizeAbove (SetTable.grown 77)=512:=by decide +kernel
 have s1228:SetTable.sizeAbove (SetTable.grown 307)=2048:=by decide +kernel
 unfold Lv at h ⊢
 by_cases c:(n+1)*5≥m*3
 ·refine .inr ⟨c,?_⟩
  rcases h with⟨rfl,h⟩|⟨rfl,h⟩|⟨rfl,h⟩|⟨rfl,h⟩|⟨rfl,h⟩
  ·obtain rfl:n=4:=by omega
   exact⟨31,by rw[s20],by omega,by rw[s20];omega⟩
  ·obtain rfl:n=18:=by omega
   exact⟨127,by rw[s76],by omega,by rw[s76];omega⟩
  ·obtain rfl:n=76:=by omega
   exact⟨511,by rw[s308],by omega,by rw[s308];omega⟩
  ·obtain rfl:n=306:=by omega
   exact⟨2047,by rw[s1228],by omega,by rw[s1228];omega⟩
  ·omega
 ·exact .inl ⟨c,by omega⟩
def kP(p:Int×Int):List Key:=[.inl p.1,.inl p.2]
theorem E9{p q:Int×Int}(h:kP p=kP q):p=q:=by
 injection h with h1 h2
 injection h2 with h3 _
 injection h1 with h1
 injection h3 with h3
 exact Prod.ext h1 h3
def hP(prog:Program)(w:World)(p:Int×Int):Int:=tupleKeyHash (bA prog w) (kP p)
theorem gO{prog:Program}{w:World}{h:Heap}{v:Value}{p:Int×Int}(k:bF h v p):∃b,v=.ref b/\IsTupleKey (bA prog w) h (kP p) b:=by
 obtain⟨b,o,t1,t2,e,rfl,g,c,d⟩:=k
 exact⟨b,rfl,o,_,e,g,c,d,.cons (by simp[bA,nM,Value.isInt]) (.cons (by simp[bA,nM,Value.isInt]) .nil)⟩
def Els(prog:Program)(w:World)(h:Heap):List (Int×Value)->List (Int×Int)->Prop
 |[],[]=>True
 |e::es,p::ps=>(e.1=hP prog w p/\bF h e.2 p)/\Els prog w h es ps
 |_,_=>False
section
variable{prog:Program}{w:World}{h h':Heap}
theorem Els.len:∀{es:List (Int×Value)} {ps:List (Int×Int)},Els prog w h es ps->es.length=ps.length
 |[],[],_=>rfl
 |_::_,_::_,k=>by rw[QB,QB,k.2.len]
 |[],_::_,k=>k.elim
 |_::_,[],k=>k.elim
theorem Els.at_:∀{es:List (Int×Value)} {ps:List (Int×Int)} {i:Nat} {e:Int×Value},Els prog w h es ps->es[i]?=some e->∃p,ps[i]?=some p/\e.1=hP prog w p/\bF h e.2 p
 |_::_,p::_,0,_,k,g=>by simp at g;subst g;exact⟨p,rfl,k.1⟩
 |_::_,_::_,i+1,e,k,g=>by simpa using k.2.at_ (i:=i) (by simpa using g)
 |[],[],_,_,_,g=>by simp at g
 |[],_::_,_,_,k,_=>k.elim
 |_::_,[],_,_,k,_=>k.elim
theorem Els.app:∀{es fs:List (Int×Value)} {ps qs:List (Int×Int)},Els prog w h es ps->Els prog w h fs qs->Els prog w h (es++fs) (ps++qs)
 |[],_,[],_,_,k2=>k2
 |_::_,_,_::_,_,k,k2=>⟨k.1,k.2.app k2⟩
 |[],_,_::_,_,k,_=>k.elim
 |_::_,_,[],_,k,_=>k.elim
theorem Els.perm{es es':List (Int×Value)}(P:es'.Perm es):∀{ps:List (Int×Int)},Els prog w h es ps->∃ps',ps'.Perm ps/\Els prog w h es' ps':=by
 induction P with
 |nil=>exact fun{ps} k=>⟨ps,.refl _,k⟩
 |cons x _ ih=>
  intro ps k
  cases ps with
  |nil=>exact k.elim
  |cons p ps=>
   obtain⟨qs,h1,h2⟩:=ih k.2
   exact⟨p::qs,h1.cons p,k.1,h2⟩
 |swap x y l=>
  intro ps k
  match ps,k with
  |[],k=>exact k.elim
  |[p],k=>exact k.2.elim
  |p::q::ps,k=>exact⟨q::p::ps,.swap _ _ _,k.2.1,k.1,k.2.2⟩
 |trans _ _ ih1 ih2=>
  intro ps k
  obtain⟨qs,h1,h2⟩:=ih2 k
  obtain⟨rs,h3,h4⟩:=ih1 h2
  exact⟨rs,h3.trans h1,h4⟩
theorem Els.mono{a:Addr}(m:∀b o,b≠a->h.get? b=some o->h'.get? b=some o):∀{es:List (Int×Value)} {ps:List (Int×Int)},Els prog w h es ps->(∀e∈es,e.2≠.ref a)->Els prog w h' es ps
 |[],[],_,_=>trivial
 |e::es,p::ps,k,na=>by
  obtain⟨k1,b,o,t1,t2,n,e1,g,c,d⟩:=k.1
  refine⟨⟨k1,b,o,t1,t2,n,e1,m b o (fun z=>na e QK (by rw[e1,z])) g,c,d⟩,k.2.mono m fun x hx=>na x (QU _ hx)⟩
 |[],_::_,k,_=>k.elim
 |_::_,[],k,_=>k.elim
theorem Els.keep:∀{es:List (Int×Value)} {ps:List (Int×Int)},Els prog w h es ps->(∀b o,(∃e∈es,e.2=.ref b)->h.get? b=some o->h'.get? b=some o)->Els prog w h' es ps
 |[],[],_,_=>trivial
 |e::es,p::ps,k,m=>by
  obtain⟨k1,b,o,t1,t2,n,e1,g,c,d⟩:=k.1
  exact⟨⟨k1,b,o,t1,t2,n,e1,m b o ⟨e,QK,e1⟩ g,c,d⟩,k.2.keep fun b o ⟨x,hx,ex⟩=>m b o ⟨x,QU _ hx,ex⟩⟩
 |[],_::_,k,_=>k.elim
 |_::_,[],k,_=>k.elim
end
structure gk(prog:Program)(w:World)(h:Heap)(a:Addr)(es:Array (Int×Value))(ep:Nat)(t:SetTable)(ps:List (Int×Int)):Prop where
 ob:∃o,h.get? a=some o/\o.ExactSet/\o.data=.set es ep t
 tab:Tab t es.toList
 el:Els prog w h es.toList ps
 nd:ps.Nodup
 pl:t.plain=true
 ld:t.led=!w.params.followText "set-order"
 lv:Lv t.mask es.size
theorem qx{t:SetTable}{h:Int}(hs:Rs t.place.toList)(hd:t.dummies=#[]){ha:Nat->Int}{N k:Nat}(hN:(pth t.mask h N).j∉t.place.toList)(hl:∀k,k<N->(pth t.mask h k).j∈t.place.toList)(hk:k<=N)(hn:N<10*(t.mask+15)){p:SetTable.Probe}(hp:p=pth t.mask h k){r:Option SetTable.Met}(e:t.probe ha h p=r) :
  (∃k1 i,k<=k1/\k1<N/\(∀k',k<=k'->k'<k1->∀i,t.place[i]?=some (pth t.mask h k').j->ha i≠h)/\t.place[i]?=some (pth t.mask h k1).j/\ha i=h/\r=some (.candidate (pth t.mask h k1).j i (pth t.mask h (k1+1))))\/
  ((∀k',k<=k'->k'<N->∀i,t.place[i]?=some (pth t.mask h k').j->ha i≠h)/\r=some (.empty (pth t.mask h N).j none)):=by
 subst hp
 rw[<-e]
 exact qw hs hd hN _ k hk (by unfold SetTable.turns;omega) fun k' _ b=>hl k' b
section
variable{prog:Program}{w:World}{A:Around}{E:Value->Shared->Prop}{s:Shared}
theorem gk.fits{a:Addr}{es:Array (Int×Value)}{ep:Nat}{t:SetTable}{ps:List (Int×Int)}(S:gk prog w s.heap a es ep t ps):t.fits es.size=true:=by
 have h1:=S.lv.le
 have h2:=S.tab.sz
 have h3:=S.tab.dm
 unfold SetTable.fits SetTable.fill
 rw[h3]
 simp only[QH]at h2
 simp[h2]
 omega
theorem wb{x:Addr}{p:Int×Int}(hx:bF s.heap (.ref x) p){Q:Bool->Shared->Prop}(q:Q false s):wpAny (model prog w) A (ofAClassStatement 8 (.ref x)) Q E s:=by
 obtain⟨b,o,t1,t2,e,e0,g,c,d⟩:=hx
 cases e0
 unfold ofAClassStatement
 refine Q2 (wpAny_typeOf (T:="tuple") ⟨o,g,c⟩ ?_)
 dsimp only
 rw[if_pos (beq_self_eq_true _)]
 refine Q2 (Q8 ?_)
 simp only[Zr,Qk,if_false]
 refine Q2 (wpAny_seqItems g d ?_)
 dsimp only
 refine Q2 ?_
 rw[<-Zf]
 refine wpAny_forIn_list _ (fun rest r s'=>r.1=none/\s'=s/\∀v∈rest,∃i t,v=Value.int i t) _ (fun v rest r s' hz=>?_) (fun r s' hz=>?_) _ _ ⟨rfl,rfl,fun v hv=>?_⟩
 ·obtain⟨_,rfl,hv⟩:=hz
  obtain⟨i,t,rfl⟩:=hv v QK
  have e:ofAClassStatement 7 (Value.int i t)=pure false:=by unfold ofAClassStatement;rfl
  rw[e]
  exact Q2 (Q8 (Q8 ⟨rfl,rfl,fun y hy=>hv y (QU _ hy)⟩))
 ·obtain⟨e,rfl,_⟩:=hz
  try dsimp only
  rw[e]
  exact Q8 q
 ·simp at hv
  rcases hv with rfl|rfl
  ·exact⟨_,_,rfl⟩
  ·exact⟨_,_,rfl⟩
theorem wa{x:Addr}{p:Int×Int}(hx:bF s.heap (.ref x) p){ys:List Value}(hy:∀y∈ys,∃q,bF s.heap y q){Q:Bool->Shared->Prop}(q:Q false s):wpAny (model prog w) A (searchCouldBeSeen (.ref x) ys) Q E s:=by
 unfold searchCouldBeSeen
 refine Q2 ?_
 refine wpAny_forIn_list _ (fun rest r s'=>r.1=none/\s'=s/\∀v∈rest,∃q,bF s.heap v q) _ (fun v rest r s' hz=>?_) (fun r s' hz=>?_) _ _ ⟨rfl,rfl,hy⟩
 ·obtain⟨_,rfl,hv⟩:=hz
  obtain⟨p',k⟩:=hv v QK
  obtain⟨b,rfl,kk⟩:=gO (prog:=prog) (w:=w) k
  obtain⟨x',ex,kx⟩:=gO (prog:=prog) (w:=w) hx
  cases ex
  have nx:∀y∈rest,∃q,bF s'.heap y q:=fun y hy=>hv y (QU _ hy)
  dsimp only
  refine wpAny_ite_split (fun _=>Q8 ⟨rfl,rfl,nx⟩) fun _=>?_
  refine Q2 (wpAny_eqIsQuiet_tuple kx ?_)
  simp only[Zr,Qk,if_false]
  refine Q2 (wpAny_eqIsQuiet_tuple kk ?_)
  simp only[Zr,Qk,if_false]
  refine Q2 (wb hx ?_)
  simp only[Qk,if_false]
  refine Q2 (wb k ?_)
  simp only[Qk,if_false]
  exact Q8 ⟨rfl,rfl,nx⟩
 ·obtain⟨e,rfl,_⟩:=hz
  dsimp only
  rw[e]
  exact Q8 q
theorem jx{a x:Addr}{es:Array (Int×Value)}{ep:Nat}{t:SetTable}{ps:List (Int×Int)}{p:Int×Int}(S:gk prog w s.heap a es ep t ps)(hu:A.units<cLine)(hx:bF s.heap (.ref x) p){N:Nat}(h1:(pth t.mask (hP prog w p) N).j∉t.place.toList)(h2:∀k,k<N->(pth t.mask (hP prog w p) k).j∈t.place.toList)(hN:N<10*(t.mask+15)){Q:SetFound->Shared->Prop}
  (q1:p∈ps->Q (.there none) s) (q2:p∉ps->Q (.free (pth t.mask (hP prog w p) N).j false) s) :
  ∀(f k:Nat) (stand:Option SetTable.Probe),k<=N->N-k<f->stand.getD (t.probeStart (hP prog w p))=pth t.mask (hP prog w p) k->(∀k',k'<k->∀i:Nat,t.place[i]?=some (pth t.mask (hP prog w p) k').j->ps[i]?≠some p)->wpAny (model prog w) A (setSearchFrom a (.ref x) (hP prog w p) true f stand) Q E s
 |0,k,stand,hk,hf,_,_=>by omega
 |f+1,k,stand,hk,hf,hst,no=>by
  obtain⟨o,ho,hex,hd⟩:=S.ob
  unfold setSearchFrom
  refine Q2 (wpAny_setState_of ho hd S.fits ?_)
  dsimp only
  have hg:t.gaveWay=false:=S.lv.odd
  rw[hg]
  simp only[Qk,if_false]
  have ls:=S.el.len
  have sz:=S.tab.sz
  split
  ·rename_i met heq
   rcases qx S.tab.rs S.tab.dm h1 h2 hk hN hst heq with⟨k1,i,b1,b2,b3,b4,b5,er⟩|⟨b3,er⟩
   ·injection er with er
    subst er
    have hi:i<es.size:=by
     have:=(Zk.mp b4).1
     simp only[QH]at sz
     omega
    obtain⟨⟨hy,y⟩,ei⟩:∃z,es[i]?=some z:=⟨es[i],QR hi⟩
    have eh:hy=hP prog w p:=by
     have b5:(es[i]?.map (·.1)).getD 0=hP prog w p:=b5
     rw[ei]at b5
     exact b5
    obtain⟨p',g1,g2,g3⟩:=S.el.at_ (by rw[Qw];exact ei)
    obtain⟨b,rfl,ky⟩:=gO (prog:=prog) (w:=w) g3
    obtain⟨x',ex,kx⟩:=gO (prog:=prog) (w:=w) hx
    cases ex
    dsimp only
    have no2:p'≠p->∀k',k'<k1+1->∀i:Nat,t.place[i]?=some (pth t.mask (hP prog w p) k').j->ps[i]?≠some p:=fun ne k' hk' i' hi' hp'=>by
     rcases ZD k' k with c|c
     ·exact no k' c i' hi' hp'
     ·rcases ZD k' k1 with c1|c1
      ·refine b3 k' c c1 i' hi' ?_
       have hi2:i'<es.size:=by
        have:=(Q6.mp hp').1
        simp only[QH]at ls
        omega
       obtain⟨q,hq1,hq2,_⟩:=S.el.at_ (i:=i') (by rw[Qw];exact QR hi2)
       rw[hp']at hq1
       cases hq1
       show(es[i']?.map (·.1)).getD 0=_
       rw[QR hi2]
       exact hq2
      ·rw[show k'=k1 by omega]at hi'
       rw[S.tab.rs.at1 hi' b4,g1]at hp'
       injection hp' with hp'
       exact ne hp'
    have hsm:t.sameMemory t.moves t.mask=some true:=by unfold SetTable.sameMemory;rw[if_pos (beq_self_eq_true _)]
    have hsl:t.slot (pth t.mask (hP prog w p) k1).j=.live i:=by
     rcases ua S.tab.rs S.tab.dm (pth t.mask (hP prog w p) k1).j with⟨c1,_⟩|⟨i',c1,c2⟩
     ·exact absurd (Qo (by rw[Qw];exact b4)) c1
     ·rw[c2,S.tab.rs.at1 c1 b4]
    refine wpAny_ite_split (fun _=>Q2 (wa hx (fun y hy=>?_) ?_)) fun _=>?_
    ·obtain⟨e,he,rfl⟩:=Qa.mp hy
     have he':e∈es.toList:=by simp at he;simpa using he.1
     obtain⟨i',hi'⟩:=ZQ he'
     obtain⟨q,_,_,hq⟩:=S.el.at_ hi'
     exact⟨q,hq⟩
    all_goals
     (try simp only[Qk,if_false])
     rw[ei]
     dsimp only
     refine Q2 (wpAny_holding (wpAny_eqBool_tuple hu ky kx ?_))
     refine Q2 (wpAny_setState_of ho hd S.fits ?_)
     dsimp only
     by_cases c:p'=p
     ·subst c
      rw[if_pos (by simp)]
      exact Q8 (q1 (Qo g1))
     ·have dc:decide (kP p'=kP p)=false:=decide_eq_false fun z=>c (E9 z)
      rw[dc,hsm]
      simp only[Bool.and_false,Qk,if_false,if_true]
      rw[hsl]
      dsimp only
      rw[ei]
      dsimp only
      refine Q2 (wpAny_isSame_ref_self ?_)
      refine Q2 (Q8 ?_)
      simp only[if_true]
      exact jx S hu hx h1 h2 hN q1 q2 f (k1+1) _ (by omega) (by omega) rfl (no2 c)
   ·injection er with er
    subst er
    dsimp only
    refine Q8 (q2 fun hm=>?_)
    obtain⟨i0,hi0⟩:=ZQ hm
    have li:=(Q6.mp hi0).1
    simp only[QH]at ls sz
    have hie:i0<es.size:=by omega
    have hip:i0<t.place.size:=by omega
    obtain⟨q,hq1,hq2,_⟩:=S.el.at_ (i:=i0) (by rw[Qw];exact QR hie)
    rw[hi0]at hq1
    cases hq1
    obtain⟨k0,r1,r2⟩:=S.tab.rc i0 _ _ (QR hip) (by rw[Qw];exact QR hie)
    rw[hq2]at r1 r2
    have k0N:k0<N:=by
     rcases Nat.lt_trichotomy k0 N with c|c|c
     ·exact c
     ·exact absurd (by rw[<-c,r1];simp) h1
     ·exact absurd (r2 N c) h1
    have gp:t.place[i0]?=some (pth t.mask (hP prog w p) k0).j:=by rw[r1];exact QR hip
    rcases ZD k0 k with c|c
    ·exact no k0 c i0 gp hi0
    ·refine b3 k0 c k0N i0 gp ?_
     show(es[i0]?.map (·.1)).getD 0=_
     rw[QR hie]
     exact hq2
  ·rename_i heq
   rcases qx S.tab.rs S.tab.dm h1 h2 hk hN hst rfl with⟨k1,i,b1,b2,b3,b4,b5,er⟩|⟨b3,er⟩
   ·exact absurd er (heq _)
   ·exact absurd er (heq _)
end
section
variable{prog:Program}{w:World}{A:Around}{E:Value->Shared->Prop}{s:Shared}
theorem yJ{x:Addr}{p:Int×Int}(hx:bF s.heap (.ref x) p){Q:Bool->Shared->Prop}(q:Q true s):wpAny (model prog w) A (hashByValue 8 (.ref x)) Q E s:=by
 obtain⟨b,o,t1,t2,e,e0,g,c,d⟩:=hx
 cases e0
 unfold hashByValue
 refine Q2 (wpAny_specialOf (T:="tuple") ⟨o,g,c⟩ PySem.F.slot_tuple_hash.lookup ?_)
 dsimp only
 refine Q2 (wpAny_seqItems g d ?_)
 simp only[Qi]
 refine Q2 ?_
 rw[<-Zf]
 refine wpAny_forIn_list _ (fun rest r s'=>r.1=none/\s'=s/\∀v∈rest,∃i t,v=Value.int i t) _ (fun v rest r s' hz=>?_) (fun r s' hz=>?_) _ _ ⟨rfl,rfl,fun v hv=>?_⟩
 ·obtain⟨_,rfl,hv⟩:=hz
  obtain⟨i,t,rfl⟩:=hv v QK
  have e:hashByValue 7 (Value.int i t)=pure true:=by unfold hashByValue;rfl
  rw[e]
  exact Q2 (Q8 (Q8 ⟨rfl,rfl,fun y hy=>hv y (QU _ hy)⟩))
 ·obtain⟨e,rfl,_⟩:=hz
  try dsimp only
  rw[e]
  exact Q8 q
 ·simp at hv
  rcases hv with rfl|rfl
  ·exact⟨_,_,rfl⟩
  ·exact⟨_,_,rfl⟩
theorem vT{h:Heap}{a:Addr}{o:Obj}(g:h.get? a=some o)(c:o.cls=.type "set"):∀{es:List (Int×Value)} {ps:List (Int×Int)},Els prog w h es ps->∀e∈es,e.2≠.ref a
 |[],[],_,e,he=>by cases he
 |e0::es,p::ps,k,e,he=>by
  rcases QM.mp he with rfl|he
  ·obtain⟨_,b,o',t1,t2,n,e1,g',c',d'⟩:=k.1
   rw[e1]
   intro z
   injection z with z
   subst z
   rw[g]at g'
   cases g'
   rw[c]at c'
   exact absurd c' (by decide)
  ·exact vT g c k.2 e he
 |[],_::_,k,_,_=>k.elim
 |_::_,[],k,_,_=>k.elim
theorem pZ{h:Heap}{a:Addr}{o:Obj}{es es':Array (Int×Value)}{ep:Nat}{t t':SetTable}{ps:List (Int×Int)}(ho:h.get? a=some o)(hex:o.ExactSet)(hd:o.data=.set es ep t)(T:Tab t' es'.toList)(el:Els prog w h es'.toList ps)(nd:ps.Nodup)(pl:t'.plain=true)(ld:t'.led=!w.params.followText "set-order")(lv:Lv t'.mask es'.size) :
  gk prog w (h.update a (Obj.putSet es' t')) a es' (ep+1) t' ps/\∀b o,b≠a->h.get? b=some o->(h.update a (Obj.putSet es' t')).get? b=some o:=by
 have keep:∀b o,b≠a->h.get? b=some o->(h.update a (Obj.putSet es' t')).get? b=some o:=fun b o hb g=>by
  rw[(Heap.SameBut.update h a (Obj.putSet es' t')).2 b hb];exact g
 have g:=ZU (Obj.putSet es' t') ho (by rw[putSet_of es' t' hd];rfl)
 rw[putSet_of es' t' hd]at g
 exact⟨⟨⟨_,g,⟨hex.1,hex.2.1,hex.2.2⟩,rfl⟩,T,el.mono keep (vT ho hex.1 el),nd,pl,ld,lv⟩,keep⟩
theorem xI{a:Addr}{es:Array (Int×Value)}{ep:Nat}{t:SetTable}{ps:List (Int×Int)}{m wanted:Nat}{o:Obj}(ho:s.heap.get? a=some o)(hex:o.ExactSet)(hd:o.data=.set es ep t)(hf:t.fits es.size=true)(el:Els prog w s.heap es.toList ps)(nd:ps.Nodup)(pl:t.plain=true)(ld:t.led=!w.params.followText "set-order")
  (hm:SetTable.sizeAbove wanted-1=m) (lv:Lv m es.size) (hs:SetTable.sizeAbove wanted<=2048) {Q:Unit->Shared->Prop}
  (q:∀h' es' ep' t' ps',(∀b o,b≠a->s.heap.get? b=some o->h'.get? b=some o)->gk prog w h' a es' ep' t' ps'->ps'.Perm ps->es'.toList.Perm es.toList->Q () { s with heap:=h' }):wpAny (model prog w) A (setRelay a wanted) Q E s:=by
 have hl:=lv.le
 obtain⟨t',order,e,m1,m2,m3,P,T⟩:=Tab.relay (t:=t) (es:=es) hm lv.full (by omega)
 have sz:(order.filterMap (es[·]?)).size=es.size:=by rw[<-QH,P.length_eq,QH]
 obtain⟨ps',pp,el'⟩:=el.perm P
 unfold setRelay
 refine Q2 (wpAny_setState_of ho hd hf ?_)
 dsimp only
 rw[if_neg (by unfold sizeLine;omega),e]
 refine Q2 ?_
 refine wpAny_ite_split (fun c=>absurd sz (by simpa using c)) fun _=>Q8 ?_
 dsimp only
 obtain⟨S,keep⟩:=pZ (prog:=prog) (w:=w) (t':=t') ho hex hd T el' (pp.nodup_iff.mpr nd) (by rw[m3];exact pl) (by rw[m2];exact ld) (by rw[m1,sz];exact lv)
 exact wpAny_storeSet_of ho hd (q _ _ _ _ _ keep S pp P) (by rw[sz];unfold sizeLine;omega)
theorem Bl{a x:Addr}{es:Array (Int×Value)}{ep:Nat}{t:SetTable}{ps:List (Int×Int)}{p:Int×Int}(S:gk prog w s.heap a es ep t ps)(hu:A.units<cLine)(hx:bF s.heap (.ref x) p)(hn:es.size<1228){Q:Bool->Shared->Prop}
  (q:∀h' tk es' ep' t' ps' b,(∀b o,b≠a->s.heap.get? b=some o->h'.get? b=some o)->gk prog w h' a es' ep' t' ps'->(∀y,y∈ps'↔y∈ps\/y=p)->es'.size<=es.size+1->(∀e∈es'.toList,e∈es.toList\/e.2=.ref x)->s.toks<=tk->Q b { s with heap:=h',toks:=tk }) :
  wpAny (model prog w) A (setAdd a (.ref x)) Q E s:=by
 obtain⟨x',ex,kx⟩:=gO (prog:=prog) (w:=w) hx
 cases ex
 obtain⟨o,ho,hex,hd⟩:=S.ob
 have hl:=S.lv.le
 have sz:=S.tab.sz
 have ls:=S.el.len
 simp only[QH]at sz ls
 unfold setAdd
 refine wpAny_holding (Q2 (wpAny_pyHash_tuple hu kx ?_))
 obtain⟨e0,he0,hne⟩:=gap (m:=t.mask) S.tab.rs.nd (by rw[QH,sz];omega)
 obtain⟨N,n1,n2,n3⟩:=sC S.tab.fl (hP prog w p) (P:=(·∈t.place.toList)) he0 hne
 show wpAny _ _ (setAddHashed a (.ref x) (hP prog w p)) _ _ _
 unfold setAddHashed setAddHashedIn
 refine wpAny_holding (Q2 (wpAny_setState_of ho hd S.fits ?_))
 dsimp only
 have bs:byScan (.ref x) es=false:=rfl
 rw[bs]
 simp only[Qk,if_false]
 unfold setSearch
 refine Q2 (jx (s:={ s with toks:=s.toks+((kP p).length+1) }) S hu hx n2 n3 n1 (fun hm=>?_) (fun hm=>?_) 100000 0 none (Qs _) (by omega) rfl fun k' hk'=>by omega)
 ·dsimp only
  refine Q8 (q s.heap _ es ep t ps _ (fun _ _ _ g=>g) S (fun y=>⟨.inl,fun h=>h.elim id fun e=>e▸hm⟩) (Zm _) (fun e he=>.inl he) (Nat.le_add_right _ _))
 ·dsimp only
  refine Q2 (wpAny_setState_of ho hd S.fits ?_)
  obtain⟨pp,e1,P,T⟩:=S.tab.put (h:=hP prog w p) (x:=.ref x) n2 n3
  have e1':t.put (pth t.mask (hP prog w p) N).j=_:=e1
  dsimp only
  rw[e1']
  dsimp only
  rw[if_pos S.pl]
  refine Q2 (yJ (s:={ s with toks:=s.toks+((kP p).length+1) }) hx ?_)
  simp only[if_true]
  have sz1:(SetTable.insertAt es pp (hP prog w p,Value.ref x)).size=es.size+1:=by have:=P.length_eq;simpa using this
  obtain⟨ps1,pp1,el1⟩:=(S.el.app (fs:=[(hP prog w p,.ref x)]) (qs:=[p]) ⟨⟨rfl,hx⟩,trivial⟩).perm P
  have nd1:ps1.Nodup:=pp1.nodup_iff.mpr (by
   rw[List.nodup_append]
   exact⟨S.nd,by simp,fun y hy z hz e=>hm (by rw[Qn.mp hz]at e;rw[<-e];exact hy)⟩)
  have mem1:∀y,y∈ps1↔y∈ps\/y=p:=fun y=>by rw[pp1.mem_iff,Qt,Qn]
  have from1:∀e∈(SetTable.insertAt es pp (hP prog w p,Value.ref x)).toList,e∈es.toList\/e.2=.ref x:=fun e he=>by
   rcases Qt.mp (P.mem_iff.mp he)with h|h
   ·exact .inl h
   ·rw[Qn.mp h];exact .inr rfl
  have keep1:∀b o,b≠a->s.heap.get? b=some o->(s.heap.update a (Obj.putSet (SetTable.insertAt es pp (hP prog w p,Value.ref x)) { t with place:=SetTable.insertAt t.place pp (pth t.mask (hP prog w p) N).j })).get? b=some o:=fun b o hb g=>by
   rw[(Heap.SameBut.update s.heap a _).2 b hb];exact g
  refine Q2 (wpAny_storeSet_of (s:={ s with toks:=s.toks+((kP p).length+1) }) ho hd ?_ (by rw[sz1];unfold sizeLine;omega))
  have tsz:(SetTable.insertAt t.place pp (pth t.mask (hP prog w p) N).j).size=es.size+1:=by
   have:=T.sz
   change (SetTable.insertAt t.place pp (pth t.mask (hP prog w p) N).j).size=_ at this
   rw[this,QH,sz1]
  have tf:({ t with place:=SetTable.insertAt t.place pp (pth t.mask (hP prog w p) N).j }:SetTable).tooFull=decide ((es.size+1)*5≥t.mask*3):=by
   unfold SetTable.tooFull SetTable.fill
   dsimp only
   rw[tsz,S.tab.dm]
   rfl
  rw[tf]
  rcases S.lv.next hn with⟨c1,lv⟩|⟨c1,m',hm',lv,hs⟩
  ·rw[decide_eq_false c1]
   simp only[Bool.not_false,Bool.and_false,Qk,if_false]
   obtain⟨S',keep⟩:=pZ (prog:=prog) (w:=w) ho hex hd T el1 nd1 S.pl S.ld (by rw[sz1];exact lv)
   exact Q8 (q _ _ _ _ _ _ _ keep S' mem1 (by rw[sz1];exact QJ _) from1 (Nat.le_add_right _ _))
  ·rw[decide_eq_true c1]
   simp only[Bool.not_false,Bool.and_true,if_true]
   have g:=ZU (Obj.putSet (SetTable.insertAt es pp (hP prog w p,Value.ref x)) { t with place:=SetTable.insertAt t.place pp (pth t.mask (hP prog w p) N).j }) ho (by rw[putSet_of _ _ hd];rfl)
   rw[putSet_of _ _ hd]at g
   have el2:=el1.mono keep1 (vT ho hex.1 el1)
   refine Q2 (xI (prog:=prog) (w:=w) (s:={ s with heap:=s.heap.update a (Obj.putSet (SetTable.insertAt es pp (hP prog w p,Value.ref x)) { t with place:=SetTable.insertAt t.place pp (pth t.mask (hP prog w p) N).j }),toks:=s.toks+((kP p).length+1) }) g ⟨hex.1,hex.2.1,hex.2.2⟩ rfl ?_ el2 nd1 S.pl S.ld hm' (by rw[sz1];exact lv) hs fun h' es' ep' t' ps' keep2 S' pe es''=>?_)
   ·unfold SetTable.fits SetTable.fill
    dsimp only
    rw[tsz,S.tab.dm,sz1]
    simp
    omega
   ·exact Q8 (q _ _ _ _ _ _ _ (fun b o hb g'=>keep2 b o hb (keep1 b o hb g')) S' (fun y=>by rw[pe.mem_iff];exact mem1 y) (by rw[<-QH,es''.length_eq,QH,sz1];exact QJ _) (fun e he=>from1 e (es''.mem_iff.mp he)) (Nat.le_add_right _ _))
end
abbrev fw(w:World):Obj:={ cls:=.type "set",dict:=none,data:=.set #[] 0 (.fresh 0 0 (!w.params.followText "set-order")) }
section
variable{prog:Program}{w:World}{A:Around}{E:Value->Shared->Prop}{s:Shared}
theorem Bk(a:Value){Q1:Value->Shared->Prop}(q:Q1 (.ref s.heap.objs.size) { s with heap:=s.heap.push (fw w) }) :
  codeAny (model prog w) A (.call (.builtin "set.__new__") ⟨[.type "set",a],[]⟩) (wants Q1 E) s:=by
 refine codeAny_of_tree ?_
 change wpAny _ A.in1 ((checkBuiltinCall "set.__new__" ⟨[.type "set",a],[]⟩) >>= fun _=>again (.builtin "set.__new__" ⟨[.type "set",a],[]⟩)) _ _ s
 rw[PySem.F.newCall_set_1 a]
 refine Q2 (Q8 (Q8 ⟨plainId_quiet PySem.F.plain_set_new _,codeAny_builtin PySem.F.entry_set_new ?_⟩))
 rw[Around.under_plainId PySem.F.plain_set_new _]
 unfold Builtin.«set.__new__» Builtin.Frozenset.newClass
 have hs:=sub_set_self
 obtain⟨hp,g,d,tk,os⟩:=s
 dsimp only
 wp_walk
 refine wpAny_askSetting (Q8 ?_)
 dsimp only
 unfold newObj
 exact Q2 (wpAny_alloc (Q8 (Q8 q)))
theorem pD{l:Value}{Q:Value->Shared->Prop}
  (hi:wpAny (model prog w) A.in1.in1 (Builtin.«set.__init__» ⟨[.ref s.heap.objs.size,l],[]⟩)
   (fun fin s'=>match fin with
    |.done f=>wants (fun r s2=>r=.none/\Q (.ref s.heap.objs.size) s2) E (.ok f) s'
    |.again c'=>c'.quiet=true/\codeAny (model prog w) A.in1 c' (wants (fun r s2=>r=.none/\Q (.ref s.heap.objs.size) s2) E) s')
   (fun e s'=>wants (fun r s2=>r=.none/\Q (.ref s.heap.objs.size) s2) E (.error e) s') { s with heap:=s.heap.push (fw w) }) :
  wpAny (model prog w) A (call (.type "set") [l]) Q E s:=by
 have f:=PySem.F.called_set
 obtain⟨c,tl,m0⟩:=f.mro
 have m1:=f.made
 have m2:=f.sub
 have m3:=f.notType
 have m4:=f.canCreate
 have m5:=PySem.F.typeCall_set_1 l
 refine wpAny_call (codeAny_of_tree (Q8 ⟨Code.quiet_builtin _ (by decide +kernel),codeAny_builtin PySem.F.entry_type_call ?_⟩))
 rw[Around.under_plain (weight_type_call_type "set" [l] []) rfl]
 repeat (any_goals (first|assumption|wp_step))
 refine codeAny_mono (Bk l (E:=E) (Q1:=fun v s1=>v=.ref s.heap.objs.size/\s1={ s with heap:=s.heap.push (fw w) }) ⟨rfl,rfl⟩) fun r s1 hr=>?_
 rcases r with e|fl
 ·exact hr
 ·cases fl with
  |ret v=>
   obtain⟨rfl,rfl⟩:=hr
   have hT:Shared.TypeIs { s with heap:=s.heap.push (fw w) } (.ref s.heap.objs.size) "set":=⟨_,QY _ rfl,rfl⟩
   have m6:=f.init.lookup
   have m7:=f.init.bind (.ref s.heap.objs.size)
   repeat (any_goals (first|assumption|wp_step))
   refine codeAny_mono (codeAny_call_builtin f.init.plain PySem.F.entry_set_init (check_set_init_1 hT hi)) fun r2 s2 hr2=>?_
   rcases r2 with e|fl2
   ·exact hr2
   ·cases fl2 with
    |ret r=>
     obtain⟨rfl,hq⟩:=hr2
     repeat (any_goals (first|assumption|wp_step))
    |_=>exact hr2.elim
  |_=>exact hr.elim
theorem xA{R:Result->Shared->Prop}{I Sa:Addr}{fp wr:List Addr}{G:Array GenState->Array GenState->Prop}{n:Nat}{P:Nat->Value->Prop}{St:Nat->Shared->Prop}(W:WalksS prog w A.in1 I fp wr G n P St)(hSf:Sa∉fp)(hu:A.in1.units<cLine){h0:Heap}(hwr:∀b∈wr,h0.objs.size<=b)(hSa:h0.objs.size<=Sa)
  (val:Nat->Int×Int) (hval:∀i v,P i v->bF h0 v (val i)) (hb:n<=1200) :
  ∀(k i:Nat) (s:Shared),n-i=k->i<=n->St i s->(∀b o,h0.get? b=some o->s.heap.get? b=some o)->
   (∃es ep t ps,gk prog w s.heap Sa es ep t ps/\(∀e∈es.toList,∃j,P j e.2)/\es.size<=i/\∀y,y∈ps↔∃j,j<i/\val j=y)->
   (∀s',Moved (Sa::wr) G s s'->(∃es ep t ps,gk prog w s'.heap Sa es ep t ps/\(∀e∈es.toList,∃j,P j e.2)/\es.size<=n/\∀y,y∈ps↔∃j,j<n/\val j=y)->R (.ok (.ret .none)) s')->
   codeAny (model prog w) A (.builtin "set.update.loop" ⟨[.ref Sa,.ref I],[]⟩) R s:=by
 have sub:∀b∈wr,b∈Sa::wr:=fun b hb=>QU _ hb
 have hSw:Sa∉wr:=fun h=>hSf (W.sub _ h)
 have moveS:∀{s s':Shared} {es ep t ps},Moved wr G s s'->(∀e∈es.toList,∃j,P j e.2)->gk prog w s.heap Sa es ep t ps->gk prog w s'.heap Sa es ep t ps:=fun{s s' es ep t ps} hm old S=>by
  obtain⟨⟨o,g,ex,d⟩,r1,r2,r3,r4,r5,r6⟩:=S
  refine⟨⟨o,hm.heap _ _ hSw g,ex,d⟩,r1,r2.keep fun b o hb=>hm.heap b o fun z=>?_,r3,r4,r5,r6⟩
  obtain⟨e,he,e2⟩:=hb
  obtain⟨j,pj⟩:=old e he
  obtain⟨b',o',_,_,_,e3,g',_⟩:=hval j _ pj
  rw[e2]at e3
  injection e3 with e3
  exact absurd (QX g') (by rw[<-e3];exact Zj.mpr (hwr b z))
 intro k
 induction k with
 |zero=>
  intro i s hk hi hst old hS hR
  obtain rfl:i=n:=by omega
  refine codeAny_builtin PyProof.Rows.F.entry_set_update_loop ?_
  rw[Around.under_plainId PyProof.Rows.F.plain_set_update_loop _]
  change wpAny _ A.in1 (pyNext (.ref I) >>= _) _ _ s
  refine Q2 (W.done s _ _ hst fun s' hm=>Q8 (hR s' (hm.mono sub) ?_))
  obtain⟨es,ep,t,ps,S,oe,r⟩:=hS
  exact⟨es,ep,t,ps,moveS hm oe S,oe,r⟩
 |succ k ih=>
  intro i s hk hi hst old hS hR
  refine codeAny_builtin PyProof.Rows.F.entry_set_update_loop ?_
  rw[Around.under_plainId PyProof.Rows.F.plain_set_update_loop _]
  change wpAny _ A.in1 (pyNext (.ref I) >>= _) _ _ s
  refine Q2 (W.item i s _ _ (by omega) hst fun v s' hP hst' hm=>?_)
  obtain⟨es,ep,t,ps,S,oe,sz,mem⟩:=hS
  have S1:=moveS hm oe S
  have old1:∀b o,h0.get? b=some o->s'.heap.get? b=some o:=fun b o g=>hm.heap b o (fun z=>absurd (QX g) (Zj.mpr (hwr b z))) (old b o g)
  obtain⟨b,o,t1,t2,e,rfl,g,c,d⟩:=hval i v hP
  have hx:bF s'.heap (.ref b) (val i):=⟨b,o,t1,t2,e,rfl,old1 b o g,c,d⟩
  change wpAny _ A.in1 (holding [Value.ref b] (setAdd Sa (.ref b)) >>= _) _ _ s'
  refine Q2 (wpAny_holding (Bl S1 hu hx (by omega) fun h' tk es' ep' t' ps' bb keep S2 mem2 sz2 oe2 htk=>?_))
  refine Q8 ⟨plainId_quiet PyProof.Rows.F.plain_set_update_loop _,ih (i+1) _ (by omega) (by omega) (W.frame _ s' _ _ hst' htk fun b hb o g=>keep b o (fun z=>hSf (z▸hb)) g) (fun b o g=>keep b o (fun z=>absurd (QX g) (by rw[z];exact Zj.mpr hSa)) (old1 b o g)) ⟨es',ep',t',ps',S2,fun e he=>(oe2 e he).elim (oe e) fun z=>⟨i,by rw[z];exact hP⟩,by omega,fun y=>?_⟩ fun s'' hm'' hS''=>?_⟩
  ·rw[mem2,mem]
   constructor
   ·rintro(⟨j,hj,e⟩|e)
    ·exact⟨j,by omega,e⟩
    ·exact⟨i,by omega,e.symm⟩
   ·rintro⟨j,hj,e⟩
    rcases ZD j i with c|c
    ·exact .inl ⟨j,c,e⟩
    ·exact .inr (by rw[<-e,show j=i by omega])
  ·exact hR s'' (Moved.trans W.gtrans ((hm.mono sub).then_heap htk fun b o hb g=>keep b o (fun z=>hb (by rw[z];exact QK)) g) hm'') hS''
end
section
variable{prog:Program}{w:World}{A:Around}{E:Value->Shared->Prop}{s:Shared}
theorem yM{h:Heap}{a:Addr}(g:h.get? a=some (fw w)):gk prog w h a #[] 0 (.fresh 0 0 (!w.params.followText "set-order")) []:=
 ⟨⟨_,g,⟨rfl,rfl,rfl⟩,rfl⟩,⟨rfl,List.Pairwise.nil,Fq,rfl,fun i j e g=>by simp[SetTable.fresh]at g⟩,trivial,List.nodup_nil,rfl,rfl,.inl ⟨rfl,by decide⟩⟩
theorem lV{l:Addr}{vs:List Value}{ps0:List (Int×Int)}{Q:Value->Shared->Prop}(hh:A.handled=none)(hu:A.units+64<cLine)(hl:s.heap.IsList l vs.toArray)(hp:dj s.heap vs ps0)(hn:vs.length<=1200)
  (q:∀h' tk es ep t ps,gk prog w h' s.heap.objs.size es ep t ps->(∀e∈es.toList,∃j:Nat,vs[j]?=some e.2)->es.size<=1200->(∀y,y∈ps↔y∈ps0)->(∀b o,s.heap.get? b=some o->h'.get? b=some o)->Q (.ref s.heap.objs.size) { s with heap:=h',toks:=tk }) :
  wpAny (model prog w) A (call (.type "set") [.ref l]) Q E s:=by
 refine pD ?_
 have gS:(s.heap.push (fw w)).get? s.heap.objs.size=some (fw w):=QY _ rfl
 have hl1:(s.heap.push (fw w)).IsList l vs.toArray:=hl.push _
 obtain⟨ol,gl,cl,nl,dl⟩:=hl
 obtain⟨ocl,odi,oda,osl⟩:=ol
 dsimp only at cl dl
 subst cl
 subst dl
 have gl':(s.heap.push (fw w)).get? l=some { cls:=.type "list",dict:=odi,data:=.seq vs.toArray nl,slots:=osl }:=Q4 _ gl
 have x1:=PySem.F.sub_list_set
 have x2:=PySem.F.sub_list_frozenset
 have x3:(Value.type "list" == Value.type "dict")=false:=by decide
 have lS:l<s.heap.objs.size:=QX gl
 unfold Builtin.«set.__init__» noKeywords Builtin.Frozenset.updateFrom
 generalize hq:pyIter=PI
 wp_walk
 subst hq
 refine wpAny_pyIter_list hl1 (Q2 (wpAny_runValue ?_))
 have sz1:(s.heap.push (fw w)).objs.size=s.heap.objs.size+1:=Z7 ..
 have W:=(Walks.list (prog:=prog) (w:=w) (A:=A.in1.in1.in1) hh (s.heap.push (fw w)).objs.size l (by rw[sz1];exact QC (ZJ lS)) vs.toArray).toS
 have hv:∀(i:Nat) (v:Value),vs.toArray[i]?=some v->bF s.heap v (ps0.getD i (0,0)):=fun i v g=>by
  rw[List.getElem?_toArray]at g
  have:=(Q6.mp g).1
  have hpg:=ft hp (i:=i) (by rw[<-eD hp];exact this)
  rw[QV,g]at hpg
  exact hpg
 refine xA W (Sa:=s.heap.objs.size) (by rw[sz1];simp;exact ZS lS) (by show A.units+1+1+1<cLine;omega) (h0:=s.heap) (fun b hb=>by rw[sz1]at hb;simp at hb;rw[hb];exact Zm _) (QJ _) (fun i=>ps0.getD i (0,0)) hv (by simpa using hn) (vs.toArray.size-0) 0 _ (by omega) (Qs _) ⟨⟨_,QY _ rfl,rfl,rfl⟩,hl1.push _⟩ (fun b o g=>Q4 _ (Q4 _ g)) ⟨#[],0,_,[],yM (Q4 _ gS),fun e he=>by simp at he,QJ _,fun y=>Iff.intro (fun z=>by simp at z) (fun z=>by obtain⟨j,hj,_⟩:=z;omega)⟩ fun s' hm hS=>?_
 obtain⟨es,ep,t,ps,S,oe,sz,mem⟩:=hS
 obtain⟨h',g',d',tk',os'⟩:=s'
 have eg:g'=s.gens:=hm.gens
 have ed:d'=s.drawn:=hm.drawn
 have eo:os'=s.os:=hm.os
 subst eg
 subst ed
 subst eo
 refine Q8 (Q8 ⟨rfl,?_⟩)
 refine q h' tk' es ep t ps S (fun e he=>by obtain⟨j,hj⟩:=oe e he;exact⟨j,by rw[List.getElem?_toArray]at hj;exact hj⟩) (by simp at sz;omega) (fun y=>?_) fun b o g=>?_
 ·rw[mem]
  have e:=eD hp
  constructor
  ·rintro⟨j,hj,rfl⟩
   have hj':j<ps0.length:=by simp at hj;omega
   rw[QV,Q7 hj']
   exact Z8 hj'
  ·intro hy
   obtain⟨j,hj,rfl⟩:=List.getElem_of_mem hy
   refine⟨j,by simp;omega,?_⟩
   rw[QV,Q7 hj]
   rfl
 ·have lt:=QX g
  refine hm.heap b o ?_ (Q4 _ (Q4 _ g))
  rw[sz1]
  simp
  exact⟨QC lt,QC (ZJ lt)⟩
end
theorem iD:Slot "set_iterator" "__next__" "set_iterator.__next__":=.of (owner:="set_iterator") (n:="__next__") (by rw[typeLookup_type,builtinLookup_eq_fast];kernel_rfl) (by decide +kernel) (by decide +kernel) (by decide +kernel) (by first|exact .inl (by decide +kernel)|exact .inr (by decide +kernel)) (by rw[isSubtype_type];kernel_rfl)
theorem vS:entryFor table "set_iterator.__next__"=some Builtin.«set_iterator.__next__»:=entryFor_of_tree (by kernel_rfl)
theorem yQ:entryFor table "set.__iter__"=some Builtin.«frozenset.__iter__»:=entryFor_alias (id':="frozenset.__iter__") (by kernel_rfl) rfl (by decide +kernel) (by kernel_rfl)
theorem uc:Slot "set_iterator" "__iter__" "set_iterator.__iter__":=.of (owner:="set_iterator") (n:="__iter__") (by rw[typeLookup_type,builtinLookup_eq_fast];kernel_rfl) (by decide +kernel) (by decide +kernel) (by decide +kernel) (by first|exact .inl (by decide +kernel)|exact .inr (by decide +kernel)) (by rw[isSubtype_type];kernel_rfl)
theorem CF:entryFor table "set_iterator.__iter__"=some Builtin.«dict_keyiterator.__iter__»:=entryFor_alias (id':="dict_keyiterator.__iter__") (by kernel_rfl) rfl (by decide +kernel) (by kernel_rfl)
theorem wG(a:Value):argsOk "set_iterator.__next__" ⟨[a],[]⟩:=by
 unfold argsOk
 rw[signature?_of (id:="set_iterator.__next__") (n:="__txen__".toList) (o:="rotareti_tes".toList) (rows:=Manifest.sig_set_iterator) (by kernel_rfl) (by kernel_rfl)]
 kernel_rfl
theorem CU(a:Value):argsOk "set_iterator.__iter__" ⟨[a],[]⟩:=by
 unfold argsOk
 rw[signature?_of (id:="set_iterator.__iter__") (n:="__reti__".toList) (o:="rotareti_tes".toList) (rows:=Manifest.sig_set_iterator) (by kernel_rfl) (by kernel_rfl)]
 kernel_rfl
theorem vR{α:Type}:∀{l:List α} {k:Nat} (h:k<l.length),(l[k]::l.eraseIdx k).Perm l
 |x::r,0,_=>List.Perm.refl _
 |x::r,k+1,h=>(List.Perm.swap x _ _).trans ((vR (l:=r) (k:=k) (by simpa using h)).cons x)
theorem uL{α:Type}{nx:Nat->Nat}:∀(f k:Nat) (l:List α) (out:Array α),f=l.length->(pickOrder.go nx f k l out).toList.Perm (out.toList++l)
 |0,k,l,out,h=>by
  rw[List.eq_nil_of_length_eq_zero h.symm,QL]
  exact .refl _
 |f+1,k,l,out,h=>by
  unfold pickOrder.go
  have hlt:nx k % l.length<l.length:=Nat.mod_lt _ (by omega)
  rw[Q7 hlt]
  dsimp only
  refine(uL f (k+1) _ _ (by rw[List.length_eraseIdx,if_pos hlt];omega)).trans ?_
  rw[Array.toList_push,Q9]
  exact List.Perm.append_left _ (vR hlt)
theorem uK{α:Type}{nx:Nat->Nat}(xs:Array α):(pickOrder nx xs).toList.Perm xs.toList:=by
 unfold pickOrder
 have:=uL (nx:=nx) xs.size 0 xs.toList #[] (by simp)
 simpa using this
def yg(w:World)(a:Addr)(ep:Nat)(es:Array (Int×Value)):Array (Int×Value):=if w.params.followText "set-order" then pickOrder (w.params.setOrder a ep) es else es
theorem gP{w:World}{a:Addr}{ep:Nat}{es:Array (Int×Value)}:(yg w a ep es).toList.Perm es.toList:=by
 unfold yg
 split
 ·exact uK es
 ·exact .refl _
theorem lI{xs:Array Nat}(h:Rs xs.toList):SetTable.below xs 0=0:=by
 obtain⟨p,e,h1,h2,h3⟩:=jj h 0
 rw[e]
 cases p with
 |zero=>rfl
 |succ p=>have:=h2 0 (by omega);omega
theorem sI{xs:Array Nat}(h:Rs xs.toList){i j:Nat}(g:xs[i]?=some j):SetTable.below xs (j+1)=i+1:=by
 obtain⟨p,e,h1,h2,h3⟩:=jj h (j+1)
 have hi:i<xs.size:=(Zk.mp g).1
 have gi:∀d,xs.getD i d=j:=fun d=>by simp[Zp,hi];rw[QR hi]at g;injection g
 rw[e]
 rcases Nat.lt_trichotomy p (i+1)with c|c|c
 ·have:=h3 i (by omega) hi
  rw[gi]at this
  omega
 ·exact c
 ·have a1:=h2 (i+1) c
  have a2:=h.lt (d:=j+1) (show i<i+1 by omega) (show i+1<xs.size by omega)
  rw[gi]at a2
  omega
structure za(w:World)(o:Obj)(es:Array (Int×Value))(ep:Nat)(t:SetTable):Prop where
 ex:o.ExactSet
 dt:o.data=.set es ep t
 tab:Tab t es.toList
 pl:t.plain=true
 ld:t.led=!w.params.followText "set-order"
 lv:Lv t.mask es.size
theorem gk.so{prog:Program}{w:World}{h:Heap}{a:Addr}{es:Array (Int×Value)}{ep:Nat}{t:SetTable}{ps:List (Int×Int)}(S:gk prog w h a es ep t ps):∃o,h.get? a=some o/\za w o es ep t:=let ⟨o,g,ex,d⟩:=S.ob;⟨o,g,ex,d,S.tab,S.pl,S.ld,S.lv⟩
theorem za.fits{w:World}{o:Obj}{es:Array (Int×Value)}{ep:Nat}{t:SetTable}(S:za w o es ep t):t.fits es.size=true:=by
 have h1:=S.lv.le
 have h2:=S.tab.sz
 have h3:=S.tab.dm
 unfold SetTable.fits SetTable.fill
 rw[h3]
 simp only[QH]at h2
 simp[h2]
 omega
section
variable{prog:Program}{w:World}{A:Around}{E:Value->Shared->Prop}{s:Shared}{a:Addr}{es:Array (Int×Value)}{ep:Nat}{t:SetTable}{ps:List (Int×Int)}{o:Obj}
theorem pF{Q:Bool->Shared->Prop}(q:Q (w.params.followText "set-order") s):wpAny (model prog w) A setsByText Q E s:=by
 unfold setsByText
 exact Q2 (wpAny_askSetting (Q8 q))
def SIt(w:World)(h:Heap)(it a:Addr)(i n ep:Nat)(t:SetTable):Prop:=∃o sl,h.get? it=some o/\o.cls=.type "set_iterator"/\o.data=.fields #[rawInt (sl:Nat),rawInt (i:Nat),.ref a,rawInt (n:Nat),rawInt (ep:Nat)]/\(w.params.followText "set-order"=false->SetTable.below t.place sl=i)
theorem SIt.ty{it:Addr}{i n:Nat}(h:SIt w s.heap it a i n ep t):s.TypeIs (.ref it) "set_iterator":=let ⟨o,_,g,c,_⟩:=h;⟨o,g,c⟩
theorem Bh(ho:s.heap.get? a=some o)(S:za w o es ep t){Q:Value->Shared->Prop}(q:∀o,SIt w (s.heap.push o) s.heap.objs.size a 0 es.size ep t->o={ cls:=.type "set_iterator",data:=.fields #[rawInt 0,rawInt 0,.ref a,rawInt (es.size:Nat),rawInt (ep:Nat)] }->Q (.ref s.heap.objs.size) { s with heap:=s.heap.push o }):wpAny (model prog w) A (pyIter (.ref a)) Q E s:=by
 have hd:=S.dt
 have hex:=S.ex
 have T:s.TypeIs (.ref a) "set":=⟨o,ho,hex.1⟩
 refine wpAny_pyIter_slot T PySem.F.slot_set_iter (wpAny_call_entry PySem.F.slot_set_iter T yQ ?_ (PySem.F.args_set_iter_1 _))
 unfold Builtin.«frozenset.__iter__» Builtin.Frozenset.slot0 slotArgs
 refine Q2 (Q2 (Q8 (Q8 ?_)))
 unfold Builtin.Frozenset.sizeOf
 refine Q2 (Q2 (wpAny_setEntries_of ho hd S.fits (Q8 ?_)))
 unfold setDrawn
 refine Q2 (Q2 (wpAny_setState_of ho hd S.fits (Q2 (pF (Q8 ?_)))))
 refine wpAny_ite_split (fun c=>?_) fun _=>?_
 ·have c':(!w.params.followText "set-order"&&(!t.plain&&decide (es.size>1)))=true:=c
  rw[S.pl]at c'
  simp at c'
 refine Q2 (Q8 (Q2 (wpAny_setEpoch_of ho hd S.fits ?_)))
 refine Q2 (wpAny_newObj_type (Q8 ⟨_,rfl,"set_iterator",_,⟨_,QY _ rfl,rfl⟩,iD.lookup,q _ ⟨_,0,QY _ rfl,rfl,rfl,fun _=>lI S.tab.rs⟩ rfl⟩))
theorem SIt.at_{h h':Heap}{it:Addr}{i n:Nat}(x:SIt w h it a i n ep t)(e:∀o,h.get? it=some o->h'.get? it=some o):SIt w h' it a i n ep t:=let ⟨o,sl,g,r⟩:=x;⟨o,sl,e o g,r⟩
theorem qh{it:Addr}{i sl:Nat}(ho:s.heap.get? a=some o)(S:za w o es ep t)(hsl:w.params.followText "set-order"=false->SetTable.below t.place sl=i){Q:Option (Value×Nat)->Shared->Prop}
  (q1:∀e,(yg w a ep es)[i]?=some e->∀sl',(w.params.followText "set-order"=false->SetTable.below t.place sl'=i+1)->Q (some (e.2,sl')) s) (q2:(yg w a ep es)[i]?=none->Q none s):wpAny (model prog w) A (setNext a sl i ep) Q E s:=by
 have hd:=S.dt
 have hex:=S.ex
 unfold setNext
 refine Q2 (wpAny_setState_of ho hd S.fits ?_)
 dsimp only
 refine Q2 (pF ?_)
 unfold yg at q1 q2
 cases hb:w.params.followText "set-order" with
 |true=>
  rw[hb]at q1 q2
  simp only[if_true]at q1 q2 ⊢
  rw[if_neg (by simp)]
  unfold setWalk
  refine Q2 (Q2 (wpAny_setState_of ho hd S.fits ?_))
  dsimp only
  refine Q2 (pF ?_)
  rw[hb]
  simp only[if_true]
  refine Q2 (wpAny_askSetting (Q8 (Q8 ?_)))
  show Q ((pickOrder (w.params.setOrder a ep) es)[i]?.map fun e=>(e.2,sl)) s
  cases hg:(pickOrder (w.params.setOrder a ep) es)[i]? with
  |none=>exact q2 hg
  |some e=>exact q1 e hg sl (fun z=>by cases z)
 |false=>
  rw[hb]at q1 q2
  simp only[Qk,if_false]at q1 q2 ⊢
  refine wpAny_ite_split (fun c=>?_) fun _=>?_
  ·have c':(!t.plain&&decide (es.size>1))=true:=c
   rw[S.pl]at c'
   simp at c'
  refine Q2 ?_
  have hl:t.led=true:=by rw[S.ld,hb];rfl
  show wpAny _ _ (if (!t.led&&!es.isEmpty)=true then unsupported "set:maker-not-led" else pure ()) _ _ _
  rw[hl]
  simp only[Zr,Bool.false_and,Qk,if_false]
  refine Q8 (Q8 ?_)
  rw[hsl hb]
  have sz:=S.tab.sz
  simp only[QH]at sz
  by_cases c:i<es.size
  ·have c2:i<t.place.size:=by omega
   rw[QR c,QR c2]
   exact q1 _ (QR c) _ fun _=>sI S.tab.rs (QR c2)
  ·have h0:es[i]?=none:=Zz (by omega)
   rw[h0]
   exact q2 h0
theorem Bi{it:Addr}{i:Nat}(ho:s.heap.get? a=some o)(S:za w o es ep t)(I:SIt w s.heap it a i es.size ep t)(hi:i<es.size){Q:Option Value->Shared->Prop}
  (q:∀e h',(yg w a ep es)[i]?=some e->SIt w h' it a (i+1) es.size ep t->Ze it s.heap h'->Q (some e.2) { s with heap:=h' }):wpAny (model prog w) A (pyNext (.ref it)) Q E s:=by
 have T:=I.ty
 obtain⟨io,sl,hio,ic,id',hsl⟩:=I
 have hd:=S.dt
 have hex:=S.ex
 unfold pyNext
 refine Q2 (wpAny_attempt (wpAny_callSpecial?_slot (name:=Str.ofString "__next__") T iD (wpAny_call_entry iD T vS ?_ (wG _))))
 unfold Builtin.«set_iterator.__next__» slotArgs
 refine Q2 (Q8 (Q2 (wpAny_fieldsOf hio id' ?_)))
 show wpAny _ _ (setEntries a >>= _) _ _ s
 refine Q2 (wpAny_setEntries_of ho hd S.fits ?_)
 rw[if_neg (by simp)]
 show wpAny _ _ (setNext a (sl:Int).toNat (i:Int).toNat (ep:Int).toNat >>= _) _ _ s
 simp only[Z3]
 refine Q2 (qh (it:=it) ho S hsl (fun e he sl' hsl'=>?_) fun hn=>?_)
 ·dsimp only
  refine Q2 (wpAny_setField hio id' (by simp) ?_)
  have g1:=ZU (Obj.mapFields (·.setIfInBounds 0 (rawInt (sl':Nat)))) hio (Obj.isFreed_of_fields (Obj.data_mapFields id' _))
  have d1:=Obj.data_mapFields id' (·.setIfInBounds 0 (rawInt (sl':Nat)))
  refine Q2 (wpAny_setField (s:={ s with heap:=s.heap.update it (Obj.mapFields (·.setIfInBounds 0 (rawInt (sl':Nat)))) }) g1 d1 (by simp) ?_)
  have g2:=ZU (Obj.mapFields (·.setIfInBounds 1 (rawInt ((i:Int)+1)))) g1 (Obj.isFreed_of_fields (Obj.data_mapFields d1 _))
  have d2:=Obj.data_mapFields d1 (·.setIfInBounds 1 (rawInt ((i:Int)+1)))
  have I2:SIt w ((s.heap.update it (Obj.mapFields (·.setIfInBounds 0 (rawInt (sl':Nat))))).update it (Obj.mapFields (·.setIfInBounds 1 (rawInt ((i:Int)+1))))) it a (i+1) es.size ep t:=by
   refine⟨_,sl',g2,((Obj.cls_mapFields ..).trans (Obj.cls_mapFields ..)).trans ic,?_,hsl'⟩
   rw[d2]
   simp
  exact Q8 ⟨_,rfl,Q8 (q e _ he I2 ((Heap.SameBut.update ..).trans (Heap.SameBut.update ..)))⟩
 ·have:=(gP (w:=w) (a:=a) (ep:=ep) (es:=es)).length_eq
  simp only[QH]at this
  have:=Array.getElem?_eq_none_iff.mp hn
  omega
theorem D4{it:Addr}(hh:A.handled=none)(ho:s.heap.get? a=some o)(S:za w o es ep t)(I:SIt w s.heap it a es.size es.size ep t){Q:Option Value->Shared->Prop}
  (q:∀h',Heap.ExtBut it s.heap h'->Q none { s with heap:=h' }):wpAny (model prog w) A (pyNext (.ref it)) Q E s:=by
 have T:=I.ty
 obtain⟨io,sl,hio,ic,id',hsl⟩:=I
 have hd:=S.dt
 have hex:=S.ex
 unfold pyNext
 refine Q2 (wpAny_attempt (wpAny_callSpecial?_slot (name:=Str.ofString "__next__") T iD (wpAny_call_entry iD T vS ?_ (wG _))))
 unfold Builtin.«set_iterator.__next__» slotArgs
 refine Q2 (Q8 (Q2 (wpAny_fieldsOf hio id' ?_)))
 show wpAny _ _ (setEntries a >>= _) _ _ s
 refine Q2 (wpAny_setEntries_of ho hd S.fits ?_)
 rw[if_neg (by simp)]
 show wpAny _ _ (setNext a (sl:Int).toNat (es.size:Int).toNat (ep:Int).toNat >>= _) _ _ s
 simp only[Z3]
 refine Q2 (qh (it:=it) ho S hsl (fun e he sl' hsl'=>?_) fun hn=>?_)
 ·have:=(gP (w:=w) (a:=a) (ep:=ep) (es:=es)).length_eq
  simp only[QH]at this
  have:=(Zk.mp he).1
  omega
 ·dsimp only
  refine Q2 (wpAny_setField hio id' (by simp) (Q2 ?_))
  unfold newExc newTuple
  refine Q2 (wpAny_newObj_type ?_ (by size_fits))
  refine Q2 (m:=firstArgMember _ _) (wpAny_of_eq (a:=Value.none) (by first|rfl|(simp only[firstArgMember];rfl)) (wpAny_newObj_type ?_ (by size_fits)))
  unfold raiseNew
  refine Q2 (wpAny_handled ?_)
  rw[show A.in1.handled=none from hh]
  refine Q2 (Q8 (wpAny_throw ?_))
  refine Q2 (wpAny_isInstance (T:="StopIteration") (b:=true) ⟨_,QY _ rfl,rfl⟩ isSubtype_stop ?_)
  exact Q8 (q _ (((Heap.SameBut.update ..).extBut.push _).push _))
theorem Bg{it:Addr}{i n:Nat}{Q:Value->Shared->Prop}(I:SIt w s.heap it a i n ep t)(q:Q (.ref it) s):wpAny (model prog w) A (pyIter (.ref it)) Q E s:=by
 refine wpAny_pyIter_slot I.ty uc (wpAny_call_entry uc I.ty CF ?_ (CU _))
 show wpAny _ _ (ret (Value.ref it)) _ _ s
 exact Q8 ⟨_,rfl,"set_iterator",_,I.ty,iD.lookup,q⟩
theorem yG(T:s.TypeIs (.ref a) "set"){Q:Bool->Shared->Prop}(q:Q false s):wpAny (model prog w) A (Builtin.List.listLengthHint (.ref a)) Q E s:=by
 unfold Builtin.List.listLengthHint
 refine Q2 (wpAny_specialOf T PySem.F.slot_set_len.lookup ?_)
 generalize hid:("set.__len__":String)=id0
 wp_delta
 rw[show splitId id0=some ("set","__len__")by subst hid;decide +kernel]
 subst hid
 refine Q2 (wpAny_isInstance (T:="set") (b:=true) T sub_set_self ?_)
 refine wpAny_ite_split (fun c=>absurd c (by decide)) fun _=>wpAny_ite_split (fun _=>Q2 (wpAny_typeOf T (Q8 q))) fun c=>absurd (by decide +kernel) c
theorem Bj(S:za w o es ep t):KdlSrc prog w "set" a a es.size (fun i v=>∃e,(yg w a ep es)[i]?=some e/\v=e.2) (fun h=>h.get? a=some o) where
 type:=fun s g=>⟨o,g,S.ex.1⟩
 there:=fun h g=>⟨QX g,QX g⟩
 keep:=fun h h' g m=>m a (.inl rfl) o g
 notList:=by decide
 notTuple:=by decide
 hint:=fun A E s Q g q=>yG ⟨o,g,S.ex.1⟩ q
 iter:=fun A s hh g=>by
  refine⟨{ cls:=.type "set_iterator",data:=.fields #[rawInt 0,rawInt 0,.ref a,rawInt (es.size:Nat),rawInt (ep:Nat)] },fun i h=>SIt w h s.heap.objs.size a i es.size ep t/\h.get? a=some o,fun E Q q=>Bh g S fun o' _ e=>by rw[e];exact q,?_,⟨⟨_,0,QY _ rfl,rfl,rfl,fun _=>lI S.tab.rs⟩,Q4 _ g⟩⟩
  have ne:a≠s.heap.objs.size:=QC (QX g)
  refine⟨fun b hb=>by simp at hb;simp[hb],fun i h h' st m=>⟨st.1.at_ fun o1 g1=>m _ (by simp) o1 g1,m _ (by simp) o st.2⟩,fun i s' Q E hi st k=>?_,fun s' Q E st k=>?_,fun i s' Q E st q=>Bg st.1 q⟩
  ·refine Bi st.2 S st.1 hi fun e h' he I' sb=>k _ h' _ ⟨e,he,rfl⟩ ⟨I',?_⟩ fun b o' hb g'=>?_
   ·rw[sb.2 a ne];exact st.2
   ·rw[sb.2 b (by simpa using hb)];exact g'
  ·exact D4 hh st.2 S st.1 fun h' eb=>k h' _ fun b o' hb g'=>eb b o' (by simpa using hb) g'
end
theorem rA:bootBuiltins "set"=some (.type "set"):=rfl
theorem x5{h:Heap}{v:Value}{p q:Int×Int}(hp:bF h v p)(hq:bF h v q):p=q:=by
 obtain⟨b,o,t1,t2,e,hx,g1,_,d1⟩:=hp
 obtain⟨b',o',t1',t2',e',hx',g1',_,d1'⟩:=hq
 rw[hx]at hx'
 cases hx'
 rw[g1]at g1'
 cases g1'
 rw[d1]at d1'
 injection d1' with d2 _
 have d3:=congrArg Array.toList d2
 simp only[List.cons.injEq,Value.int.injEq]at d3
 exact Prod.ext d3.1.1 d3.2.1.1
theorem gN:∀{ys:List V} {vs:List Value} {j:Nat} {y:V} {v:Value},a5 ys vs->ys[j]?=some y->vs[j]?=some v->bN y v
 |_,_,0,y,v,.cons r _,h1,h2=>by simp at h1 h2;subst h1;subst h2;exact r
 |_,_,j+1,y,v,.cons _ t,h1,h2=>gN t (by simpa using h1) (by simpa using h2)
 |_,_,j,y,v,.nil,h1,_=>by simp at h1
def D5(w:World)(a:Addr)(es:Array (Int×Value))(ep:Nat)(t:SetTable):HO:=.ext fun h=>∃o,h.get? a=some o/\za w o es ep t
section
variable{K:Q5}{H:Hp}
theorem BF{ys:List V}{ps:List (Int×Int)}{k:Nat}{v:V}:PrL K H ys ps->ys[k]?=some v->∃p a,ps[k]?=some p/\v=.ref a/\SqT K H a [.int p.1,.int p.2]:=fun h g=>by
 induction ys generalizing ps k with
 |nil=>simp at g
 |cons y ys ih=>
  cases ps with
  |nil=>exact h.elim
  |cons p ps=>
   cases k with
   |zero=>
    simp at g
    subst g
    obtain⟨a,e,sq⟩:=h.1
    exact⟨p,a,rfl,e,sq⟩
   |succ k=>simpa using ih h.2 (by simpa using g)
theorem uH{prog:Program}{w:World}{h:Heap}:∀{es:List (Int×Value)} {ps:List (Int×Int)},Els prog w h es ps->(∀e∈es,∃p a,e.2=.ref a/\SqT K H a [.int p.1,.int p.2]/\bF h e.2 p)->∃zs,a5 zs (es.map (·.2))/\PrL K H zs ps
 |[],[],_,_=>⟨[],.nil,trivial⟩
 |e::es,p::ps,k,m=>by
  obtain⟨zs,h1,h2⟩:=uH k.2 fun x hx=>m x (QU _ hx)
  obtain⟨q,a,e1,sq,pa⟩:=m e QK
  have:=x5 k.1.2 pa
  subst this
  exact⟨.ref a::zs,.cons e1 h1,⟨a,rfl,sq⟩,h2⟩
 |[],_::_,k,_=>k.elim
 |_::_,[],k,_=>k.elim
theorem qy{H':Hp}(sm:rF H H'):∀{zs:List V} {ps:List (Int×Int)},PrL K H zs ps->PrL K H' zs ps
 |[],[],_=>trivial
 |_::_,_::_,k=>by
  obtain⟨a,e,sq⟩:=k.1
  refine⟨⟨a,e,?_⟩,qy sm k.2⟩
  rcases sq with sq|sq
  ·rcases sq with sq|⟨o,sq⟩
   ·exact .inl (.inl (sm _ _ sq))
   ·exact .inl (.inr ⟨o,sm _ _ sq⟩)
  ·exact .inr sq
 |[],_::_,k=>k.elim
 |_::_,[],k=>k.elim
theorem xS{vs vs':List Value}(P:vs'.Perm vs):∀{zs:List V} {ps:List (Int×Int)},a5 zs vs->PrL K H zs ps->∃zs' ps',a5 zs' vs'/\PrL K H zs' ps'/\ps'.Perm ps:=by
 induction P with
 |nil=>exact fun{zs ps} a b=>⟨zs,ps,a,b,.refl _⟩
 |cons x _ ih=>
  intro zs ps a b
  cases a with
  |cons r a=>
   cases ps with
   |nil=>exact b.elim
   |cons p ps=>
    obtain⟨zs',ps',h1,h2,h3⟩:=ih a b.2
    exact⟨_::zs',p::ps',.cons r h1,⟨b.1,h2⟩,h3.cons p⟩
 |swap x y l=>
  intro zs ps a b
  cases a with
  |cons r1 a=>
   cases a with
   |cons r2 a=>
    match ps,b with
    |[],b=>exact b.elim
    |[p],b=>exact b.2.elim
    |p::q::ps,b=>exact⟨_::_::_,q::p::ps,.cons r2 (.cons r1 a),⟨b.2.1,b.1,b.2.2⟩,.swap _ _ _⟩
 |trans _ _ ih1 ih2=>
  intro zs ps a b
  obtain⟨zs',ps',h1,h2,h3⟩:=ih2 a b
  obtain⟨zs'',ps'',h4,h5,h6⟩:=ih1 h1 h2
  exact⟨zs'',ps'',h4,h5,h6.trans h3⟩
end
def IW(K:Q5)(w:World):List V->Hp->VK->Prop:=fun xs H Q=>∃(p:Addr) (ys:List V) (ps0:List (Int×Int)),xs=[.ref p]/\SqL K H p ys/\PrL K H ys ps0/\ps0.length<=1200/\
 ∀(l:Addr) (es:Array (Int×Value)) (ep:Nat) (t:SetTable) (zs:List V) (ps:List (Int×Int)),H l=none->a5 zs (es.toList.map (·.2))->PrL K H zs ps->ps.Nodup->(∀y,y∈ps↔y∈ps0)->ps.length<=1200->Q (.ref l) (upd H l (D5 w l es ep t))
theorem Hm{X:Cx}(hc:X.calm=true)(hu:X.A.units+64<cLine):cG X (.type "set") (IW X.K X.w):=by
 rintro pins s σ H xs us Q I r ⟨p,ys,ps0,rfl,hL,hp,hn,q⟩
 obtain⟨u,rfl,ru⟩:=gC r
 cases ru
 obtain⟨its,rv,pl,hz⟩:=I.list hL
 have hlen:=mf hp
 have hpa:=uI I hp rv
 have li:its.length=ps0.length:=eD hpa
 refine lV (show X.A.handled=none from I.ok.hd hc) hu pl.isList hpa (by omega) fun h' tk es ep t ps S oe sz mem old=>?_
 obtain⟨zs,vz,pz⟩:=uH (K:=X.K) (H:=H) S.el fun e he=>by
  obtain⟨j,hj⟩:=oe e he
  have hjl:=(Q6.mp hj).1
  obtain⟨v,hv⟩:∃v,ys[j]?=some v:=⟨ys[j]'(by omega),Q7 _⟩
  obtain⟨p',a,g1,e1,sq⟩:=BF hp hv
  have rel:=gN rv hv hj
  subst e1
  have e2:e.2=.ref a:=rel
  refine⟨p',a,e2,sq,?_⟩
  have pg:=ft hpa (i:=j) (by omega)
  rw[QV,hj,QV,g1]at pg
  obtain⟨b,o,t1,t2,n,x1,x2,x3⟩:=pg
  exact⟨b,o,t1,t2,n,x1,old b o x2,x3⟩
 obtain⟨o,go,so⟩:=S.so
 have hf:=I.hok.fresh (QJ s.heap.objs.size)
 have lp:ps.length<=1200:=by have:=S.el.len;simp only[QH]at this;omega
 exact⟨.ref s.heap.objs.size,_,I.laid (o:=D5 X.w s.heap.objs.size es ep t) (t':=tk) old (QJ _) ⟨⟨o,go,so⟩,⟨o,go⟩,fun h1 h2 ⟨o,g,so⟩ m=>⟨o,m o g,so⟩⟩,rfl,q _ es ep t zs ps hf vz pz S.nd mem lp⟩
theorem y6{ps' ps ps0:List (Int×Int)}{q:Array Nat}(h:Gf ps' q)(p1:ps'.Perm ps)(m:∀y,y∈ps↔y∈ps0):c7 ps0=q.toList.map fun i=>ps'.getD i (0,0):=by
 have e:=wD h
 have:∃L:List (Int×Int),L.Pairwise (fun a b=>ltP a b=true)/\∀x,x∈L↔x∈ps':=by
  refine⟨q.toList.map fun i=>ps'.getD i (0,0),?_,fun x=>?_⟩
  ·refine ZC.mpr (ZR.mpr fun i j hi hj hij=>?_)
   have hq:=h.1.sz
   have:=h.2 i j hij (by simp at hj;omega)
   simpa [Zp,show i<q.size by simpa using hi,show j<q.size by simpa using hj] using this
  ·constructor
   ·intro hx
    obtain⟨i,hi,rfl⟩:=Qa.mp hx
    have hl:=eZ h.1 i hi
    rw[QV,Q7 hl]
    exact Z8 hl
   ·intro hx
    obtain⟨i,hi,rfl⟩:=List.getElem_of_mem hx
    have hp:q.toList.Perm (Qj ps'.length):=by
     refine(List.perm_ext_iff_of_nodup ?_ List.nodup_range).mpr fun a=>⟨fun ha=>Qu.mpr (eZ h.1 a ha),fun ha=>?_⟩
     ·refine ZR.mpr fun a b ha hb hab=>?_
      have hq:=h.1.sz
      have:=h.1.ne' (i:=a) (j:=b) (by simp at ha;omega) (by simp at hb;omega) (by omega)
      simpa [Zp,show a<q.size by simpa using ha,show b<q.size by simpa using hb] using this
     ·have nd:q.toList.Nodup:=by
       refine ZR.mpr fun a b ha hb hab=>?_
       have hq:=h.1.sz
       have:=h.1.ne' (i:=a) (j:=b) (by simp at ha;omega) (by simp at hb;omega) (by omega)
       simpa [Zp,show a<q.size by simpa using ha,show b<q.size by simpa using hb] using this
      refine Classical.byContradiction fun no=>?_
      have:=List.Nodup.length_le_of_subset (ZV.mpr ⟨no,nd⟩) (l₂:=Qj ps'.length) fun b hb=>by
       rcases QM.mp hb with rfl|hb
       ·exact ha
       ·exact Qu.mpr (eZ h.1 b hb)
      rw[QB,Za,QH,h.1.sz]at this
      omega
    refine Qa.mpr ⟨i,hp.mem_iff.mpr (Qu.mpr hi),?_⟩
    rw[QV,Q7 hi]
    rfl
 obtain⟨L,l1,l2⟩:=this
 have e1:=i9 l1 l2
 have e2:c7 ps0=L:=i9 l1 fun x=>(l2 x).trans ((p1.mem_iff).trans (m x))
 rw[e2,<-e1,e]
abbrev Gg(I O p:Addr)(fl:Bool):Obj:={ cls:=.type "zip",dict:=none,data:=.fields #[rawInt (p:Nat),.bool fl,.bool false,.ref I,.ref O],slots:=#[] }
structure ZM(b d:Bool)(h:Heap)(z I O i j a c p:Addr)(fl:Bool)(n:Nat):Prop where
 hz:h.get? z=some (Gg I O p fl)
 hI:IsPair h I (.ref i) (.ref j)
 hO:∃p q,IsPair h O p q
 h1:SI b h i a n
 h2:SI d h j c n
 hp:∃o,h.get? p=some o
 pz:p≠z/\p≠i/\p≠j
section
variable{prog:Program}{w:World}{A:Around}{E:Value->Shared->Prop}{s:Shared}{b d:Bool}{z I O i j a c p:Addr}{fl:Bool}{n:Nat}{xs ys:Array Value}{x y:Value}
theorem rD{a:Addr}{Q:Option Obj->Shared->Prop}(h:Q (s.heap.get? a) s):wpAny (model prog w) A (loadIfAlive a) Q E s:=by
 have k:wpAny (model prog w) A (pure (s.heap.get? a)) Q E s:=Q8 h
 unfold wpAny loadIfAlive at *
 simp only[Sem.wp_loadIfAlive]
 exact k
theorem mz(hz:s.heap.get? z=some (Gg I O p fl))(hp:∃o,s.heap.get? p=some o){Q:Bool->Shared->Prop}(k:∀h',h'.get? z=some (Gg I O p true)->Ze z s.heap h'->Q false { s with heap:=h' }):wpAny (model prog w) A (Builtin.SmallTypes.ownedTupleIsFree (.ref z)) Q E s:=by
 obtain⟨o,ho⟩:=hp
 unfold Builtin.SmallTypes.ownedTupleIsFree
 refine Q2 (Qh hz rfl (x:=rawInt (p:Nat)) rfl ?_)
 show wpAny _ _ (loadIfAlive ((p:Int).toNat) >>= _) _ _ _
 rw[Z3]
 refine Q2 (rD ?_)
 rw[ho]
 simp only[Option.isNone_some,Qk,if_false]
 refine Q2 (Qh hz rfl (x:=.bool fl) rfl ?_)
 cases fl with
 |false=>
  rw[if_pos (by decide)]
  exact Q2 (wpAny_setField_rec hz (by simp) fun h' z1 s1=>Q8 (k h' z1 s1))
 |true=>
  rw[if_neg (by decide)]
  have e:s={ s with heap:=s.heap }:=by cases s;rfl
  rw[e]
  exact Q8 (k s.heap hz (Heap.SameBut.refl _ _))
theorem xc(D:ZA z I O i j a c)(st:ZM b d s.heap z I O i j a c p fl n)(ha:SA b s.heap a xs)(hc:SA d s.heap c ys)(hx:xs[n]?=some x)(hy:ys[n]?=some y){Q:Value->Shared->Prop}
  (k:∀h',ZM b d h' z I O i j a c p true (n+1)->IsPair h' s.heap.objs.size x y->
   (∀e o,e≠z->e≠i->e≠j->s.heap.get? e=some o->h'.get? e=some o)->Q (.ref s.heap.objs.size) { s with heap:=h' }) :
  wpAny (model prog w) A (Builtin.«zip.__next__» ⟨[.ref z],[]⟩) (fun fin s'=>∃v,fin=.done (.ret v)/\Q v s') E s:=by
 obtain⟨hz,hI,hO,h1,h2,hp,pz,pi,pj⟩:=st
 show wpAny _ _ (field (.ref z) 2 >>= _) _ _ _
 refine Q2 (Qh hz rfl (x:=.bool false) rfl ?_)
 show wpAny _ _ (field (.ref z) 3 >>= _) _ _ _
 refine Q2 (Qh hz rfl (x:=.ref I) rfl ?_)
 refine Q2 (wpAny_seqItems hI rfl ?_)
 show wpAny _ _ (Builtin.SmallTypes.ownedTupleIsFree (.ref z) >>= _) _ _ _
 refine Q2 (mz hz hp fun g1 z1 s1=>?_)
 simp only[Qk,if_false]
 refine Q2 ?_
 rw[<-Zf]
 simp only[ZI,ZF]
 refine Q2 (Q2 (wpAny_holding ?_))
 show wpAny _ _ (Builtin.SmallTypes.nextOf (.ref i) >>= _) _ _ _
 refine Q2 (cZ (b:=b) (h1.at_ fun o e=>s1.extBut _ _ D.iz e) (ha.at_ fun o e=>s1.extBut _ _ D.az e) hx fun g2 i2 s2=>Q8 (Q8 ?_))
 have up2:∀e o,e≠z->e≠i->s.heap.get? e=some o->g2.get? e=some o:=fun e o u1 u2 q=>s2.extBut _ _ u2 (s1.extBut _ _ u1 q)
 refine Q2 (Q2 (wpAny_holding ?_))
 show wpAny _ _ (Builtin.SmallTypes.nextOf (.ref j) >>= _) _ _ _
 refine Q2 (cZ (b:=d) (h2.at_ fun o e=>up2 _ _ D.jz D.ij.symm e) (hc.at_ fun o e=>up2 _ _ D.cz D.ci e) hy fun g3 j3 s3=>Q8 (Q8 (Q8 ?_)))
 have up3:∀e o,e≠z->e≠i->e≠j->s.heap.get? e=some o->g3.get? e=some o:=fun e o u1 u2 u3 q=>s3.extBut _ _ u3 (up2 e o u1 u2 q)
 have sz:g3.objs.size=s.heap.objs.size:=by rw[s3.1,s2.1,s1.1]
 dsimp only
 refine Q2 (wpAny_newTuple (Q8 ⟨_,rfl,?_⟩) (show 2<=sizeLine by decide))
 have T:IsPair (g3.push { cls:=.type "tuple",data:=.seq #[x,y] }) g3.objs.size x y:=QY _ rfl
 rw[sz]at T
 show Q (.ref g3.objs.size) _
 rw[sz]
 obtain⟨o,ho⟩:=hp
 refine k _ ⟨Q4 _ (s3.extBut _ _ D.jz.symm (s2.extBut _ _ D.iz.symm z1)),Q4 _ (up3 _ _ D.Iz D.Ii D.Ij hI),let ⟨u,v,q⟩:=hO;⟨u,v,Q4 _ (up3 _ _ D.Oz D.Oi D.Oj q)⟩,i2.at_ fun o e=>Q4 _ (s3.extBut _ _ D.ij e),j3.at_ fun o e=>Q4 _ e,⟨o,Q4 _ (up3 _ _ pz pi pj ho)⟩,pz,pi,pj⟩ T fun e o u1 u2 u3 q=>Q4 _ (up3 e o u1 u2 u3 q)
theorem xa(hh:A.handled=none)(D:ZA z I O i j a c)(st:ZM b d s.heap z I O i j a c p fl n)(ha:SA b s.heap a xs)(hc:SA d s.heap c ys)(hn:xs[n]?=none\/ys[n]?=none){Q:PySem.Fin->Shared->Prop}
  (k:∀h' e,(∀c o,c≠z->c≠i->c≠j->s.heap.get? c=some o->h'.get? c=some o)->(∃o,h'.get? e=some o/\o.cls=.type "StopIteration")->E (.ref e) { s with heap:=h' }) :
  wpAny (model prog w) A (Builtin.«zip.__next__» ⟨[.ref z],[]⟩) Q E s:=by
 obtain⟨hz,hI,hO,h1,h2,hp,pz,pi,pj⟩:=st
 show wpAny _ _ (field (.ref z) 2 >>= _) _ _ _
 refine Q2 (Qh hz rfl (x:=.bool false) rfl ?_)
 show wpAny _ _ (field (.ref z) 3 >>= _) _ _ _
 refine Q2 (Qh hz rfl (x:=.ref I) rfl ?_)
 refine Q2 (wpAny_seqItems hI rfl ?_)
 show wpAny _ _ (Builtin.SmallTypes.ownedTupleIsFree (.ref z) >>= _) _ _ _
 refine Q2 (mz hz hp fun g1 z1 s1=>?_)
 simp only[Qk,if_false]
 refine Q2 ?_
 rw[<-Zf]
 simp only[ZI,ZF]
 refine Q2 (Q2 (wpAny_holding ?_))
 show wpAny _ _ (Builtin.SmallTypes.nextOf (.ref i) >>= _) _ _ _
 cases hx:xs[n]? with
 |none=>
  refine Q2 (bH (b:=b) hh (h1.at_ fun o e=>s1.extBut _ _ D.iz e) (ha.at_ fun o e=>s1.extBut _ _ D.az e) hx fun g2 e s2 he=>?_)
  exact k g2 e (fun c o u1 u2 _ q=>s2 _ _ u2 (s1.extBut _ _ u1 q)) he
 |some x=>
  have hy:ys[n]?=none:=by rcases hn with v|v;rw[hx]at v;cases v;exact v
  refine Q2 (cZ (b:=b) (h1.at_ fun o e=>s1.extBut _ _ D.iz e) (ha.at_ fun o e=>s1.extBut _ _ D.az e) hx fun g2 i2 s2=>Q8 (Q8 ?_))
  have up2:∀e o,e≠z->e≠i->s.heap.get? e=some o->g2.get? e=some o:=fun e o u1 u2 q=>s2.extBut _ _ u2 (s1.extBut _ _ u1 q)
  refine Q2 (Q2 (wpAny_holding ?_))
  show wpAny _ _ (Builtin.SmallTypes.nextOf (.ref j) >>= _) _ _ _
  refine Q2 (bH (b:=d) hh (h2.at_ fun o e=>up2 _ _ D.jz D.ij.symm e) (hc.at_ fun o e=>up2 _ _ D.cz D.ci e) hy fun g3 e s3 he=>?_)
  exact k g3 e (fun c o u1 u2 u3 q=>s3 _ _ u3 (up2 c o u1 u2 q)) he
def ZW(b d:Bool)(h:Heap)(z I O i j a c:Addr)(n:Nat):Prop:=(n=0/\ZSt b d h z I O i j a c .none 0)\/∃p fl,ZM b d h z I O i j a c p fl n
theorem ZW.ty{s:Shared}(st:ZW b d s.heap z I O i j a c n):s.TypeIs (.ref z) "zip":=by
 rcases st with⟨_,st⟩|⟨p,fl,st⟩
 ·exact⟨_,st.hz,rfl⟩
 ·exact⟨_,st.hz,rfl⟩
theorem Ah(D:ZA z I O i j a c)(hlt:z<s.heap.objs.size/\i<s.heap.objs.size/\j<s.heap.objs.size)(st:ZW b d s.heap z I O i j a c n)(ha:SA b s.heap a xs)(hc:SA d s.heap c ys)(hx:xs[n]?=some x)(hy:ys[n]?=some y){Q:Option Value->Shared->Prop}
  (k:∀h',ZW b d h' z I O i j a c (n+1)->IsPair h' s.heap.objs.size x y->
   (∀e o,e≠z->e≠O->e≠i->e≠j->s.heap.get? e=some o->h'.get? e=some o)->Q (some (.ref s.heap.objs.size)) { s with heap:=h' }):wpAny (model prog w) A (pyNext (.ref z)) Q E s:=by
 have ty:=st.ty
 rcases st with⟨rfl,st⟩|⟨p,fl,st⟩
 ·refine xb D st ha hc hx hy fun h' st' T up=>k h' (.inr ⟨s.heap.objs.size,false,st'.hz,st'.hI,st'.hO,st'.h1,st'.h2,⟨_,T⟩,ZS hlt.1,ZS hlt.2.1,ZS hlt.2.2⟩) T up
 ·unfold pyNext
  exact Q2 (wpAny_attempt (wpAny_callSpecial?_slot (name:=Str.ofString "__next__") ty PySem.F.slot_zip_next (wpAny_call_entry PySem.F.slot_zip_next ty PySem.F.entry_zip_next
   (xc D st ha hc hx hy fun h' a1 a2 a3=>Q8 (k h' (.inr ⟨p,true,a1⟩) a2 fun e o u1 _ u3 u4 q=>a3 e o u1 u3 u4 q)) (PySem.F.args_zip_next_1 _))))
theorem C9(hh:A.handled=none)(D:ZA z I O i j a c)(st:ZW b d s.heap z I O i j a c n)(ha:SA b s.heap a xs)(hc:SA d s.heap c ys)(hn:xs[n]?=none\/ys[n]?=none){Q:Option Value->Shared->Prop}
  (k:∀h',(∀c o,c≠z->c≠O->c≠i->c≠j->s.heap.get? c=some o->h'.get? c=some o)->Q none { s with heap:=h' }):wpAny (model prog w) A (pyNext (.ref z)) Q E s:=by
 have ty:=st.ty
 rcases st with⟨rfl,st⟩|⟨p,fl,st⟩
 ·exact An hh D st ha hc hn k
 ·unfold pyNext
  refine Q2 (wpAny_attempt (wpAny_callSpecial?_slot (name:=Str.ofString "__next__") ty PySem.F.slot_zip_next (wpAny_call_entry PySem.F.slot_zip_next ty PySem.F.entry_zip_next
   (xa (show A.in1.handled=none from hh) D st ha hc hn fun h' e up he=>?_) (PySem.F.args_zip_next_1 _))))
  obtain⟨o,ge,ce⟩:=he
  exact Q2 (wpAny_isInstance (T:="StopIteration") (b:=true) ⟨o,ge,ce⟩ isSubtype_stop (Q8 (k h' fun c o u1 _ u3 u4 q=>up c o u1 u3 u4 q)))
end
abbrev lsO(acc:Array Value)(c:Nat):Obj:={ cls:=.type "list",dict:=none,data:=.seq acc c,slots:=#[] }
structure Zd(h0 h:Heap)(xs ys:Array Value)(as:List Addr):Prop where
 pr:∀(k:Nat) (p:Addr),as[k]?=some p->∃x y,IsPair h p x y/\xs[k]?=some x/\ys[k]?=some y
 up:as.Pairwise (· < ·)
 lt:∀p∈as,h0.objs.size<=p
section
variable{prog:Program}{w:World}{A:Around}{E:Value->Shared->Prop}{s:Shared}{b d:Bool}{z I O i j a c S:Addr}{n:Nat}{xs ys:Array Value}
theorem Zd.snoc{h0 h h':Heap}{as:List Addr}{x y:Value}(Z:Zd h0 h xs ys as)(keep:∀p∈as,∀o,h.get? p=some o->h'.get? p=some o)(le:h0.objs.size<=h.objs.size)(T:IsPair h' h.objs.size x y)(hx:xs[as.length]?=some x)(hy:ys[as.length]?=some y):Zd h0 h' xs ys (as++[h.objs.size]):=by
 refine⟨fun k p g=>?_,?_,fun p hp=>?_⟩
 ·rcases ZD k as.length with l|l
  ·rw[QN l]at g
   obtain⟨u,v,t,e⟩:=Z.pr k p g
   exact⟨u,v,keep p (Qo g) _ t,e⟩
  ·rw[Qz l]at g
   have:k-as.length=0:=by
    rcases Nat.eq_zero_or_pos (k-as.length)with z|z
    ·exact z
    ·rw[Z9 (by simp;omega)]at g;cases g
   rw[this]at g
   cases g
   obtain rfl:k=as.length:=by omega
   exact⟨x,y,T,hx,hy⟩
 ·refine List.pairwise_append.mpr ⟨Z.up,List.pairwise_singleton _ _,fun p hp q hq=>?_⟩
  rw[Qn.mp hq]
  obtain⟨k,g⟩:=ZQ hp
  obtain⟨_,_,t,_⟩:=Z.pr k p g
  exact QX t
 ·rcases Qt.mp hp with l|l
  ·exact Z.lt p l
  ·rw[Qn.mp l];exact le
theorem ZW.keep{h h':Heap}(st:ZW b d h z I O i j a c n)(m:∀e o,e≠S->h.get? e=some o->h'.get? e=some o)(ex:∃o,h'.get? S=some o)(ns:∀e∈[z,I,O,i,j],e≠S):ZW b d h' z I O i j a c n:=by
 have k:∀e∈[z,I,O,i,j],∀o,h.get? e=some o->h'.get? e=some o:=fun e he o=>m e o (ns e he)
 rcases st with⟨e,st⟩|⟨p,fl,st⟩
 ·exact .inl ⟨e,st.at_ k⟩
 ·refine .inr ⟨p,fl,k z (by simp) _ st.hz,k I (by simp) _ st.hI,let ⟨u,v,q⟩:=st.hO;⟨u,v,k O (by simp) _ q⟩,st.h1.at_ fun o e=>k i (by simp) o e,st.h2.at_ fun o e=>k j (by simp) o e,?_,st.pz⟩
  obtain⟨o,ho⟩:=st.hp
  by_cases c:p=S
  ·rw[c];exact ex
  ·exact⟨o,m p o c ho⟩
theorem Ak{R:Result->Shared->Prop}{h0:Heap}(hh:A.handled=none)(D:ZA z I O i j a c)(res:Value)(ge:∀e∈[z,I,O,i,j,S],h0.objs.size<=e)(nS:∀e∈[z,I,O,i,j,a,c],e≠S)(hz:xs.size<=9000) :
  ∀(k n:Nat) (s:Shared) (as:List Addr) (cc:Nat),min xs.size ys.size-n=k->n<=min xs.size ys.size->as.length=n->ZW b d s.heap z I O i j a c n->SA b s.heap a xs->SA d s.heap c ys->s.heap.get? S=some (lsO (as.map Value.ref).toArray cc)->Zd h0 s.heap xs ys as->(∀p∈as,p∉[z,O,i,j,S])->(∀e∈[z,I,O,i,j],e<s.heap.objs.size)->(∀e o,h0.get? e=some o->s.heap.get? e=some o)->
  (∀h' as' cc',as'.length=min xs.size ys.size->h'.get? S=some (lsO (as'.map Value.ref).toArray cc')->Zd h0 h' xs ys as'->S∉as'->(∀e o,h0.get? e=some o->h'.get? e=some o)->R (.ok (.ret res)) { s with heap:=h' })->
  codeAny (model prog w) A (.builtin "list.extend.loop" ⟨[.ref S,.ref z,res],[]⟩) R s:=by
 intro k
 induction k with
 |zero=>
  intro n s as cc hk hn la st ha hc hS Z na lt old hR
  have hm:n=min xs.size ys.size:=by omega
  refine codeAny_builtin PySem.F.entry_extend_loop ?_
  rw[Around.under_plainId PySem.F.plain_extend_loop _]
  change wpAny _ A.in1 (pyNext (.ref z) >>= _) _ _ s
  have hend:xs[n]?=none\/ys[n]?=none:=by
   rcases Nat.le_total xs.size ys.size with l|l
   ·exact .inl (Zz (by rw[Nat.min_eq_left l]at hm;omega))
   ·exact .inr (Zz (by rw[Nat.min_eq_right l]at hm;omega))
  refine Q2 (C9 (show A.in1.handled=none from hh) D st ha hc hend fun h' up=>Q8 ?_)
  have up':∀e o,e∉[z,O,i,j]->s.heap.get? e=some o->h'.get? e=some o:=fun e o ne g=>by
   simp only[QM,Z5,or_false,not_or]at ne
   exact up e o ne.1 ne.2.1 ne.2.2.1 ne.2.2.2 g
  refine hR h' as cc (by rw[la,hm]) (up' S _ (fun z'=>nS S (by simp at z' ⊢;rcases z' with r|r|r|r<;>simp[r]) rfl) hS) ⟨fun q p g=>?_,Z.up,Z.lt⟩ (fun z'=>na S z' (by simp)) fun e o g=>up' e o (fun z'=>?_) (old e o g)
  ·obtain⟨x,y,t,r⟩:=Z.pr q p g
   exact⟨x,y,up' p _ (fun z'=>na p (Qo g) (by simp at z' ⊢;rcases z' with r|r|r|r<;>simp[r])) t,r⟩
  ·have:=ge e (by simp at z' ⊢;rcases z' with r|r|r|r<;>simp[r])
   exact absurd (QX g) (Zj.mpr this)
 |succ k ih=>
  intro n s as cc hk hn la st ha hc hS Z na lt old hR
  have l1:n<xs.size:=by omega
  have l2:n<ys.size:=by omega
  refine codeAny_builtin PySem.F.entry_extend_loop ?_
  rw[Around.under_plainId PySem.F.plain_extend_loop _]
  change wpAny _ A.in1 (pyNext (.ref z) >>= _) _ _ s
  refine Q2 (Ah D ⟨lt z (by simp),lt i (by simp),lt j (by simp)⟩ st ha hc (QR l1) (QR l2) fun h' st' T up=>?_)
  have up':∀e o,e∉[z,O,i,j]->s.heap.get? e=some o->h'.get? e=some o:=fun e o ne g=>by
   simp only[QM,Z5,or_false,not_or]at ne
   exact up e o ne.1 ne.2.1 ne.2.2.1 ne.2.2.2 g
  have m4:∀{e:Addr},e∈[z,O,i,j]->e∈[z,O,i,j,S]:=fun{e} z'=>by simp at z' ⊢;rcases z' with r|r|r|r<;>simp[r]
  have m5:∀{e:Addr},e∈[z,O,i,j]->e∈[z,I,O,i,j]:=fun{e} z'=>by simp at z' ⊢;rcases z' with r|r|r|r<;>simp[r]
  have m6:∀{e:Addr},e∈[z,I,O,i,j]->e∈[z,I,O,i,j,S]:=fun{e} z'=>by simp at z' ⊢;rcases z' with r|r|r|r|r<;>simp[r]
  have m7:∀{e:Addr},e∈[z,I,O,i,j]->e∈[z,I,O,i,j,a,c]:=fun{e} z'=>by simp at z' ⊢;rcases z' with r|r|r|r|r<;>simp[r]
  have le0:h0.objs.size<=s.heap.objs.size:=Nat.le_of_lt (Zg (ge z (by simp)) (lt z (by simp)))
  have hS':h'.get? S=some (lsO (as.map Value.ref).toArray cc):=up' S _ (fun z'=>nS S (m7 (m5 z')) rfl) hS
  have nTS:s.heap.objs.size≠S:=ZS (QX hS)
  have Z1:=Z.snoc (fun p hp o g=>up' p o (fun z'=>na p hp (m4 z')) g) le0 T (by rw[la];exact QR l1) (by rw[la];exact QR l2)
  change wpAny _ A.in1 (updateSeq S (·.push (Value.ref s.heap.objs.size)) >>= _) _ _ _
  refine Q2 (wpAny_updateSeq hS' rfl ?_ (by simp;unfold sizeLine;omega) (by simp;unfold sizeLine;omega))
  have oth:∀e o,e≠S->h'.get? e=some o->(h'.update S (Obj.mapSeq (·.push (Value.ref s.heap.objs.size)))).get? e=some o:=fun e o ne g=>(Zq _ _ (Ne.symm ne)).trans g
  obtain⟨cc',gS3⟩:∃cc',(h'.update S (Obj.mapSeq (·.push (Value.ref s.heap.objs.size)))).get? S=some (lsO ((as++[s.heap.objs.size]).map Value.ref).toArray cc'):=by
   have e:((as++[s.heap.objs.size]).map Value.ref).toArray=(as.map Value.ref).toArray.push (Value.ref s.heap.objs.size):=by rw[Qe,List.map_singleton,<-List.push_toArray]
   rw[e]
   exact⟨_,get?_update_seq hS' (·.push (Value.ref s.heap.objs.size))⟩
  have keepS:∀p∈as++[s.heap.objs.size],p≠S:=fun p hp=>by
   rcases Qt.mp hp with l|l
   ·exact fun e=>na p l (by simp[e])
   ·rw[Qn.mp l];exact nTS
  refine Q8 ⟨plainId_quiet PySem.F.plain_extend_loop _,ih (n+1) _ (as++[s.heap.objs.size]) cc' (by omega) (by omega) (by rw[QQ,la];rfl) (st'.keep (S:=S) oth ⟨_,gS3⟩ fun e he=>nS e (m7 he)) (ha.at_ fun o g=>oth a o (nS a (by simp)) (up a o D.az D.aO D.ai D.aj g)) (hc.at_ fun o g=>oth c o (nS c (by simp)) (up c o D.cz D.cO D.ci D.cj g)) gS3 ⟨fun q p g=>?_,Z1.up,Z1.lt⟩ (fun p hp=>?_) (fun e he=>?_) (fun e o g=>oth e o ?_ (up' e o (fun z'=>absurd (QX g) (Zj.mpr (ge e (m6 (m5 z'))))) (old e o g))) hR⟩
  ·obtain⟨x,y,t,r⟩:=Z1.pr q p g
   exact⟨x,y,oth p _ (keepS p (Qo g)) t,r⟩
  ·rcases Qt.mp hp with l|l
   ·exact na p l
   ·rw[Qn.mp l]
    intro z'
    have:s.heap.objs.size∈[z,I,O,i,j]\/s.heap.objs.size=S:=by simp at z' ⊢;rcases z' with r|r|r|r|r<;>simp[r]
    rcases this with r|r
    ·exact Nat.lt_irrefl _ (lt _ r)
    ·exact nTS r
  ·rw[Heap.size_update]
   have T':s.heap.objs.size<h'.objs.size:=QX T
   exact Nat.lt_trans (lt e he) T'
  ·exact fun z'=>absurd (QX g) (Zj.mpr (ge e (by simp[z'])))
end
theorem sT:typeLookup (.type "zip") "__len__"=pure none:=by rw[typeLookup_type,builtinLookup_eq_fast];kernel_rfl
theorem rH:typeLookup (.type "zip") "__length_hint__"=pure none:=by rw[typeLookup_type,builtinLookup_eq_fast];kernel_rfl
section
variable{prog:Program}{w:World}{A:Around}{E:Value->Shared->Prop}{s:Shared}{b d:Bool}{z I O i j a c S:Addr}{n:Nat}{xs ys:Array Value}
theorem CD{R:Result->Shared->Prop}{h0:Heap}(hh:A.handled=none)(D:ZA z I O i j a c)(res:Value)(ge:∀e∈[z,I,O,i,j,S],h0.objs.size<=e)(nS:∀e∈[z,I,O,i,j,a,c],e≠S)(hz:xs.size<=9000){cc:Nat}
  (st:ZSt b d s.heap z I O i j a c .none 0) (ha:SA b s.heap a xs) (hc:SA d s.heap c ys) (hS:s.heap.get? S=some (lsO #[] cc)) (lt:∀e∈[z,I,O,i,j],e<s.heap.objs.size) (old:∀e o,h0.get? e=some o->s.heap.get? e=some o)
  (hR:∀h' as' cc',as'.length=min xs.size ys.size->h'.get? S=some (lsO (as'.map Value.ref).toArray cc')->Zd h0 h' xs ys as'->S∉as'->(∀e o,h0.get? e=some o->h'.get? e=some o)->R (.ok (.ret res)) { s with heap:=h' }) :
  wpAny (model prog w) A.in1 (Builtin.List.listExtendWith (.ref S) (.ref z) res)
   (fun fin s'=>match fin with|.done f=>R (.ok f) s'|.again c'=>c'.quiet=true/\codeAny (model prog w) A c' R s') (fun e s'=>R (.error e) s') s:=by
 have T:s.TypeIs (.ref z) "zip":=⟨_,st.hz,rfl⟩
 unfold Builtin.List.listExtendWith
 refine Q2 (wpAny_typeOf T ?_)
 have x1:Builtin.List.listSameRef (.ref S) (.ref z)=false:=by simp[Builtin.List.listSameRef];exact fun e=>nS z (by simp) e.symm
 have x2:(Value.type "zip" == Value.type "list")=false:=by decide
 have x3:(Value.type "zip" == Value.type "tuple")=false:=by decide
 simp only[x1,x2,x3,Bool.or_false,Qk,if_false]
 refine Q2 (wpAny_pyIter_zip st.hz ?_)
 refine Q2 (wpAny_holding ?_)
 unfold Builtin.List.listLengthHint
 refine Q2 (wpAny_specialOf T sT ?_)
 change wpAny _ A.in1 (specialOf (Value.ref z) (Str.ofString "__length_hint__") >>= _) _ _ _
 refine Q2 (wpAny_specialOf T rH (Q8 ?_))
 rw[Bool.true_or,if_pos rfl]
 refine Q2 (wpAny_rule (Q2 ?_))
 change wpAny _ A.in1 (updateSeq S (·.push Value.none) >>= fun _=>updateSeq S (·.pop)) _ _ _
 refine Q2 (wpAny_updateSeq hS rfl ?_)
 have g1:=get?_update_seq hS (·.push Value.none)
 refine wpAny_updateSeq (hz:=by seq_fits) g1 rfl ?_
 have g2:=get?_update_seq g1 (·.pop)
 have oth:∀e o,e≠S->s.heap.get? e=some o->((s.heap.update S (Obj.mapSeq (·.push Value.none))).update S (Obj.mapSeq (·.pop))).get? e=some o:=fun e o ne g=>(Zq _ _ (Ne.symm ne)).trans ((Zq _ _ (Ne.symm ne)).trans g)
 have m7:∀{e:Addr},e∈[z,I,O,i,j]->e∈[z,I,O,i,j,a,c]:=fun{e} z'=>by simp at z' ⊢;rcases z' with r|r|r|r|r<;>simp[r]
 refine Q8 ⟨plainId_quiet PySem.F.plain_extend_loop _,Ak hh D res ge nS hz (min xs.size ys.size-0) 0 _ [] _ (by omega) (Qs _) rfl (.inl ⟨rfl,st.at_ fun e he o g=>oth e o (nS e (m7 he)) g⟩) (ha.at_ fun o g=>oth a o (nS a (by simp)) g) (hc.at_ fun o g=>oth c o (nS c (by simp)) g) g2 ⟨fun k p g=>by simp at g,.nil,fun p hp=>by cases hp⟩ (fun p hp=>by cases hp) (fun e he=>?_) (fun e o g=>oth e o (fun z'=>absurd (QX g) (Zj.mpr (ge e (by simp[z'])))) (old e o g)) hR⟩
 rw[Heap.size_update,Heap.size_update]
 exact lt e he
theorem yF{R:Result->Shared->Prop}{h0:Heap}(hh:A.handled=none)(D:ZA z I O i j a c)(ge:∀e∈[z,I,O,i,j,S],h0.objs.size<=e)(nS:∀e∈[z,I,O,i,j,a,c],e≠S)(hz:xs.size<=9000)
  (st:ZSt b d s.heap z I O i j a c .none 0) (ha:SA b s.heap a xs) (hc:SA d s.heap c ys) (hS:s.heap.get? S=some (lsO #[] 0)) (lt:∀e∈[z,I,O,i,j],e<s.heap.objs.size) (old:∀e o,h0.get? e=some o->s.heap.get? e=some o)
  (hR:∀h' as' cc',as'.length=min xs.size ys.size->h'.get? S=some (lsO (as'.map Value.ref).toArray cc')->Zd h0 h' xs ys as'->S∉as'->(∀e o,h0.get? e=some o->h'.get? e=some o)->R (.ok (.ret .none)) { s with heap:=h' }) :
  wpAny (model prog w) A.in1 (Builtin.«list.__init__» ⟨[.ref S,.ref z],[]⟩)
   (fun fin s'=>match fin with|.done f=>R (.ok f) s'|.again c'=>c'.quiet=true/\codeAny (model prog w) A c' R s') (fun e s'=>R (.error e) s') s:=by
 change wpAny _ A.in1 (Builtin.List.listItems (.ref S) >>= fun old=>Builtin.List.listUpdate (.ref S) (fun _=>#[]) >>= fun _=>letGo old.toList.reverse >>= fun _=>Builtin.List.listExtendWith (.ref S) (.ref z) .none) _ _ s
 refine Q2 ?_
 unfold Builtin.List.listItems
 refine Q2 (wpAny_seqItems hS rfl (Q8 ?_))
 change wpAny _ A.in1 (updateSeq S (fun _=>#[]) >>= _) _ _ s
 refine Q2 (wpAny_updateSeq hS rfl (Q2 (wpAny_letGo ?_)))
 have g1:=get?_update_seq hS (fun _=>(#[]:Array Value))
 have oth:∀e o,e≠S->s.heap.get? e=some o->(s.heap.update S (Obj.mapSeq (fun _=>(#[]:Array Value)))).get? e=some o:=fun e o ne g=>(Zq _ _ (Ne.symm ne)).trans g
 have m7:∀{e:Addr},e∈[z,I,O,i,j]->e∈[z,I,O,i,j,a,c]:=fun{e} z'=>by simp at z' ⊢;rcases z' with r|r|r|r|r<;>simp[r]
 refine CD hh D .none ge nS hz (st.at_ fun e he o g=>oth e o (nS e (m7 he)) g) (ha.at_ fun o g=>oth a o (nS a (by simp)) g) (hc.at_ fun o g=>oth c o (nS c (by simp)) g) g1 (fun e he=>?_) (fun e o g=>oth e o (fun z'=>absurd (QX g) (Zj.mpr (ge e (by simp[z'])))) (old e o g)) hR
 rw[Heap.size_update]
 exact lt e he
theorem yw{Q:Value->Shared->Prop}{h0:Heap}(hh:A.handled=none)(D:ZA z I O i j a c)(ge:∀e∈[z,I,O,i,j],h0.objs.size<=e)(hz:xs.size<=9000)
  (st:ZSt b d s.heap z I O i j a c .none 0) (ha:SA b s.heap a xs) (hc:SA d s.heap c ys) (old:∀e o,h0.get? e=some o->s.heap.get? e=some o)
  (q:∀h' as cc,as.length=min xs.size ys.size->h'.get? s.heap.objs.size=some (lsO (as.map Value.ref).toArray cc)->Zd h0 h' xs ys as->s.heap.objs.size∉as->(∀e o,h0.get? e=some o->h'.get? e=some o)->Q (.ref s.heap.objs.size) { s with heap:=h' }) :
  wpAny (model prog w) A (call (.type "list") [.ref z]) Q E s:=by
 have lt:∀e∈[z,I,O,i,j],e<s.heap.objs.size:=fun e he=>by
  obtain⟨hz,hI,⟨p,q,hO⟩,h1',h2'⟩:=st
  simp only[QM,Z5,or_false]at he
  rcases he with rfl|rfl|rfl|rfl|rfl
  ·exact QX hz
  ·exact QX hI
  ·exact QX hO
  ·obtain⟨o,e,_⟩:=h1'.obj;exact QX e
  ·obtain⟨o,e,_⟩:=h2'.obj;exact QX e
 refine callType_codes (Q₁:=fun v s1=>v=.ref s.heap.objs.size/\s1={ s with heap:=s.heap.push (lsO #[] 0) }) PySem.F.called_list (PySem.F.typeCall_list_1 _) PySem.F.entry_list_init (code_list_new _ ⟨rfl,rfl⟩) fun v s1 hv=>?_
 obtain⟨rfl,rfl⟩:=hv
 have gS:(s.heap.push (lsO #[] 0)).get? s.heap.objs.size=some (lsO #[] 0):=QY _ rfl
 have zle:h0.objs.size<=s.heap.objs.size:=Nat.le_of_lt (Zg (ge z (by simp)) (lt z (by simp)))
 refine⟨⟨_,gS,rfl⟩,PySem.F.args_list_init_2 _ _,yF (s:={ s with heap:=s.heap.push (lsO #[] 0) }) hh D (fun e he=>?_) (fun e he=>?_) hz (st.at_ fun e he o g=>Q4 _ g) (ha.at_ fun o g=>Q4 _ g) (hc.at_ fun o g=>Q4 _ g) gS (fun e he=>?_) (fun e o g=>Q4 _ (old e o g)) fun h' as cc la gl Z ns od=>⟨rfl,q h' as cc la gl Z ns od⟩⟩
 ·have:e∈[z,I,O,i,j]\/e=s.heap.objs.size:=by simp at he ⊢;rcases he with r|r|r|r|r|r<;>simp[r]
  rcases this with r|r
  ·exact ge e r
  ·rw[r];exact zle
 ·have:e∈[z,I,O,i,j]\/e=a\/e=c:=by simp at he ⊢;rcases he with r|r|r|r|r|r|r<;>simp[r]
  rcases this with r|r|r
  ·exact QC (lt e r)
  ·rw[r];exact QC ha.lt
  ·rw[r];exact QC hc.lt
 ·rw[Z7]
  exact ZJ (lt e he)
end
def yy(H:Hp)(zs:List (Addr×(V×V))):Hp:=fun b=>match zs.find? (fun z=>decide (z.1=b))with
 |some z=>some (.tup [z.2.1,z.2.2])
 |none=>H b
theorem Cg{H:Hp}{zs:List (Addr×(V×V))}{z:Addr×(V×V)}(nd:(zs.map (·.1)).Nodup)(h:z∈zs):yy H zs z.1=some (.tup [z.2.1,z.2.2]):=by
 unfold yy
 have hf:zs.find? (fun y=>decide (y.1=z.1))=some z:=by
  induction zs with
  |nil=>cases h
  |cons y r ih=>
   rw[Qx,ZV]at nd
   rw[ZK]
   rcases QM.mp h with e|hm
   ·subst e;simp
   ·have:y.1≠z.1:=fun e=>nd.1 (Qa.mpr ⟨z,hm,e.symm⟩)
    rw[decide_eq_false this]
    exact ih nd.2 hm
 rw[hf]
theorem vo{H:Hp}{zs:List (Addr×(V×V))}{b:Addr}{u:HO}(h:yy H zs b=some u):(∃z∈zs,z.1=b/\u=.tup [z.2.1,z.2.2])\/((∀z∈zs,z.1≠b)/\H b=some u):=by
 unfold yy at h
 split at h
 ·rename_i z hz
  have h1:=List.mem_of_find?_eq_some hz
  have h2:=List.find?_some hz
  injection h with h
  exact .inl ⟨z,h1,of_decide_eq_true h2,h.symm⟩
 ·rename_i hz
  exact .inr ⟨fun z hm e=>by have:=List.find?_eq_none.mp hz z hm;simp[e]at this,h⟩
theorem o5{H:Hp}{zs:List (Addr×(V×V))}{b:Addr}(h:∀z∈zs,z.1≠b):yy H zs b=H b:=by
 unfold yy
 rw[List.find?_eq_none.mpr fun z hz=>by simpa using h z hz]
def tLZ(K:Q5)(ta:TA):TE:=fun σ H Q=>ta σ H fun vs H2=>∃(b d:Bool) (a c:Addr) (xs ys:List V),vs=[.ref a,.ref c]/\Sq K b H2 a xs/\Sq K d H2 c ys/\xs.length<=9000/\
 ∀(as:List Addr) (l:Addr) (H3:Hp),rF H2 H3->H3 l=none->as.length=min xs.length ys.length->(∀(k:Nat) (p:Addr),as[k]?=some p->∃x y,xs[k]?=some x/\ys[k]?=some y/\H3 p=some (.tup [x,y]))->Q (.ref l) (upd H3 l (.lst (as.map V.ref)))
section
variable{X:Cx}{pos pos2:Pos}
theorem oQ{p p2:Pos}{a c:Expr}{ta:TA}(hcm:X.calm=true)(hgL:L2.Gl X "list")(hmL:X.mg "list"=none)(hg:L2.Gl X "zip")(hm:X.mg "zip"=none)(ha:WA X [a,c] ta)
  (hs:starEach [a,c] X.env=(false,eval a X.env)::starEach [c] X.env:=by rfl) (hpl:(backTo pos2 (starEach [c] X.env)).any (·.1)=false:=by rfl)
  (he:starEach [.Call (.Name "zip" p2) [a,c] [] pos2] X.env=(false,eval (.Call (.Name "zip" p2) [a,c] [] pos2) X.env)::starEach [] X.env:=by rfl) (hpl2:(backTo pos (starEach [] X.env)).any (·.1)=false:=by rfl) :
  WE X (.Call (.Name "list" p) [.Call (.Name "zip" p2) [a,c] [] pos2] [] pos) (tLZ X.K ta):=by
 constructor
 intro pins s σ H Q I h
 refine wpAny_Call_Name_kw (gY I hgL hmL OG.dQ ?_)
 refine PyProof.Rows.callWith_type1 ?_ he hpl2
 rw[he]
 show wpAny _ _ (spliced ((false,eval _ X.env)::backTo pos (starEach [] X.env))) _ _ s
 refine Calls.spliced_cons ?_
 refine wpAny_Call_Name_kw (gY I hg hm OP.rz ?_)
 refine PyProof.Rows.callWith_type1 (thn (ha.h pos2 pins s σ H _ I h) fun us s1 hz=>?_) hs hpl
 obtain⟨vs,H1,I1,r1,q1⟩:=hz
 obtain⟨b,d,aa,cc,xs,ys,rfl,qa,qc,hxl,q⟩:=q1
 obtain⟨u,v,rfl,ru,rv⟩:=rP r1
 cases ru
 cases rv
 obtain⟨ia,ra,sa⟩:=I1.sq qa
 obtain⟨ic,rc,sc⟩:=I1.sq qc
 have la:=ra.length
 have lc:=rc.length
 refine pN sa sc fun h1 z II O i j D st hi up=>?_
 refine Calls.spliced_nil ?_
 refine yw (s:={ s1 with heap:=h1 }) (h0:=s1.heap) (I1.ok.hd hcm) D hi (by simp;omega) st (sa.at_ fun o g=>up _ _ g) (sc.at_ fun o g=>up _ _ g) up fun h' as c' las gl Z ns old=>?_
 have las':as.length=min xs.length ys.length:=by rw[las];simp;omega
 have vp:∀(k:Nat) (p:Addr),as[k]?=some p->∃x y x' y',xs[k]?=some x/\ys[k]?=some y/\bN x x'/\bN y y'/\IsPair h' p x' y':=fun k p g=>by
  obtain⟨x',y',T,e1,e2⟩:=Z.pr k p g
  have lk:k<as.length:=(Q6.mp g).1
  obtain⟨x,hx⟩:∃x,xs[k]?=some x:=⟨xs[k]'(by omega),Q7 _⟩
  obtain⟨y,hy⟩:∃y,ys[k]?=some y:=⟨ys[k]'(by omega),Q7 _⟩
  exact⟨x,y,x',y',hx,hy,gN ra hx (by simpa using e1),gN rc hy (by simpa using e2),T⟩
 obtain⟨zs,hzs⟩:∃zs,zs=as.zip (xs.zip ys):=⟨_,rfl⟩
 have lxy:(xs.zip ys).length=as.length:=by rw[List.length_zip,las']
 have z1:zs.map (·.1)=as:=by rw[hzs];exact List.map_fst_zip (by omega)
 have zat:∀(k:Nat) (p:Addr) (x y:V),as[k]?=some p->xs[k]?=some x->ys[k]?=some y->(p,(x,y))∈zs:=fun k p x y g gx gy=>by
  refine Qo (i:=k) ?_
  rw[hzs,Ql,Ql]
  exact⟨g,gx,gy⟩
 have zin:∀z∈zs,∃k:Nat,as[k]?=some z.1/\xs[k]?=some z.2.1/\ys[k]?=some z.2.2:=fun z hz=>by
  obtain⟨k,g⟩:=ZQ hz
  rw[hzs,Ql,Ql]at g
  exact⟨k,g⟩
 have nda:as.Nodup:=Z.up.imp fun h=>QC h
 have ndz:(zs.map (·.1)).Nodup:=by rw[z1];exact nda
 have nob:∀b,b<s1.heap.objs.size->∀z∈zs,z.1≠b:=fun b hb z hz e=>by
  have hm:z.1∈as:=by rw[<-z1];exact Qa.mpr ⟨z,hz,rfl⟩
  have:=Z.lt _ hm
  rw[e]at this
  exact absurd hb (Zj.mpr this)
 have lge:s1.heap.objs.size<=h1.objs.size:=Nat.le_of_lt (Zg (hi z (by simp)) (QX st.hz))
 have nl:∀z∈zs,z.1≠h1.objs.size:=fun z hz e=>ns (by show h1.objs.size∈as;rw[<-e,<-z1];exact Qa.mpr ⟨z,hz,rfl⟩)
 have sm:rF H1 (yy H1 zs):=fun b o hb=>by
  rw[o5 (nob b (Nat.lt_of_not_le fun z'=>by rw[I1.hok.fresh z']at hb;cases hb))]
  exact hb
 have hl0:yy H1 zs h1.objs.size=none:=by rw[o5 nl];exact I1.hok.fresh lge
 have I3:Inv X pins σ (upd (yy H1 zs) h1.objs.size (.lst (as.map V.ref))) { s1 with heap:=h',toks:=s1.toks }:=wQ I1 old (fun b hb=>by
   rw[aV (QC (Qq hb lge)),o5 (nob b hb)]) fun b u hb hu=>by
  by_cases c1:b=h1.objs.size
  ·subst c1
   rw[aJ]at hu
   cases hu
   exact⟨by rw[QZ,las'];unfold sizeLine;omega,as.map Value.ref,c',lP as,gl⟩
  ·rw[aV c1]at hu
   rcases vo hu with⟨z',hz',e1,e2⟩|⟨_,e2⟩
   ·subst e1
    subst e2
    obtain⟨k,k1,k2,k3⟩:=zin z' hz'
    obtain⟨x,y,x',y',w1,w2,w3,w4,w5⟩:=vp k _ k1
    rw[k2]at w1
    rw[k3]at w2
    cases w1
    cases w2
    exact qA w5 w3 w4
   ·rw[I1.hok.fresh hb]at e2
    cases e2
 refine⟨.ref h1.objs.size,_,I3,rfl,q as h1.objs.size _ sm hl0 las' fun k p g=>?_⟩
 obtain⟨x,y,x',y',w1,w2,_⟩:=vp k p g
 exact⟨x,y,w1,w2,Cg ndz (zat k p x y g w1 w2)⟩
def hE(ca cb:CE):CE:=fun ρ S=>(ca ρ S).bind fun p=>(cb ρ p.2).bind fun q=>(sN p.1 q.2).bind fun x=>(sN q.1 q.2).bind fun y=>if x.1.length<=9000 then some (.ref q.2.length,q.2++[.lst (jH x.1 y.1)])else none
theorem ue{u:U}{S:Sto}{us:List U}{ok:Sto->Prop}(h:sN u S=some (us,ok)):ok S:=by
 cases u with
 |tup ws=>cases h;trivial
 |ref l=>
  simp only[sN]at h
  split at h<;>try cases h
  assumption
 |_=>simp[sN]at h
theorem zL{K:Q5}{m:List Addr}{H:Hp}:∀{as:List Addr} {us:List U},as.length=us.length->(∀(k:Nat) (p:Addr) (u:U),as[k]?=some p->us[k]?=some u->Is K m H (.ref p) u)->IsL K m H (as.map V.ref) us
 |[],[],_,_=>.nil_
 |a::as,u::us,hl,h=>.cons_ (h 0 a u rfl rfl) (zL (by simpa using hl) fun k p u g1 g2=>h (k+1) p u (by simpa using g1) (by simpa using g2))
 |[],_::_,hl,_=>by simp at hl
 |_::_,[],hl,_=>by simp at hl
theorem uA{p p2:Pos}{a c:Expr}{ca cc:CE}(hcm:X.calm=true)(hgL:L2.Gl X "list")(hmL:X.mg "list"=none)(hg:L2.Gl X "zip")(hm:X.mg "zip"=none)(ha:QE X a ca)(hc:QE X c cc)
  (hs:starEach [a,c] X.env=(false,eval a X.env)::starEach [c] X.env:=by rfl) (hs2:starEach [c] X.env=(false,eval c X.env)::starEach [] X.env:=by rfl) (hpl:(backTo pos2 (starEach [c] X.env)).any (·.1)=false:=by rfl)
  (he:starEach [.Call (.Name "zip" p2) [a,c] [] pos2] X.env=(false,eval (.Call (.Name "zip" p2) [a,c] [] pos2) X.env)::starEach [] X.env:=by rfl) (hpl2:(backTo pos (starEach [] X.env)).any (·.1)=false:=by rfl) :
  QE X (.Call (.Name "list" p) [.Call (.Name "zip" p2) [a,c] [] pos2] [] pos) (hE ca cc):=
 (oQ hcm hgL hmL hg hm (cy ha (cy hc fg hs2) hs) hs hpl he hpl2).imp fun σ H Q hz=>ie hz fun m ρ S u S' sr lr h post=>by
  obtain⟨⟨x,S1⟩,h1,h⟩:=Q3.mp h
  obtain⟨⟨y,S2⟩,h2,h⟩:=Q3.mp h
  obtain⟨⟨us,ok1⟩,h3,h⟩:=Q3.mp h
  obtain⟨⟨ws,ok2⟩,h4,h⟩:=Q3.mp h
  split at h<;>try cases h
  have hl:us.length<=9000:=by assumption
  refine⟨m,ρ,S,x,S1,sr,lr,h1,fun m1 v1 H1 e1 sr1 i1=>⟨m1,ρ,S1,y,_,sr1,lr.mono e1,h2,fun m2 v2 H2 e2 sr2 i2=>?_⟩⟩
  obtain⟨b,aa,rfl,q1,k1⟩:=qi sr2 (i1.mono e2) h3
  obtain⟨d,bb,rfl,q2,k2⟩:=qi sr2 i2 h4
  obtain⟨vs,sq1,l1⟩:=k1 m2 S2 H2 (.of (cE (rF.refl _))) sr2 (ue h3)
  obtain⟨wv,sq2,l2⟩:=k2 m2 S2 H2 (.of (cE (rF.refl _))) sr2 (ue h4)
  have n1:=l1.length
  have n2:=l2.length
  refine⟨b,d,aa,bb,vs,wv,rfl,sq1,sq2,by omega,fun as l H3 sm hl0 las hp=>?_⟩
  have ee:Ext X.K m2 H2 m2 H3:=.of (cE sm)
  have il:IsL X.K m2 H3 (as.map V.ref) (jH us ws):=zL (by simp[jH];omega) fun k p u g1 g2=>by
   simp only[jH,Qv,Qm]at g2
   obtain⟨⟨u1,u2⟩,hz,rfl⟩:=g2
   obtain⟨gu,gw⟩:=Ql.mp hz
   obtain⟨vp,ep,ip⟩:=l1.getD gu
   obtain⟨vq,eq,iq⟩:=l2.getD gw
   obtain⟨x',y',w1,w2,w3⟩:=hp k p g1
   rw[ep]at w1;cases w1
   rw[eq]at w2;cases w2
   exact .tup_ (SqT.of w3) (.cons_ (ip.mono ee) (.cons_ (iq.mono ee) .nil_))
  exact bP (sr2.same sm) il (post.mono (e1.trans (e2.trans ee))) hl0
end
end OP
namespace OP
open PySem PySem.Spec PyProof PyProof.Rows L2 OG PySem.W HT
section
variable{prog:Program}{w:World}{A:Around}{E:Value->Shared->Prop}{s:Shared}
theorem my{t sl:Addr}{items:Array Value}{vl vu:Value}{lo hi:Option Int}{Q:Value->Shared->Prop}(ht:IsTup s.heap t items)(hs:s.heap.IsSliceOf sl vl vu .none)(pl:IsPart vl lo)(pu:IsPart vu hi)
  (hw:sIx items.size 0 lo=0/\sIx items.size items.size hi=items.size) (h:Q (.ref t) s):wpAny (model prog w) A (getItem (.ref t) (.ref sl)) Q E s:=by
 obtain⟨os,hos,hcs,hds⟩:=id hs
 have hT:s.TypeIs (.ref sl) "slice":=⟨os,hos,hcs⟩
 unfold getItem
 try with_reducible refine wpAny_holding ?_
 first|refine Q2 (Q8 ?_)|skip
 refine Q2 (wpAny_sequenceKey ht.typeIs (by decide) ?_)
 refine Q2 (wpAny_callSpecial?_slot (name:=Str.ofString "__getitem__") ht.typeIs PyProof.Rows.slot_tuple_getitem (wpAny_call_entry PyProof.Rows.slot_tuple_getitem ht.typeIs entry_tuple_getitem ?_ (args_tuple_getitem _ _)))
 show wpAny _ _ (Builtin.Tuple.tupleItemsOf (.ref t) >>= _) _ _ s
 refine Q2 (tupleItemsOf_ ht (Q2 (wpAny_typeOf hT ?_)))
 rw[if_pos (by decide)]
 refine Q2 (eS hs pl pu ?_)
 rw[hw.1,hw.2,Nat.sub_zero]
 dsimp only
 rw[if_pos (by simp)]
 unfold Builtin.Tuple.tupleIsExact
 refine Q2 (Q2 (wpAny_typeOf ht.typeIs (Q8 ?_)))
 rw[if_pos (by decide)]
 exact Q2 (wpAny_rule (Q8 ⟨_,rfl,Q8 h⟩))
end
section
variable{X:Cx}
def IT(K:Q5):V->Option Int->Option Int->Hp->VK->Prop:=fun x lo hi H Q=>∃a xs,x=.ref a/\SqT K H a xs/\(sIx xs.length 0 lo=0/\sIx xs.length xs.length hi=xs.length)/\Q (.ref a) H
theorem Bf:SlR X (IT X.K):=by
 intro pins s σ H x v vl vu lo hi sl Q I rx hs pl pu h
 obtain⟨a,xs,rfl,hx,hw,q⟩:=h
 cases rx
 obtain⟨its,r,ht,hz⟩:=I.tuple hx
 have hlen:its.toArray.size=xs.length:=by rw[QD];exact r.length.symm
 exact⟨"tuple",_,PyProof.Rows.slot_tuple_getitem.lookup,ht.typeIs,my ht hs pl pu (by rw[hlen];exact hw) ⟨.ref a,H,I,rfl,q⟩⟩
def Fu(x:U)(lo hi:Option Int)(S:Sto):Option (U×Sto):=match x with
 |.tup us=>some (.tup (lD us lo hi),S)
 |.ref l=>match S[l]? with
  |some (.lst us)=>some (.ref S.length,S++[.lst (lD us lo hi)])
  |_=>none
 |_=>none
def C2(ca:CE)(cl ch:Option CE):CE:=fun ρ S=>(ca ρ S).bind fun p=>(fC cl ρ p.2).bind fun q=>(fC ch ρ q.2).bind fun r=>Fu p.1 q.1 r.1 r.2
theorem GX{e:Expr}{lo hi:Option Expr}{ca:CE}{cl ch:Option CE}{pos p2:Pos}(ha:QE X e ca)(hl:QO X lo cl)(hh:QO X hi ch):QE X (.Subscript e (.Slice lo hi none p2) pos) (C2 ca cl ch):=(mQ (ub.or (zm.or Bf)) ha hl hh).imp fun σ H Q hz=>ie hz fun m ρ S u S' sr lr hc post=>by
 obtain⟨⟨x,S1⟩,h1,ha⟩:=Q3.mp hc
 obtain⟨⟨l,S2⟩,h2,hb⟩:=Q3.mp ha
 obtain⟨⟨k,S3⟩,h3,h⟩:=Q3.mp hb
 clear ha hb hc
 refine⟨m,ρ,S,x,S1,sr,lr,h1,fun m1 v1 H1 e1 sr1 i1=>⟨m1,ρ,S1,l,S2,sr1,lr.mono e1,h2,fun m2 H2 e2 sr2=>⟨m2,ρ,S2,k,S3,sr2,lr.mono (e1.trans e2),h3,fun m3 H3 e3 sr3=>?_⟩⟩⟩
 have i3:=i1.mono (e2.trans e3)
 have e03:=(e1.trans e2).trans e3
 cases x with
 |tup us=>
  simp only[Fu]at h
  cases h
  obtain⟨a,xs,rfl,sa,la⟩:=i3.of_tup
  by_cases hw:sIx us.length 0 l=0/\sIx us.length us.length k=us.length
  ·have e:lD us l k=us:=by
    unfold lD
    rw[hw.1,hw.2,List.drop_zero,Nat.sub_zero,List.take_length]
   rw[e]at post
   exact .inr (.inr ⟨a,xs,rfl,sa,by rw[la.length];exact hw,post m3 _ H3 e03 sr3 (.tup_ sa la)⟩)
  ·exact .inr (.inl ⟨a,xs,rfl,sa,by rw[la.length];exact hw,fun p hp=>jc sr3 (rk la) (post.mono e03) hp⟩)
 |ref r=>
  simp only[Fu]at h
  split at h<;>try cases h
  rename_i us hS
  obtain⟨a,ha,rfl⟩:=i3.of_ref
  obtain⟨a',ha',xs,hx,la⟩:=sr3.get hS
  rw[ha]at ha';cases ha'
  exact .inl ⟨a,xs,rfl,SqL.of hx,fun p hp=>bP sr3 (rk la) (post.mono e03) hp⟩
 |_=>simp[Fu]at h
end
end OP
namespace OP
open PySem PySem.Spec PyProof PyProof.Rows L2 OG PySem.W
def sd(K:Q5)(w:World):List V->Hp->VK->Prop:=fun xs H Q=>∃(v:Addr) (es:Array (Int×Value)) (ep:Nat) (t:SetTable) (zs:List V) (ps:List (Int×Int)),xs=[.ref v]/\H v=some (D5 w v es ep t)/\a5 zs (es.toList.map (·.2))/\PrL K H zs ps/\ps.Nodup/\ps.length<64/\
 ∀(l:Addr) (zs':List V) (ps':List (Int×Int)) (q:Array Nat),H l=none->PrL K H zs' ps'->ps'.Perm ps->Gf ps' q->Q (.ref l) (upd H l (.lst (q.toList.map fun i=>zs'.getD i .non)))
theorem oY{X:Cx}(hc:X.calm=true):cG X (.builtin "sorted") (sd X.K X.w):=by
 rintro pins s σ H xs us Q I r ⟨v,es,ep,t,zs,ps,rfl,hV,vz,pz,nd,hn,q⟩
 obtain⟨u,rfl,ru⟩:=gC r
 cases ru
 obtain⟨⟨o,go,so⟩,_,_⟩:bC X.prog X.w H s.heap v (D5 X.w v es ep t):=I.hok v _ hV
 have lz:=mf pz
 have le:es.size=ps.length:=by have:=vz.length;simp at this;omega
 refine Calls.call_function_entry kind_sorted plain_sorted entry_sorted (args_sorted1 _) ?_
 unfold Builtin.«sorted»
 refine Q2 (m:=checkCount "sorted" 1 1 _) (Q8 (Q2 (kdu_collect (Bj (prog:=X.prog) (a:=v) so) (show X.A.in1.handled=none from I.ok.hd hc) go (by rw[le];unfold sizeLine;omega) fun h1 tk acc up hacc=>?_)))
 have ea:acc.toList=(yg X.w v ep es).toList.map (·.2):=by
  refine ZT fun i=>?_
  rw[Qw,Qv,Qw]
  have so1:(yg X.w v ep es).size=es.size:=by have:=(gP (w:=X.w) (a:=v) (ep:=ep) (es:=es)).length_eq;simpa using this
  by_cases c:i<es.size
  ·have c1:i<acc.size:=by rw[hacc.1];exact c
   obtain⟨e,he,ev⟩:=hacc.2 i _ (QR c1)
   rw[he,QR c1,ev]
   rfl
  ·rw[Zz (by rw[hacc.1];omega),Zz (by omega)]
   rfl
 obtain⟨zs',ps',vz',pz',pp⟩:=xS (K:=X.K) (H:=H) (vs':=acc.toList) (by rw[ea];exact(gP (w:=X.w) (a:=v) (ep:=ep) (es:=es)).map _) vz pz
 have lp:ps'.length=ps.length:=pp.length_eq
 have I1:Inv X pins σ H { s with heap:=h1,toks:=tk }:=I.kept (t':=tk) up
 have hpairs:=uI I1 pz' vz'
 have la:acc.toList.length=ps'.length:=eD hpairs
 refine Q2 (wpAny_newList ?_ (by rw[la,lp];unfold sizeLine;omega))
 have gL:(h1.push { cls:=.type "list",data:=.seq acc.toList.toArray }).get? h1.objs.size=some (seqObj "list" acc.toList.toArray 0):=QY _ rfl
 have hv':∀v∈acc.toList,v≠.ref h1.objs.size:=fun v hv=>kX hpairs v hv _ (QJ _)
 refine Q2 (wpAny_holding (wpAny_call_entry slot_list_sort ⟨_,gL,rfl⟩ entry_list_sort (jM (s:={ s with heap:=h1.push { cls:=.type "list",data:=.seq acc.toList.toArray },toks:=tk }) gL (iG (a:=h1.objs.size) (fun b o _ g=>Q4 _ g) hpairs hv') hv' (pp.nodup_iff.mpr nd) (by rw[lp];exact hn) fun qa a1=>⟨_,rfl,?_⟩) (args_list_sort _)))
 obtain⟨e,ge⟩:=sortedHeap_at (out:=(qa.toList.map fun i=>acc.toList.getD i Value.none).toArray) gL
 have old:∀b o,h1.get? b=some o->(sortedHeap (h1.push { cls:=.type "list",data:=.seq acc.toList.toArray }) h1.objs.size acc.toList (qa.toList.map fun i=>acc.toList.getD i Value.none).toArray).get? b=some o:=fun b o g1=>by
  have lt1:=QX g1
  rw[sortedHeap_old (QC lt1) (by rw[Z7];exact ZJ lt1)]
  exact Q4 _ g1
 have hf:=I1.hok.fresh (QJ h1.objs.size)
 have hq:qa.toList.length=ps'.length:=by rw[QH,a1.1.sz]
 have lz':=mf pz'
 exact Q8 ⟨_,rfl,.ref h1.objs.size,_,I1.laid (o:=.lst (qa.toList.map fun i=>zs'.getD i .non)) (t':=tk) old (QJ _) ⟨by rw[QZ,hq,lp];unfold sizeLine;omega,_,e,iZ vz' qa.toList (by rw[lz'];exact eZ a1.1),ge⟩,rfl,q _ zs' ps' qa hf pz' pp a1⟩
open Classical in
def cM(ce:CE):CE:=fun ρ S=>(ce ρ S).bind fun p=>match p.1 with
 |.ref l=>match p.2[l]? with
  |some (.lst us)=>(kY us).bind fun ps=>if ps.length<=1200/\∃B:List (Int×Int),B.length<64/\∀x∈ps,x∈B then some (.ref p.2.length,p.2++[.lst ((c7 ps).map pP)])else none
  |_=>none
 |_=>none
theorem jF{X:Cx}{o:Expr}{co:CE}{p1 p2 cpos pos:Pos}(hcm:X.calm=true)(hu:X.A.units+64<cLine)(hg:L2.Gl X "sorted")(hm:X.mg "sorted"=none)(hg2:L2.Gl X "set")(hm2:X.mg "set"=none)(ho:QE X o co)
  (he1:starEach [o] X.env=(false,eval o X.env)::starEach [] X.env:=by rfl) (hpl1:(backTo cpos (starEach [] X.env)).any (·.1)=false:=by rfl)
  (he:starEach [.Call (.Name "set" p2) [o] [] cpos] X.env=(false,eval (.Call (.Name "set" p2) [o] [] cpos) X.env)::starEach [] X.env:=by rfl) (hpl:(backTo pos (starEach [] X.env)).any (·.1)=false:=by rfl) :
  QE X (.Call (.Name "sorted" p1) [.Call (.Name "set" p2) [o] [] cpos] [] pos) (cM co):=
 (gB (oY hcm) hg hm OG.dP (cy (iB (Hm hcm hu) hg2 hm2 rA (cy ho fg he1) (by decide) (by decide) he1 hpl1) fg he) (by decide) (by decide) he hpl).imp fun σ H Q hz=>ie hz fun m ρ S u S' sr lr hc post=>by
  obtain⟨⟨x,S1⟩,h1,h⟩:=Q3.mp hc
  refine⟨m,ρ,S,x,S1,sr,lr,h1,fun m1 v1 H1 e1 sr1 i1=>?_⟩
  cases x with
  |ref l=>
   simp only at h
   split at h<;>try cases h
   rename_i us hS
   obtain⟨ps,hn,h⟩:=Q3.mp h
   split at h<;>try cases h
   obtain⟨hcc,B,hB1,hB2⟩:ps.length<=1200/\∃B:List (Int×Int),B.length<64/\∀x∈ps,x∈B:=by assumption
   obtain⟨a,ha,rfl⟩:=i1.of_ref
   obtain⟨a',ha',xs,hx,la⟩:=sr1.get hS
   rw[ha]at ha';cases ha'
   rw[ny hn]at la
   have pr:=zw la
   refine⟨a,xs,ps,rfl,SqL.of hx,pr,hcc,fun lS es ep t zs qs hl vz pz nd mem hq=>?_⟩
   have sm:rF H1 (upd H1 lS (D5 X.w lS es ep t)):=eJ hl _
   refine⟨lS,es,ep,t,zs,qs,rfl,aJ,vz,qy sm pz,nd,Zg (List.Nodup.length_le_of_subset nd fun y hy=>hB2 y ((mem y).mp hy)) hB1,fun l zs' ps' q hl2 pz' pp aq=>?_⟩
   have il:=uF (m:=m1) pz' q.toList (eZ aq.1)
   have e:(q.toList.map fun i=>pP (ps'.getD i (0,0)))=(c7 ps).map pP:=by rw[y6 aq pp mem,Qc];rfl
   rw[e]at il
   exact bP (sr1.same sm) il (post.mono (e1.trans (.of (cE sm)))) hl2
  |_=>cases h
theorem nQ:∀{ns:List Int} {vs:List Value},a5 (ns.map V.int) vs->IntsAre vs ns
 |[],vs,r=>by cases r;exact .nil
 |n::ns,vs,r=>by
  cases r with
  |cons r1 r2=>
   obtain⟨t,rfl⟩:=r1
   exact .cons n t (nQ r2)
def yS(ns:List Int):Nat:=(firstMet (fun i=>ns.getD i 0) ns.length).length
def EY(a:Addr)(n:Nat):HO:=.ext fun h=>∃o es ep t,h.get? a=some o/\o.ExactSet/\o.data=.set es ep t/\t.fits es.size=true/\es.size=n
def GS(K:Q5):List V->Hp->VK->Prop:=fun xs H Q=>∃(p:Addr) (ns:List Int),xs=[.ref p]/\SqL K H p (ns.map V.int)/\ns.length<=4000/\∀l,H l=none->Q (.ref l) (upd H l (EY l (yS ns)))
theorem ER{X:Cx}(hc:X.calm=true):cG X (.type "set") (GS X.K):=by
 rintro pins s σ H xs us Q I r ⟨p,ns,rfl,hL,hn,q⟩
 obtain⟨u,rfl,ru⟩:=gC r
 cases ru
 obtain⟨its,rv,pl,hz⟩:=I.list hL
 have hlen:=rv.length
 rw[QZ]at hlen
 have sz:its.toArray.size=ns.length:=by rw[QD,hlen]
 refine PySem.call_set_list (items:=its.toArray) (ns:=ns) (show X.A.handled=none from I.ok.hd hc) pl.isList (by simpa using nQ rv) (by rw[sz];unfold scanBound;omega) fun h' tk hS hk=>?_
 obtain⟨o,es,ep,t,ho,hex,hd,_,_,_,hf,hn'⟩:=hS
 rw[sz]at hn'
 have hf0:=I.hok.fresh (QJ s.heap.objs.size)
 exact⟨.ref s.heap.objs.size,_,I.laid (o:=EY s.heap.objs.size (yS ns)) (t':=tk) (fun b o g=>hk b o (QX g) g) (QJ _) ⟨⟨o,es,ep,t,ho,hex,hd,hf,hn'⟩,⟨o,ho⟩,fun h1 h2 ⟨o,es,ep,t,g,r⟩ m=>⟨o,es,ep,t,m o g,r⟩⟩,rfl,q _ hf0⟩
def GU:List V->Hp->VK->Prop:=fun xs H Q=>∃(v:Addr) (n:Nat),xs=[.ref v]/\H v=some (EY v n)/\n<=4000/\Q (.int n) H
theorem ES{X:Cx}:cG X (.builtin "len") GU:=by
 rintro pins s σ H xs us Q I r ⟨v,n,rfl,hV,hn,q⟩
 obtain⟨u,rfl,ru⟩:=gC r
 cases ru
 obtain⟨⟨o,es,ep,t,ho,hex,hd,hf,he⟩,_,_⟩:bC X.prog X.w H s.heap v (EY v n):=I.hok v _ hV
 have lt:(es.size:Int)<2^63:=by rw[he];omega
 refine PySem.call_len_set ho hex hd hf lt ?_
 rw[he]
 exact⟨.int n,H,I.tok _,⟨_,rfl⟩,q⟩
def gj(ce:CE):CE:=fun ρ S=>(ce ρ S).bind fun p=>match p.1 with
 |.ref l=>match p.2[l]? with
  |some (.lst us)=>(mx us).bind fun ns=>if ns.length<=4000 then some (.int (yS ns:Nat),p.2)else none
  |_=>none
 |_=>none
theorem CK(ns:List Int):yS ns<=ns.length:=firstMet_length_le _ _
theorem qu{X:Cx}{o:Expr}{co:CE}{p1 p2 cpos pos:Pos}(hcm:X.calm=true)(hg:L2.Gl X "len")(hm:X.mg "len"=none)(hg2:L2.Gl X "set")(hm2:X.mg "set"=none)(ho:QE X o co)
  (he1:starEach [o] X.env=(false,eval o X.env)::starEach [] X.env:=by rfl) (hpl1:(backTo cpos (starEach [] X.env)).any (·.1)=false:=by rfl)
  (he:starEach [.Call (.Name "set" p2) [o] [] cpos] X.env=(false,eval (.Call (.Name "set" p2) [o] [] cpos) X.env)::starEach [] X.env:=by rfl) (hpl:(backTo pos (starEach [] X.env)).any (·.1)=false:=by rfl) :
  QE X (.Call (.Name "len" p1) [.Call (.Name "set" p2) [o] [] cpos] [] pos) (gj co):=
 (gB ES hg hm PySem.boot_len (cy (iB (ER hcm) hg2 hm2 rA (cy ho fg he1) (by decide) (by decide) he1 hpl1) fg he) (by decide) (by decide) he hpl).imp fun σ H Q hz=>ie hz fun m ρ S u S' sr lr hc post=>by
  obtain⟨⟨x,S1⟩,h1,h⟩:=Q3.mp hc
  refine⟨m,ρ,S,x,S1,sr,lr,h1,fun m1 v1 H1 e1 sr1 i1=>?_⟩
  cases x with
  |ref l=>
   simp only at h
   split at h<;>try cases h
   rename_i us hS
   obtain⟨ns,hn,h⟩:=Q3.mp h
   split at h<;>try cases h
   have hcc:ns.length<=4000:=by assumption
   obtain⟨a,ha,rfl⟩:=i1.of_ref
   obtain⟨a',ha',xs,hx,la⟩:=sr1.get hS
   rw[ha]at ha';cases ha'
   rw[g9 hn]at la
   have ex:xs=ns.map V.int:=IsL.ints la
   subst ex
   refine⟨a,ns,rfl,SqL.of hx,hcc,fun lS hl=>?_⟩
   have sm:rF H1 (upd H1 lS (EY lS (yS ns))):=eJ hl _
   exact⟨lS,yS ns,rfl,aJ,Qy (CK ns) hcc,post m1 _ _ (e1.trans (.of (cE sm))) (sr1.same sm) .int_⟩
  |_=>cases h
abbrev ZO(h:Heap)(z I O:Addr)(f:Value)(fl:Bool):Prop:=h.get? z=some { cls:=.type "zip",dict:=none,data:=.fields #[f,.bool fl,.bool false,.ref I,.ref O],slots:=#[] }
structure ZG(b d:Bool)(h:Heap)(z I O i j a c:Addr)(f:Value)(fl:Bool)(n:Nat):Prop where
 hz:ZO h z I O f fl
 hI:IsPair h I (.ref i) (.ref j)
 hO:∃p q,IsPair h O p q
 h1:SI b h i a n
 h2:SI d h j c n
def Gd(h:Heap)(f:Value):Prop:=f=.none\/∃p:Nat,f=rawInt (p:Nat)/\h.get? p=none
section
variable{prog:Program}{w:World}{A:Around}{E:Value->Shared->Prop}{s:Shared}
theorem rg{z I O:Addr}{f:Value}{fl:Bool}(hz:ZO s.heap z I O f fl)(hf:Gd s.heap f){Q:Bool->Shared->Prop}(q:Q true s):wpAny (model prog w) A (Builtin.SmallTypes.ownedTupleIsFree (.ref z)) Q E s:=by
 unfold Builtin.SmallTypes.ownedTupleIsFree
 rcases hf with rfl|⟨p,rfl,hp⟩
 ·exact Q2 (Qh hz rfl (x:=.none) rfl (Q8 q))
 ·refine Q2 (Qh hz rfl (x:=rawInt (p:Nat)) rfl ?_)
  show wpAny _ _ (loadIfAlive ((p:Int).toNat) >>= _) _ _ _
  rw[Z3]
  refine Q2 (rD ?_)
  rw[hp]
  simp only[Option.isNone_none,if_true]
  exact Q8 q
theorem sQ{b d:Bool}{z I O i j a c:Addr}{n:Nat}{f:Value}{fl:Bool}{xs ys:Array Value}{x y:Value}{Q:Value->Shared->Prop}(D:ZA z I O i j a c)(st:ZG b d s.heap z I O i j a c f fl n)(hfr:Gd s.heap f)(ha:SA b s.heap a xs)(hc:SA d s.heap c ys)(hx:xs[n]?=some x)(hy:ys[n]?=some y)
  (k:∀h',ZG b d h' z I O i j a c (rawInt s.heap.objs.size) false (n+1)->IsPair h' s.heap.objs.size x y->
   (∀e o,e≠z->e≠O->e≠i->e≠j->s.heap.get? e=some o->h'.get? e=some o)->Q (.ref s.heap.objs.size) { s with heap:=h' }) :
  wpAny (model prog w) A (Builtin.«zip.__next__» ⟨[.ref z],[]⟩) (fun fin s'=>∃v,fin=.done (.ret v)/\Q v s') E s:=by
 obtain⟨hz,hI,⟨p,q,hO⟩,h1,h2⟩:=st
 show wpAny _ _ (field (.ref z) 2 >>= _) _ _ _
 refine Q2 (Qh hz rfl (x:=.bool false) rfl ?_)
 show wpAny _ _ (field (.ref z) 3 >>= _) _ _ _
 refine Q2 (Qh hz rfl (x:=.ref I) rfl ?_)
 refine Q2 (wpAny_seqItems hI rfl ?_)
 show wpAny _ _ (Builtin.SmallTypes.ownedTupleIsFree (.ref z) >>= _) _ _ _
 refine Q2 (rg hz hfr ?_)
 simp only[if_true]
 refine Q2 (wpAny_rule (Q2 (Qh hz rfl (x:=.ref O) rfl (Q2 (wpAny_setField_rec hz (by simp) fun g1 z1 s1=>Q2 ?_)))))
 replace z1:ZO g1 z I O .ellipsis fl:=z1
 simp only[List.zipIdx_nil,List.zipIdx_cons,ZF,ZI]
 refine Q2 (Q2 (wpAny_onRaise ?_))
 show wpAny _ _ (Builtin.SmallTypes.nextOf (.ref i) >>= _) _ _ _
 refine Q2 (cZ (b:=b) (h1.at_ fun o e=>s1.extBut _ _ D.iz e) (ha.at_ fun o e=>s1.extBut _ _ D.az e) hx fun g2 i2 s2=>Q8 ?_)
 have O2:IsPair g2 O p q:=s2.extBut _ _ D.Oi (s1.extBut _ _ D.Oz hO)
 refine Q2 (wpAny_seqItems O2 rfl (Q2 (wpAny_updateSeq_pair O2 fun g3 O3 s3=>?_)))
 replace O3:IsPair g3 O x q:=O3
 refine Q2 (wpAny_letGo (Q8 (Q2 (Q2 (wpAny_onRaise ?_)))))
 show wpAny _ _ (Builtin.SmallTypes.nextOf (.ref j) >>= _) _ _ _
 have up3:∀e o,e≠z->e≠i->e≠O->s.heap.get? e=some o->g3.get? e=some o:=fun e o u1 u2 u3 q=>s3.extBut _ _ u3 (s2.extBut _ _ u2 (s1.extBut _ _ u1 q))
 refine Q2 (cZ (b:=d) (h2.at_ fun o e=>up3 _ _ D.jz D.ij.symm D.Oj.symm e) (hc.at_ fun o e=>up3 _ _ D.cz D.ci D.cO e) hy fun g4 j4 s4=>Q8 ?_)
 have O4:IsPair g4 O x q:=s4.extBut _ _ D.Oj O3
 refine Q2 (wpAny_seqItems O4 rfl (Q2 (wpAny_updateSeq_pair O4 fun g5 O5 s5=>?_)))
 replace O5:IsPair g5 O x y:=O5
 refine Q2 (wpAny_letGo (Q8 (Q8 (Q2 (wpAny_seqItems O5 rfl (Q2 (wpAny_newTuple ?_)))))))
 have sz:g5.objs.size=s.heap.objs.size:=by rw[s5.1,s4.1,s3.1,s2.1,s1.1]
 have z5:ZO g5 z I O .ellipsis fl:=s5.extBut _ _ D.Oz.symm (s4.extBut _ _ D.jz.symm (s3.extBut _ _ D.Oz.symm (s2.extBut _ _ D.iz.symm z1)))
 have up5:∀e o,e≠z->e≠O->e≠i->e≠j->s.heap.get? e=some o->g5.get? e=some o:=fun e o u1 u2 u3 u4 q=>s5.extBut _ _ u2 (s4.extBut _ _ u4 (up3 e o u1 u3 u2 q))
 have i5:SI b g5 i a (n+1):=i2.at_ fun o e=>s5.extBut _ _ D.Oi.symm (s4.extBut _ _ D.ij (s3.extBut _ _ D.Oi.symm e))
 have j5:SI d g5 j c (n+1):=j4.at_ fun o e=>s5.extBut _ _ D.Oj.symm e
 have zlt:z<g5.objs.size:=QX z5
 show wpAny _ _ (Builtin.SmallTypes.ownedTupleHandOut (.ref z) (.ref g5.objs.size) >>= _) _ _ _
 refine Q2 ?_
 unfold Builtin.SmallTypes.ownedTupleHandOut
 have z6:ZO (g5.push { cls:=.type "tuple",data:=.seq #[x,y] }) z I O .ellipsis fl:=Q4 _ z5
 refine Q2 (wpAny_setField_rec z6 (by simp) fun g7 z7 s7=>?_)
 replace z7:ZO g7 z I O (rawInt g5.objs.size) fl:=z7
 refine wpAny_setField_rec z7 (by simp) fun g8 z8 s8=>?_
 replace z8:ZO g8 z I O (rawInt g5.objs.size) false:=z8
 have up8:∀e o,e≠z->g5.get? e=some o->g8.get? e=some o:=fun e o u1 q=>s8.extBut _ _ u1 (s7.extBut _ _ u1 (Q4 _ q))
 have T8:IsPair g8 g5.objs.size x y:=s8.extBut _ _ (ZS zlt) (s7.extBut _ _ (ZS zlt) (QY _ rfl))
 rw[sz]at z8 T8
 refine Q8 ⟨_,rfl,?_⟩
 show Q (.ref g5.objs.size) _
 rw[sz]
 exact k g8 ⟨z8,up8 _ _ D.Iz (up5 _ _ D.Iz D.IO D.Ii D.Ij hI),⟨x,y,up8 _ _ D.Oz O5⟩,i5.at_ fun o e=>up8 _ _ D.iz e,j5.at_ fun o e=>up8 _ _ D.jz e⟩ T8 fun e o u1 u2 u3 u4 q=>up8 e o u1 (up5 e o u1 u2 u3 u4 q)
theorem sR{b d:Bool}{z I O i j a c:Addr}{n:Nat}{f:Value}{fl:Bool}{xs ys:Array Value}{Q:PySem.Fin->Shared->Prop}(hh:A.handled=none)(D:ZA z I O i j a c)(st:ZG b d s.heap z I O i j a c f fl n)(hfr:Gd s.heap f)(ha:SA b s.heap a xs)(hc:SA d s.heap c ys)(hn:xs[n]?=none\/ys[n]?=none)
  (k:∀h' e,(∀c o,c≠z->c≠O->c≠i->c≠j->s.heap.get? c=some o->h'.get? c=some o)->(∃o,h'.get? e=some o/\o.cls=.type "StopIteration")->E (.ref e) { s with heap:=h' }) :
  wpAny (model prog w) A (Builtin.«zip.__next__» ⟨[.ref z],[]⟩) Q E s:=by
 obtain⟨hz,hI,⟨p,q,hO⟩,h1,h2⟩:=st
 show wpAny _ _ (field (.ref z) 2 >>= _) _ _ _
 refine Q2 (Qh hz rfl (x:=.bool false) rfl ?_)
 show wpAny _ _ (field (.ref z) 3 >>= _) _ _ _
 refine Q2 (Qh hz rfl (x:=.ref I) rfl ?_)
 refine Q2 (wpAny_seqItems hI rfl ?_)
 show wpAny _ _ (Builtin.SmallTypes.ownedTupleIsFree (.ref z) >>= _) _ _ _
 refine Q2 (rg hz hfr ?_)
 simp only[if_true]
 refine Q2 (wpAny_rule (Q2 (Qh hz rfl (x:=.ref O) rfl (Q2 (wpAny_setField_rec hz (by simp) fun g1 z1 s1=>Q2 ?_)))))
 replace z1:ZO g1 z I O .ellipsis fl:=z1
 simp only[List.zipIdx_nil,List.zipIdx_cons,ZF,ZI]
 refine Q2 (Q2 (wpAny_onRaise ?_))
 show wpAny _ _ (Builtin.SmallTypes.nextOf (.ref i) >>= _) _ _ _
 cases hx:xs[n]? with
 |none=>
  refine Q2 (bH (b:=b) hh (h1.at_ fun o e=>s1.extBut _ _ D.iz e) (ha.at_ fun o e=>s1.extBut _ _ D.az e) hx fun g2 e s2 he=>?_)
  obtain⟨oe,ge,ce⟩:=he
  have z2:ZO g2 z I O .ellipsis fl:=s2 _ _ D.iz.symm z1
  have nez:e≠z:=fun v=>by subst v;rw[z2]at ge;cases ge;simp at ce
  exact wpAny_setField_rec z2 (by simp) fun g3 _ s3=>k g3 e (fun c o u1 _ u3 _ v=>s3.extBut _ _ u1 (s2 _ _ u3 (s1.extBut _ _ u1 v))) ⟨oe,s3.extBut _ _ nez ge,ce⟩
 |some x=>
  have hy:ys[n]?=none:=by rcases hn with v|v;rw[hx]at v;cases v;exact v
  refine Q2 (cZ (b:=b) (h1.at_ fun o e=>s1.extBut _ _ D.iz e) (ha.at_ fun o e=>s1.extBut _ _ D.az e) hx fun g2 i2 s2=>Q8 ?_)
  have O2:IsPair g2 O p q:=s2.extBut _ _ D.Oi (s1.extBut _ _ D.Oz hO)
  refine Q2 (wpAny_seqItems O2 rfl (Q2 (wpAny_updateSeq_pair O2 fun g3 O3 s3=>?_)))
  refine Q2 (wpAny_letGo (Q8 (Q2 (Q2 (wpAny_onRaise ?_)))))
  show wpAny _ _ (Builtin.SmallTypes.nextOf (.ref j) >>= _) _ _ _
  have up3:∀e o,e≠z->e≠i->e≠O->s.heap.get? e=some o->g3.get? e=some o:=fun e o u1 u2 u3 q=>s3.extBut _ _ u3 (s2.extBut _ _ u2 (s1.extBut _ _ u1 q))
  refine Q2 (bH (b:=d) hh (h2.at_ fun o e=>up3 _ _ D.jz D.ij.symm D.Oj.symm e) (hc.at_ fun o e=>up3 _ _ D.cz D.ci D.cO e) hy fun g4 e s4 he=>?_)
  obtain⟨oe,ge,ce⟩:=he
  have z4:ZO g4 z I O .ellipsis fl:=s4 _ _ D.jz.symm (s3.extBut _ _ D.Oz.symm (s2.extBut _ _ D.iz.symm z1))
  have nez:e≠z:=fun v=>by subst v;rw[z4]at ge;cases ge;simp at ce
  exact wpAny_setField_rec z4 (by simp) fun g5 _ s5=>k g5 e (fun c o u1 u2 u3 u4 v=>s5.extBut _ _ u1 (s4 _ _ u4 (up3 c o u1 u3 u2 v))) ⟨oe,s5.extBut _ _ nez ge,ce⟩
end
def ZN(b d:Bool)(h:Heap)(z I O i j a c:Addr)(n:Nat):Prop:=∃f fl,(f=Value.none\/∃p:Nat,f=rawInt (p:Nat))/\ZG b d h z I O i j a c f fl n
theorem jY:entryFor table "zip.__iter__"=some Builtin.«dict_keyiterator.__iter__»:=entryFor_alias (id':="dict_keyiterator.__iter__") (by kernel_rfl) rfl (by decide +kernel) (by kernel_rfl)
section
variable{prog:Program}{w:World}{A:Around}{E:Value->Shared->Prop}{s:Shared}{b d:Bool}{z I O i j a c p:Addr}{fl:Bool}{n:Nat}{xs ys:Array Value}{x y:Value}
theorem sU(D:ZA z I O i j a c)(st:ZG b d s.heap z I O i j a c (rawInt (p:Nat)) fl n)(hp:∃o,s.heap.get? p=some o)(ha:SA b s.heap a xs)(hc:SA d s.heap c ys)(hx:xs[n]?=some x)(hy:ys[n]?=some y){Q:Value->Shared->Prop}
  (k:∀h',ZG b d h' z I O i j a c (rawInt (p:Nat)) true (n+1)->IsPair h' s.heap.objs.size x y->
   (∀e o,e≠z->e≠i->e≠j->s.heap.get? e=some o->h'.get? e=some o)->Q (.ref s.heap.objs.size) { s with heap:=h' }) :
  wpAny (model prog w) A (Builtin.«zip.__next__» ⟨[.ref z],[]⟩) (fun fin s'=>∃v,fin=.done (.ret v)/\Q v s') E s:=by
 obtain⟨hz,hI,hO,h1,h2⟩:=st
 show wpAny _ _ (field (.ref z) 2 >>= _) _ _ _
 refine Q2 (Qh hz rfl (x:=.bool false) rfl ?_)
 show wpAny _ _ (field (.ref z) 3 >>= _) _ _ _
 refine Q2 (Qh hz rfl (x:=.ref I) rfl ?_)
 refine Q2 (wpAny_seqItems hI rfl ?_)
 show wpAny _ _ (Builtin.SmallTypes.ownedTupleIsFree (.ref z) >>= _) _ _ _
 refine Q2 (mz hz hp fun g1 z1 s1=>?_)
 simp only[Qk,if_false]
 refine Q2 ?_
 rw[<-Zf]
 simp only[ZI,ZF]
 refine Q2 (Q2 (wpAny_holding ?_))
 show wpAny _ _ (Builtin.SmallTypes.nextOf (.ref i) >>= _) _ _ _
 refine Q2 (cZ (b:=b) (h1.at_ fun o e=>s1.extBut _ _ D.iz e) (ha.at_ fun o e=>s1.extBut _ _ D.az e) hx fun g2 i2 s2=>Q8 (Q8 ?_))
 have up2:∀e o,e≠z->e≠i->s.heap.get? e=some o->g2.get? e=some o:=fun e o u1 u2 q=>s2.extBut _ _ u2 (s1.extBut _ _ u1 q)
 refine Q2 (Q2 (wpAny_holding ?_))
 show wpAny _ _ (Builtin.SmallTypes.nextOf (.ref j) >>= _) _ _ _
 refine Q2 (cZ (b:=d) (h2.at_ fun o e=>up2 _ _ D.jz D.ij.symm e) (hc.at_ fun o e=>up2 _ _ D.cz D.ci e) hy fun g3 j3 s3=>Q8 (Q8 (Q8 ?_)))
 have up3:∀e o,e≠z->e≠i->e≠j->s.heap.get? e=some o->g3.get? e=some o:=fun e o u1 u2 u3 q=>s3.extBut _ _ u3 (up2 e o u1 u2 q)
 have sz:g3.objs.size=s.heap.objs.size:=by rw[s3.1,s2.1,s1.1]
 dsimp only
 refine Q2 (wpAny_newTuple (Q8 ⟨_,rfl,?_⟩) (show 2<=sizeLine by decide))
 have T:IsPair (g3.push { cls:=.type "tuple",data:=.seq #[x,y] }) g3.objs.size x y:=QY _ rfl
 rw[sz]at T
 show Q (.ref g3.objs.size) _
 rw[sz]
 refine k _ ⟨Q4 _ (s3.extBut _ _ D.jz.symm (s2.extBut _ _ D.iz.symm z1)),Q4 _ (up3 _ _ D.Iz D.Ii D.Ij hI),let ⟨u,v,q⟩:=hO;⟨u,v,Q4 _ (up3 _ _ D.Oz D.Oi D.Oj q)⟩,i2.at_ fun o e=>Q4 _ (s3.extBut _ _ D.ij e),j3.at_ fun o e=>Q4 _ e⟩ T fun e o u1 u2 u3 q=>Q4 _ (up3 e o u1 u2 u3 q)
theorem sS(hh:A.handled=none)(D:ZA z I O i j a c)(st:ZG b d s.heap z I O i j a c (rawInt (p:Nat)) fl n)(hp:∃o,s.heap.get? p=some o)(ha:SA b s.heap a xs)(hc:SA d s.heap c ys)(hn:xs[n]?=none\/ys[n]?=none){Q:PySem.Fin->Shared->Prop}
  (k:∀h' e,(∀c o,c≠z->c≠i->c≠j->s.heap.get? c=some o->h'.get? c=some o)->(∃o,h'.get? e=some o/\o.cls=.type "StopIteration")->E (.ref e) { s with heap:=h' }) :
  wpAny (model prog w) A (Builtin.«zip.__next__» ⟨[.ref z],[]⟩) Q E s:=by
 obtain⟨hz,hI,hO,h1,h2⟩:=st
 show wpAny _ _ (field (.ref z) 2 >>= _) _ _ _
 refine Q2 (Qh hz rfl (x:=.bool false) rfl ?_)
 show wpAny _ _ (field (.ref z) 3 >>= _) _ _ _
 refine Q2 (Qh hz rfl (x:=.ref I) rfl ?_)
 refine Q2 (wpAny_seqItems hI rfl ?_)
 show wpAny _ _ (Builtin.SmallTypes.ownedTupleIsFree (.ref z) >>= _) _ _ _
 refine Q2 (mz hz hp fun g1 z1 s1=>?_)
 simp only[Qk,if_false]
 refine Q2 ?_
 rw[<-Zf]
 simp only[ZI,ZF]
 refine Q2 (Q2 (wpAny_holding ?_))
 show wpAny _ _ (Builtin.SmallTypes.nextOf (.ref i) >>= _) _ _ _
 cases hx:xs[n]? with
 |none=>
  refine Q2 (bH (b:=b) hh (h1.at_ fun o e=>s1.extBut _ _ D.iz e) (ha.at_ fun o e=>s1.extBut _ _ D.az e) hx fun g2 e s2 he=>?_)
  exact k g2 e (fun c o u1 u2 _ q=>s2 _ _ u2 (s1.extBut _ _ u1 q)) he
 |some x=>
  have hy:ys[n]?=none:=by rcases hn with v|v;rw[hx]at v;cases v;exact v
  refine Q2 (cZ (b:=b) (h1.at_ fun o e=>s1.extBut _ _ D.iz e) (ha.at_ fun o e=>s1.extBut _ _ D.az e) hx fun g2 i2 s2=>Q8 (Q8 ?_))
  have up2:∀e o,e≠z->e≠i->s.heap.get? e=some o->g2.get? e=some o:=fun e o u1 u2 q=>s2.extBut _ _ u2 (s1.extBut _ _ u1 q)
  refine Q2 (Q2 (wpAny_holding ?_))
  show wpAny _ _ (Builtin.SmallTypes.nextOf (.ref j) >>= _) _ _ _
  refine Q2 (bH (b:=d) hh (h2.at_ fun o e=>up2 _ _ D.jz D.ij.symm e) (hc.at_ fun o e=>up2 _ _ D.cz D.ci e) hy fun g3 e s3 he=>?_)
  exact k g3 e (fun c o u1 u2 u3 q=>s3 _ _ u3 (up2 c o u1 u2 q)) he
theorem ZN.at_{h h':Heap}(st:ZN b d h z I O i j a c n)(k:∀e∈[z,I,O,i,j],∀o,h.get? e=some o->h'.get? e=some o):ZN b d h' z I O i j a c n:=by
 obtain⟨f,fl,hf,hz,hI,⟨u,v,hO⟩,h1,h2⟩:=st
 exact⟨f,fl,hf,k z (by simp) _ hz,k I (by simp) _ hI,⟨u,v,k O (by simp) _ hO⟩,h1.at_ fun o e=>k i (by simp) o e,h2.at_ fun o e=>k j (by simp) o e⟩
theorem ZN.free{h:Heap}{f:Value}(hf:f=Value.none\/∃p:Nat,f=rawInt (p:Nat)):Gd h f\/∃p:Nat,f=rawInt (p:Nat)/\∃o,h.get? p=some o:=by
 rcases hf with e|⟨p,e⟩
 ·exact .inl (.inl e)
 ·cases hp:h.get? p with
  |none=>exact .inl (.inr ⟨p,e,hp⟩)
  |some o=>exact .inr ⟨p,e,o,hp⟩
theorem Aj(D:ZA z I O i j a c)(st:ZN b d s.heap z I O i j a c n)(ha:SA b s.heap a xs)(hc:SA d s.heap c ys)(hx:xs[n]?=some x)(hy:ys[n]?=some y){Q:Option Value->Shared->Prop}
  (k:∀h',ZN b d h' z I O i j a c (n+1)->IsPair h' s.heap.objs.size x y->
   (∀e o,e≠z->e≠O->e≠i->e≠j->s.heap.get? e=some o->h'.get? e=some o)->Q (some (.ref s.heap.objs.size)) { s with heap:=h' }):wpAny (model prog w) A (pyNext (.ref z)) Q E s:=by
 obtain⟨f,fl,hf,st⟩:=st
 have ty:s.TypeIs (.ref z) "zip":=⟨_,st.hz,rfl⟩
 unfold pyNext
 refine Q2 (wpAny_attempt (wpAny_callSpecial?_slot (name:=Str.ofString "__next__") ty PySem.F.slot_zip_next (wpAny_call_entry PySem.F.slot_zip_next ty PySem.F.entry_zip_next ?_ (PySem.F.args_zip_next_1 _))))
 rcases ZN.free (h:=s.heap) hf with fr|⟨p,rfl,hp⟩
 ·exact sQ D st fr ha hc hx hy fun h' a1 a2 a3=>Q8 (k h' ⟨_,_,.inr ⟨_,rfl⟩,a1⟩ a2 a3)
 ·exact sU D st hp ha hc hx hy fun h' a1 a2 a3=>Q8 (k h' ⟨_,_,.inr ⟨_,rfl⟩,a1⟩ a2 fun e o u1 _ u3 u4 q=>a3 e o u1 u3 u4 q)
theorem Dc(hh:A.handled=none)(D:ZA z I O i j a c)(st:ZN b d s.heap z I O i j a c n)(ha:SA b s.heap a xs)(hc:SA d s.heap c ys)(hn:xs[n]?=none\/ys[n]?=none){Q:Option Value->Shared->Prop}
  (k:∀h',(∀c o,c≠z->c≠O->c≠i->c≠j->s.heap.get? c=some o->h'.get? c=some o)->Q none { s with heap:=h' }):wpAny (model prog w) A (pyNext (.ref z)) Q E s:=by
 obtain⟨f,fl,hf,st⟩:=st
 have ty:s.TypeIs (.ref z) "zip":=⟨_,st.hz,rfl⟩
 unfold pyNext
 refine Q2 (wpAny_attempt (wpAny_callSpecial?_slot (name:=Str.ofString "__next__") ty PySem.F.slot_zip_next (wpAny_call_entry PySem.F.slot_zip_next ty PySem.F.entry_zip_next ?_ (PySem.F.args_zip_next_1 _))))
 rcases ZN.free (h:=s.heap) hf with fr|⟨p,rfl,hp⟩
 ·refine sR (show A.in1.handled=none from hh) D st fr ha hc hn fun h' e up he=>?_
  obtain⟨o,ge,ce⟩:=he
  exact Q2 (wpAny_isInstance (T:="StopIteration") (b:=true) ⟨o,ge,ce⟩ isSubtype_stop (Q8 (k h' up)))
 ·refine sS (show A.in1.handled=none from hh) D st hp ha hc hn fun h' e up he=>?_
  obtain⟨o,ge,ce⟩:=he
  exact Q2 (wpAny_isInstance (T:="StopIteration") (b:=true) ⟨o,ge,ce⟩ isSubtype_stop (Q8 (k h' fun c o u1 _ u3 u4 q=>up c o u1 u3 u4 q)))
theorem Ai(st:ZN b d s.heap z I O i j a c n){Q:Value->Shared->Prop}(q:Q (.ref z) s):wpAny (model prog w) A (pyIter (.ref z)) Q E s:=by
 obtain⟨f,fl,hf,st⟩:=st
 have ty:s.TypeIs (.ref z) "zip":=⟨_,st.hz,rfl⟩
 refine wpAny_pyIter_slot ty PySem.F.slot_zip_iter (wpAny_call_entry PySem.F.slot_zip_iter ty jY ?_ (PySem.F.args_zip_iter_1 _))
 show wpAny _ _ (ret (Value.ref z)) _ _ s
 exact Q8 ⟨_,rfl,"zip",_,ty,PySem.F.slot_zip_next.lookup,q⟩
end
theorem tR{P:Program}{w:World}{K:Q5}{nm:Str}{pos:Pos}{b d:Bool}{z I O i j a c:Addr}(D:ZA z I O i j a c) :
  C5 P w K (.Name nm pos) (Itz K b d a c) [z,I,O,i,j] z (fun n h=>ZN b d h z I O i j a c n) where
 mem:=by simp
 obj:=fun n h st e he=>by
  obtain⟨f,fl,_,hz,hI,⟨p,q,hO⟩,h1,h2⟩:=st
  simp only[QM,Z5,or_false]at he
  rcases he with rfl|rfl|rfl|rfl|rfl
  ·exact⟨_,hz,fun v q=>by cases q⟩
  ·exact⟨_,hI,fun v q=>by cases q⟩
  ·exact⟨_,hO,fun v q=>by cases q⟩
  ·exact h1.obj
  ·exact h2.obj
 keep:=fun n h h' st kp=>st.at_ kp
 item:=by
  intro X hP hw hK hc n pins s σ H E Iv hf st hg
  subst hP hw hK
  obtain⟨xs,ys,x,y,qa,qc,hx,hy⟩:=hg
  obtain⟨ia,ra,sa⟩:=Iv.sq qa
  obtain⟨ic,rc,sc⟩:=Iv.sq qc
  obtain⟨u,hu,ru⟩:=ra.get hx
  obtain⟨v,hv,rv⟩:=rc.get hy
  refine Aj D st sa sc (x:=u) (y:=v) (by simpa using hu) (by simpa using hv) fun h2 st1 T2 up1=>⟨_,rfl,Q8 ?_⟩
  have hfr:H s.heap.objs.size=none:=Iv.hok.fresh (QJ _)
  have sz:∀e∈[z,I,O,i,j],e<s.heap.objs.size:=fun e he=>by
   simp only[QM,Z5,or_false]at he
   obtain⟨f,fl,_,hz,hI,⟨p,q,hO⟩,h1',h2'⟩:=st
   rcases he with rfl|rfl|rfl|rfl|rfl
   ·exact QX hz
   ·exact QX hI
   ·exact QX hO
   ·obtain⟨o,e,_⟩:=h1'.obj;exact QX e
   ·obtain⟨o,e,_⟩:=h2'.obj;exact QX e
  have I1:Inv X pins σ (upd H s.heap.objs.size (.tup [x,y])) { s with heap:=s.heap.push { cls:=.type "tuple",data:=.seq #[u,v] },toks:=s.toks }:=
   Iv.laid (fun b o e=>Q4 _ e) (QJ _) (qA (QY _ rfl) ru rv)
  have fr2:∀e∈[z,I,O,i,j],(upd H s.heap.objs.size (.tup [x,y])) e=none:=fun e he=>by rw[aV (QC (sz e he))];exact(hf e he).1
  have I2:Inv X pins σ (upd H s.heap.objs.size (.tup [x,y])) { s with heap:=h2,toks:=s.toks }:=
   Inv.turnedL (s:={ s with heap:=s.heap.push { cls:=.type "tuple",data:=.seq #[u,v] },toks:=s.toks }) (h':=h2) (t':=s.toks) (ch:=[z,I,O,i,j]) I1 (fun e o hn q=>by
    by_cases ce:e=s.heap.objs.size
    ·subst ce
     have q':(s.heap.push { cls:=.type "tuple",data:=.seq #[u,v] }).get? s.heap.objs.size=some o:=q
     rw[QY _ rfl]at q'
     cases q';exact T2
    ·have q':s.heap.get? e=some o:=xP q ce
     simp only[QM,Z5,or_false,not_or]at hn
     exact up1 e o hn.1 hn.2.2.1 hn.2.2.2.1 hn.2.2.2.2 q') fun e he=>⟨fr2 e he,(hf e he).2⟩
  refine⟨.ref s.heap.objs.size,_,I2,rfl,⟨_,x,y,rfl,hfr,rfl,fun xs' q=>by rw[Iv.sq_inj q qa];exact hx,fun ys' q=>by rw[Iv.sq_inj q qc];exact hy⟩,st1,fr2⟩
 done:=by
  intro X hP hw hK hc n pins s σ H E Iv hf st hg
  subst hP hw hK
  obtain⟨xs,ys,qa,qc,hx⟩:=hg
  obtain⟨ia,ra,sa⟩:=Iv.sq qa
  obtain⟨ic,rc,sc⟩:=Iv.sq qc
  have la:=ra.length
  have lc:=rc.length
  refine Dc (Iv.ok.hd hc) D st sa sc (hx.elim (fun q=>.inl (by simp;omega)) fun q=>.inr (by simp;omega)) fun h1 up1=>⟨rfl,?_⟩
  exact Iv.turnedL (t':=s.toks) (ch:=[z,I,O,i,j]) (fun e o hn q=>by
   simp only[QM,Z5,or_false,not_or]at hn
   exact up1 e o hn.1 hn.2.2.1 hn.2.2.2.1 hn.2.2.2.2 q) hf
 self:=fun _ _ _ _ _ st h=>Ai st h
section
variable{X:Cx}{pos:Pos}
theorem A0{nm:Str}{tp p:Pos}{a c:Expr}{ta:TA}(hg:L2.Gl X "zip")(hm:X.mg "zip"=none)(ha:WA X [a,c] ta)
  (hs:starEach [a,c] X.env=(false,eval a X.env)::starEach [c] X.env:=by rfl) (hpl:(backTo pos (starEach [c] X.env)).any (·.1)=false:=by rfl):WI X (.Name nm tp) (.Call (.Name "zip" p) [a,c] [] pos) (HC X.K ta):=by
 constructor
 intro pins s σ H R I h
 refine wpAny_Call_Name_kw (gY I hg hm OP.rz ?_)
 refine PyProof.Rows.callWith_type1 (thn (ha.h pos pins s σ H _ I h) fun us s1 hz=>?_) hs hpl
 obtain⟨vs,H1,I1,r1,q1⟩:=hz
 obtain⟨b,d,aa,cc,rfl,⟨xs,qa⟩,⟨ys,qc⟩,q⟩:=q1
 obtain⟨u,v,rfl,ru,rv⟩:=rP r1
 cases ru
 cases rv
 obtain⟨ia,ra,sa⟩:=I1.sq qa
 obtain⟨ic,rc,sc⟩:=I1.sq qc
 refine pN sa sc fun h1 z II O i j D st hi up=>wpAny_pyIter_zip st.hz ⟨z,[z,II,O,i,j],_,_,H1,rfl,I1.kept (t':=s1.toks) up,tR D,⟨.none,false,.inl rfl,st.hz,st.hI,st.hO,st.h1,st.h2⟩,fun e he=>?_,q⟩
 exact I1.fpOk (hi e he) (I1.hok.fresh (hi e he))
theorem Bt{nm:Str}{tp p:Pos}{a c:Expr}{ca cc:CE}(hg:L2.Gl X "zip")(hm:X.mg "zip"=none)(ha:QE X a ca)(hc:QE X c cc)
  (hs:starEach [a,c] X.env=(false,eval a X.env)::starEach [c] X.env:=by rfl) (hs2:starEach [c] X.env=(false,eval c X.env)::starEach [] X.env:=by rfl) (hpl:(backTo pos (starEach [c] X.env)).any (·.1)=false:=by rfl) :
  QI X (.Name nm tp) (.Call (.Name "zip" p) [a,c] [] pos) (C1 ca cc):=(A0 hg hm (cy ha (cy hc fg hs2) hs) hs hpl).imp fun σ H R hz=>sE hz fun m ρ S us ok S' sr lr hf post=>by
 obtain⟨⟨x,S1⟩,h1,h⟩:=Q3.mp hf
 obtain⟨⟨y,S2⟩,h2,h⟩:=Q3.mp h
 obtain⟨⟨xs,okx⟩,h3,h⟩:=Q3.mp h
 obtain⟨⟨ys,oky⟩,h4,h⟩:=Q3.mp h
 cases h
 refine⟨m,ρ,S,x,S1,sr,lr,h1,fun m1 v1 H1 e1 sr1 i1=>⟨m1,ρ,S1,y,_,sr1,lr.mono e1,h2,fun m2 v2 H2 e2 sr2 i2=>?_⟩⟩
 obtain⟨b,aa,rfl,q1,k1⟩:=qi sr2 (i1.mono e2) h3
 obtain⟨d,bb,rfl,q2,k2⟩:=qi sr2 i2 h4
 refine⟨b,d,aa,bb,rfl,q1,q2,post m2 H2 _ (e1.trans e2) sr2 fun m3 S3 H3 i e3 sr3 hok=>?_⟩
 obtain⟨vs,sq1,l1⟩:=k1 m3 S3 H3 e3 sr3 hok.1
 obtain⟨ws,sq2,l2⟩:=k2 m3 S3 H3 e3 sr3 hok.2
 have n1:=l1.length
 have n2:=l2.length
 refine⟨fun u hu=>?_,fun hi=>⟨vs,ws,sq1,sq2,?_⟩⟩
 ·simp only[jH,Qv,Qm]at hu
  obtain⟨⟨p,q⟩,hz,rfl⟩:=hu
  obtain⟨hp,hq⟩:=Ql.mp hz
  obtain⟨vp,ep,ip⟩:=l1.getD hp
  obtain⟨vq,eq,iq⟩:=l2.getD hq
  refine⟨⟨vs,ws,vp,vq,sq1,sq2,ep,eq⟩,fun v H4 hy=>?_⟩
  obtain⟨r,x',y',rfl,hr,rfl,f1,f2⟩:=hy
  have:=f1 vs sq1
  rw[ep]at this;cases this
  have:=f2 ws sq2
  rw[eq]at this;cases this
  have ee:Ext X.K m3 H3 m3 (upd H3 r (.tup [vp,vq])):=.of (br hr _)
  exact⟨ee,sr3.same (eJ hr _),.tup_ (SqT.of aJ) (.cons_ (ip.mono ee) (.cons_ (iq.mono ee) .nil_))⟩
 ·simp only[jH,QZ,List.length_zip]at hi
  omega
end
theorem uM(its:List Value)(k:Nat):slicePick its.toArray none (some (k:Int)) (some (-1))=(its.drop (k+1)).reverse.toArray:=by
 have hb:sliceBounds none (some (k:Int)) (some (-1)) its.length=((its.length:Int)-1,max (-1) (min (k:Int) ((its.length:Int)-1)),-1):=by
  have h1:¬((k:Int)<0):=by omega
  have h0:¬((-1:Int)>0):=by decide
  simp only[sliceBounds,Qi,h0,h1,if_false]
 have hr:sliceRange ((its.length:Int)-1) (max (-1) (min (k:Int) ((its.length:Int)-1))) (-1)=((Qj (its.length-(k+1))).map fun i=>(k+1)+i).reverse:=by
  unfold sliceRange
  have h0:¬((-1:Int)>0):=by decide
  simp only[h0,if_false]
  have hc:(if (its.length:Int)-1>max (-1) (min (k:Int) ((its.length:Int)-1))then((its.length:Int)-1-max (-1) (min (k:Int) ((its.length:Int)-1)) - -1-1) / - -1 else 0).toNat=its.length-(k+1):=by
   by_cases h:(its.length:Int)-1>max (-1) (min (k:Int) ((its.length:Int)-1))
   ·rw[if_pos h,Int.neg_neg,Int.ediv_one];omega
   ·rw[if_neg h];simp;omega
  rw[hc,<-List.map_reverse,<-kS,Qc]
  refine Zu fun i hi=>?_
  have:=Qu.mp hi
  simp only[Function.comp]
  omega
 unfold slicePick
 rw[QD,hb]
 simp only[hr]
 rw[List.filterMap_reverse]
 have:=pick_run its.toArray (k+1) (its.length-(k+1))
 rw[this,Z4 (by simp)]
section
variable{X:Cx}{K:Q5}
def IS(K:Q5)(te th ts:TE):TE:=fun σ H Q=>te σ H fun x H1=>th σ H1 fun y H2=>ts σ H2 fun z H3=>∃(a:Addr) (xs:List V) (k:Nat),x=.ref a/\SqL K H3 a xs/\y=.int (k:Int)/\z=.int (-1)/\∀p,H3 p=none->Q (.ref p) (upd H3 p (.lst (xs.drop (k+1)).reverse))
theorem mV:∀{xs:List V} {us:List Value} (k:Nat),a5 xs us->a5 (xs.drop k) (us.drop k)
 |xs,us,0,r=>r
 |[],us,k+1,r=>by cases r;exact .nil
 |x::xs,us,k+1,r=>by
  cases r with
  |cons r1 r2=>exact mV k r2
theorem AU{e hi st:Expr}{te th ts:TE}{pos p2:Pos}(he:WE X e te)(hh:WE X hi th)(hst:WE X st ts):WE X (.Subscript e (.Slice none (some hi) (some st) p2) pos) (IS X.K te th ts):=by
 constructor
 intro pins s σ H Q I h
 refine Subscript_ (thn (he.h pins s σ H _ I h) fun v s1 hz=>?_)
 obtain⟨x,H1,I1,r1,q1⟩:=hz
 refine wpAny_Slice ?_
 rw[evalPart_none]
 refine Q8 ?_
 show wpAny _ _ (eval hi X.env) _ _ s1
 refine thn (hh.h pins s1 σ H1 _ I1 q1) fun vh s2 hz=>?_
 obtain⟨yh,H2,I2,rh,q2⟩:=hz
 show wpAny _ _ (eval st X.env) _ _ s2
 refine thn (hst.h pins s2 σ H2 _ I2 q2) fun vs s3 hz=>?_
 obtain⟨y,H3,I3,ry,a,xs,k,rfl,hx,rfl,rfl,q⟩:=hz
 cases r1
 obtain⟨t,rfl⟩:=(show ∃t,vs=Value.int (-1) t from ry)
 obtain⟨th',rfl⟩:=(show ∃t,vh=Value.int (k:Int) t from rh)
 have I4:Inv X pins σ H3 { s3 with heap:=s3.heap.push { cls:=.type "slice",data:=.fields #[.none,.int (k:Int) th',.int (-1) t] } }:=I3.kept (t':=s3.toks) fun b ob q=>Q4 _ q
 obtain⟨its,r,ht,hz⟩:=I4.list hx
 have hlen:=r.length
 show wpAny (model X.prog X.w) X.A (subscriptTail e (.Slice none (some hi) (some st) p2) (.ref a) (.ref s3.heap.objs.size)) (EP X pins σ Q) X.xe { s3 with heap:=s3.heap.push { cls:=.type "slice",data:=.fields #[.none,.int (k:Int) th',.int (-1) t] } }
 refine tail_any (ops:=[.ref a,.ref s3.heap.objs.size]) ht.isList.typeIs slot_list_getitem.lookup ?_ (by with_unfolding_all rfl)
 refine wpAny_getItem_list_slice ht.isList (Heap.IsSliceOf.new ..) .none (.int _ th') (.int _ t) (by simp) ?_ (by rw[QD]<;>omega)
 rw[uM its k]
 refine⟨.ref _,_,I4.laid (t':=s3.toks) (o:=.lst (xs.drop (k+1)).reverse) (fun b ob q=>Q4 _ q) (QJ _) ?_,rfl,q _ (I4.hok.fresh (QJ _))⟩
 exact⟨by simp;omega,_,0,lO (mV _ r),QY _ rfl⟩
def HH(x y z:U)(S:Sto):Option (U×Sto):=match x with
 |.ref l=>match y with
  |.int i=>match z with
   |.int j=>match S[l]? with
    |some (.lst us)=>if 0<=i/\j=-1 then some (.ref S.length,S++[.lst (us.drop (i.toNat+1)).reverse])else none
    |_=>none
   |_=>none
  |_=>none
 |_=>none
def F8(ca ch cs:CE):CE:=fun ρ S=>(ca ρ S).bind fun p=>(ch ρ p.2).bind fun q=>(cs ρ q.2).bind fun r=>HH p.1 q.1 r.1 r.2
theorem GY{e hi st:Expr}{ca ch cs:CE}{pos p2:Pos}(ha:QE X e ca)(hh:QE X hi ch)(hs:QE X st cs):QE X (.Subscript e (.Slice none (some hi) (some st) p2) pos) (F8 ca ch cs):=
 (AU ha hh hs).imp fun σ H Q hz=>ie hz fun m ρ S u S' sr lr hc post=>by
 obtain⟨⟨x,S1⟩,h1,h⟩:=Q3.mp hc
 obtain⟨⟨y,S2⟩,h3,h⟩:=Q3.mp h
 obtain⟨⟨z,S3⟩,h5,h4⟩:=Q3.mp h
 refine⟨m,ρ,S,_,S1,sr,lr,h1,fun m1 v1 H1 e1 sr1 i1=>⟨m1,ρ,S1,_,S2,sr1,lr.mono e1,h3,fun m2 v2 H2 e2 sr2 i2=>⟨m2,ρ,S2,_,S3,sr2,(lr.mono e1).mono e2,h5,fun m3 v3 H3 e3 sr3 i3=>?_⟩⟩⟩
 cases x with
 |ref l=>
  cases y with
  |int i=>
   cases z with
   |int j=>
    simp only[HH]at h4
    split at h4<;>try cases h4
    rename_i us hS
    obtain⟨a,ha,rfl⟩:=((i1.mono e2).mono e3).of_ref
    obtain⟨a',ha',xs,hx,la⟩:=sr3.get hS
    rw[ha]at ha';cases ha'
    by_cases hi:0<=i/\j=-1
    case neg=>rw[if_neg hi]at h4;cases h4
    rw[if_pos hi]at h4
    obtain⟨hi0,rfl⟩:=hi
    cases h4
    have hy:=(i2.mono e3).of_int
    refine⟨a,xs,i.toNat,rfl,SqL.of hx,by rw[hy,Int.toNat_of_nonneg hi0],i3.of_int,fun p hp=>?_⟩
    have en:Ext X.K m3 H3 (m3++[p]) (upd H3 p (.lst (xs.drop (i.toNat+1)).reverse)):=.new (br hp _)
    exact post (m3++[p]) _ _ (((e1.trans e2).trans e3).trans en) (sr3.new hp ⟨(xs.drop (i.toNat+1)).reverse,aJ,(la.drop _).rev.mono en⟩) (.ref_ (cN sr3.len))
   |_=>cases h4
  |_=>cases h4
 |_=>cases h4
end
end OP
namespace OG
open PySem PySem.Spec PyProof.Rows L2
abbrev n6(X:Cx)(Nc:List Str)(scope:Scope)(a0:Str)(cl:List (Str×Addr))(s3:Shared)(H3:Hp)(fp:List Addr):Cx where
 prog:=X.prog
 w:=X.w
 K:=X.K
 mg:=X.mg
 base:=X.base
 A:=X.A
 N:=Nc
 s₀:=s3
 H₀:=H3
 env:=compEnvC scope ((a0,s3.heap.objs.size+1)::cl) s3.heap.objs.size X.env
 outer:=X.stack
 stack:=X.stack
 ex:=fp
 fn:=fun x=>x == a0
 calm:=X.calm
 pn:=[]
 xe:=fun _ _=>False
theorem Ca{M:Model}{A:Around}{E:Value->Shared->Prop}{s:Shared}{scope:Scope}{globals:Addr}{cl:List (Str×Addr)}{qual:Str}{env:Env}{Q:Env->Shared->Prop}{a0:Str}
  (hcell:∀n acc,cellsFrom n scope.names acc=(a0,n)::acc) (hpush:∀h:Heap,pushCells h scope.names=h.push { cls:=.type "cell",data:=.cell none })
  (hQ:∀h₁:Heap,h₁.Ns s.heap.objs.size (fun _=>none)->(∀b o,s.heap.get? b=some o->h₁.get? b=some o)->h₁.IsCell (s.heap.objs.size+1) none->
   Q { scope:=scope,locals:=s.heap.objs.size,globals:=globals,cells:=(a0,s.heap.objs.size+1)::cl,qual:=qual,func:=none,code:=env.code,frame:=env.frame,builtins:=env.builtins } { s with heap:=h₁ }) :
  wpAny M A (newFunctionEnv scope globals cl [] qual none .none (some env)) Q E s:=by
 simp only[newFunctionEnv,Option.isSome_some,if_true]
 refine Q2 (wpAny_alloc ?_)
 refine Q2 (wpAny_layCells _ (fun name kind cells=>by cases hkc:kind == NameKind.cell<;>simp[hkc]) _ _ _ _ ?_)
 rw[show({ s with heap:=s.heap.push { cls:=.type "dict",data:=.dict #[] } }:Shared).heap.objs.size=s.heap.objs.size+1 from Z7 ..]
 rw[hcell,hpush]
 simp only[ZF]
 refine Q2 (Q8 (Q8 (hQ _ ?_ ?_ ?_)))
 ·exact(Heap.Ns.new s.heap (.type "dict")).keeps fun b o e=>Q4 _ e
 ·exact fun b o e=>Q4 _ (Q4 _ e)
 ·refine⟨{ cls:=.type "cell",data:=.cell none },?_,rfl⟩
  rw[<-Z7 s.heap { cls:=.type "dict",data:=.dict #[] }]
  exact QY _ rfl
theorem o3{env:Env}{a0:Str}{L:Addr}{cl:List (Str×Addr)}{y:Str}{c:Addr}(hcl:mK env cl)(h:((a0,L)::cl).lookup y=some c):(y=a0/\c=L)\/env.cells.lookup y=some c:=by
 rw[Zb]at h
 by_cases e:(y == a0)=true
 ·rw[e]at h
  cases h
  exact .inl ⟨by simpa using e,rfl⟩
 ·rw[show(y == a0)=false by simpa using e]at h
  exact .inr (hcl.look h)
theorem qJ{a0:Str}{L:Addr}{cl:List (Str×Addr)}{y:Str}(h:y≠a0):((a0,L)::cl).lookup y=cl.lookup y:=by
 rw[Zb,show(y == a0)=false by simpa using h]
section
variable{X:Cx}{pins:List (Addr×Obj)}{σ:L2.St}{H:Hp}{s:Shared}{Nc capN:List Str}{scope:Scope}{a0:Str}{cl:List (Str×Addr)}{fp:List Addr}{n:Nat}{caps:List Nat}
theorem Inv.comp1{h1:Heap}{t':Nat}(I:Inv X pins σ H s)(hc:X.calm=true)(f2:∀b∈fp,pL X pins H b)(fo:∀b∈fp,b<s.heap.objs.size)(hkind:scope.kind=.function)(hcl:mK X.env cl)
  (hhas:((relabel scope X.env).names.all fun p=>!(p.2 == .cell||p.2 == .free)||(((a0,0)::cl).lookup p.1).isSome)=true)
  (hcap:Paired (Cap X scope cl) caps capN) (tn:List Str) (hN:Nc=tn++capN) (hn:tn.length=n)
  (hne:a0∉capN) (hns:h1.Ns s.heap.objs.size (fun _=>none)) (hc1:h1.IsCell (s.heap.objs.size+1) none) (hk:∀b o,s.heap.get? b=some o->h1.get? b=some o) :
  Inv (n6 X Nc scope a0 cl s H fp) [] (stC n caps σ) H { s with heap:=h1,toks:=t' }:=by
 have lkc:∀y c,cl.lookup y=some c->X.env.cells.lookup y=some c:=fun y c e=>hcl.look e
 have oldc:∀y c,X.env.cells.lookup y=some c->c≠s.heap.objs.size+1:=fun y c e=>by
  obtain⟨v,o,ho,hd⟩:=I.cell y c e
  exact QC (ZJ (QX ho))
 refine⟨⟨I.ok.mod,?_,I.ok.glob,I.ok.blt,QJ _,fun x y c a b=>?inj,fun x hx=>?_,fun x c z e=>?cab,I.ok.hd,I.ok.frames,.inl rfl,fun b hb=>⟨QC (fo b hb),fun x c e=>?exf⟩,I.bs,Qy I.ok.bsz I.sz,
  fun b o e hb=>?_,fun b hb z=>?_,I.stack,I.stkFree⟩,rfl,I.bare,Un.kept hk,⟨_,hns,fun i y v h1' h2 h3=>?_⟩,fun y c e=>?_,I.hok.fresh (QJ _),fun y c e=>?freeC,fun p hp=>(by simp at hp),I.hok.kept hk,?_⟩
 case inj=>
  rcases o3 hcl a with⟨rfl,rfl⟩|a'
  ·rcases o3 hcl b with⟨rfl,_⟩|b'
   ·rfl
   ·exact absurd rfl (oldc _ _ b')
  ·rcases o3 hcl b with⟨rfl,rfl⟩|b'
   ·exact absurd rfl (oldc _ _ a')
   ·exact I.ok.inj x y c a' b'
 case cab=>
  have z':x=a0:=by simpa using z
  subst z'
  have e':((x,s.heap.objs.size+1)::cl).lookup x=some c:=e
  rw[Zb,show(x == x)=true by simp]at e'
  cases e'
  exact Zm _
 case exf=>
  rcases o3 hcl e with⟨_,rfl⟩|z
  ·exact Ne.symm (QC (ZJ (fo b hb)))
  ·exact(f2 b hb).2.2.2.2.1 x c z
 case freeC=>
  rcases o3 hcl e with⟨_,rfl⟩|z
  ·exact I.hok.fresh (Zm _)
  ·exact I.freeC y c z
 ·exact hkind
 ·have hx':(relabel scope X.env).names.lookup x=some .cell\/(relabel scope X.env).names.lookup x=some .free:=hx
  have mem:∀{k},(relabel scope X.env).names.lookup x=some k->(x,k)∈(relabel scope X.env).names:=fun{k} e=>by
   generalize (relabel scope X.env).names=L at e
   induction L with
   |nil=>simp at e
   |cons p r ih=>
    obtain⟨a,b⟩:=p
    rw[Zb]at e
    by_cases q:(x == a)=true
    ·rw[q]at e;cases e
     have:x=a:=by simpa using q
     subst this;exact QK
    ·rw[show(x == a)=false by simpa using q]at e
     exact QU _ (ih e)
  have fin:∀{k},(k=NameKind.cell\/k=.free)->(relabel scope X.env).names.lookup x=some k->∃c,((a0,s.heap.objs.size+1)::cl).lookup x=some c:=fun{k} hk' e=>by
   have:=List.all_eq_true.mp hhas _ (mem e)
   dsimp only at this
   have q:(((a0,0)::cl).lookup x).isSome=true:=by
    rcases hk' with z|z
    ·subst z;simpa using this
    ·subst z;simpa using this
   by_cases ex:x=a0
   ·subst ex;exact⟨_,by rw[Zb,show(x == x)=true by simp]⟩
   ·rw[qJ ex]at q ⊢
    exact Option.isSome_iff_exists.mp q
  rcases hx' with e|e
  ·exact fin (.inl rfl) e
  ·exact fin (.inr rfl) e
 ·rcases(f2 b hb).2.2.2.1 with z|z
  ·exact I.ok.noex b o e z
  ·exact absurd (Qq (QX e) I.ok.bsz) (Zj.mpr z)
 ·rcases QM.mp (I.stkSub b z)with q|q
  ·exact(f2 b hb).2.1 q
  ·exact(f2 b hb).2.2.1 q
 ·obtain⟨m,hm,hl⟩:=I.loc
  have h2':(stC n caps σ)[i]?=some (some v):=h2
  have h1'':Nc[i]?=some y:=h1'
  unfold stC at h2'
  by_cases hi:i<n
  ·rw[QN (by simpa using hi),ZP,if_pos hi]at h2'
   cases h2'
  ·rw[Qz (by simp;omega),Zy,Qv]at h2'
   rw[hN,Qz (by omega),hn]at h1''
   have key:∀(j:Nat) {caps:List Nat} {capN:List Str},Paired (Cap X scope cl) caps capN->capN[j]?=some y->(Option.map (fun i=>(σ[i]?).getD none) caps[j]?)=some (some v)->∃k,Cap X scope cl k y/\σ[k]?=some (some v):=by
    intro j
    induction j with
    |zero=>
     intro caps capN P e1 e2
     cases P with
     |nil=>simp at e1
     |@cons a b l r p t=>
      simp at e1 e2
      subst e1
      cases q:σ[a]? with
      |none=>rw[q]at e2;simp at e2
      |some w'=>rw[q]at e2;simp at e2;subst e2;exact⟨a,p,q⟩
    |succ j ih=>
     intro caps capN P e1 e2
     cases P with
     |nil=>simp at e1
     |cons p t=>exact ih t (by simpa using e1) (by simpa using e2)
   obtain⟨k,⟨c1,c2,c3,c,c4⟩,e⟩:=key _ hcap h1'' h2'
   obtain⟨u,r,lk⟩:=hl k y v c1 e (.inr (.inl c2))
   have yne:y≠a0:=fun z=>hne (z▸Qo h1'')
   refine⟨u,r,.inr ⟨.inl c3,c,(qJ yne).trans c4,?_⟩⟩
   rcases lk with⟨z,_⟩|⟨_,c',e',o,ho,hd⟩
   ·have z':X.env.scope.names.lookup y=some .local:=z
    rw[c2]at z';cases z'
   ·rw[lkc _ _ c4]at e'
    cases e'
    exact⟨o,hk _ _ ho,hd⟩
 ·rcases o3 hcl e with⟨_,rfl⟩|e'
  ·exact⟨none,hc1⟩
  ·obtain⟨v,o,ho,hd⟩:=I.cell y c e'
   exact⟨v,o,hk _ _ ho,hd⟩
 ·show(stC n caps σ).length=Nc.length
  have pl:caps.length=capN.length:=Paired.length hcap
  unfold stC
  rw[QQ,Zy,QZ,hN,QQ,hn,pl]
end
theorem pB{X:Cx}{Nc capN tn:List Str}{scope:Scope}{a0:Str}{cl:List (Str×Addr)}{n:Nat}{caps:List Nat}{tg iter elt:Expr}{pos:Pos}{wi:TI}{g:TG}{te:TE}{tt:TT}{c:Expr}
  (hc:X.calm=true) (hi:WI X tg iter wi) (hg:∀s3 H3 fp,WG (n6 X Nc scope a0 cl s3 H3 fp) tg g) (he:∀s3 H3 fp,WE (n6 X Nc scope a0 cl s3 H3 fp) elt te)
  (ht:∀s3 H3 fp,WT (n6 X Nc scope a0 cl s3 H3 fp) c tt)
  (hclos:closureFor scope X.env=pure cl) (hkind:scope.kind=.function) (hnl:∀x∈scope.names,x.2=.local->scope.names.lookup x.1=some .local) (hcell:∀n acc,cellsFrom n scope.names acc=(a0,n)::acc) (hpush:∀h:Heap,pushCells h scope.names=h.push { cls:=.type "cell",data:=.cell none }) (hne:a0∉capN)
  (hcl:mK X.env cl) (hhas:((relabel scope X.env).names.all fun p=>!(p.2 == .cell||p.2 == .free)||(((a0,0)::cl).lookup p.1).isSome)=true)
  (hcap:Paired (Cap X scope cl) caps capN) (hN:Nc=tn++capN) (hn:tn.length=n)
  {use:Option (Value->Sem Unit)} {pins:List (Addr×Obj)} {σ:L2.St} {H:Hp} {s:Shared} {Q:VK} {Qf:Value->Shared->Prop} (I:Inv X pins σ H s) (h:iC wi g tt te n caps σ H Q)
  (hend:∀(D C:Addr) (s6:Shared) (H5:Hp) (m:Str->Option Value),Inv X pins σ H5 s6->s6.heap.Ns C m->H5 C=none->C≠X.env.locals->X.s₀.heap.objs.size<=C->(∀x c,X.env.cells.lookup x=some c->c≠C)->(∀p∈X.pn++pins,p.1≠C)->Q (.ref D) H5->compPost (model X.prog X.w) X.A X.xe use Qf (.ref D) C (.ok .next) s6)
  (hs:∀x,foldedSetIterable iter X.env x=pure x) :
  wpAny (model X.prog X.w) X.A (comprehension (.ListComp elt [⟨tg,iter,[c],0⟩] scope pos) scope X.env (firstIterPos [⟨tg,iter,[c],0⟩] pos) (newList []) (firstAsync [⟨tg,iter,[c],0⟩]) (firstIter [⟨tg,iter,[c],0⟩] X.env) use) Qf X.xe s:=by
 refine wpAny_comprehension_free (use:=use) (g:=⟨tg,iter,[c],0⟩) (gs:=[]) rfl hs hclos hkind hnl (thn (hi.h pins s σ H _ I h) fun v s1 h1=>thn h1 fun itv s2 h2=>?_)
 obtain⟨it,fp,tnn,J,H2,rfl,I2,T,st2,f2,hW⟩:=h2
 have hD:=I2.fresh
 obtain⟨W,⟨m0,w0⟩,turn⟩:=hW _ hD
 refine wpAny_newObj_type (Ca hcell hpush fun h₁ hns₁ hsb₁ hc1=>?_)
 dsimp only at hns₁ hsb₁ hc1 ⊢
 have I3:Inv X pins σ (upd H2 s2.heap.objs.size (.lst [])) { s2 with heap:=s2.heap.push { cls:=.type "list",dict:=none,data:=.seq ([]:List Value).toArray },toks:=s2.toks }:=I2.lnew (its:=[]) .nil (Qs _)
 generalize hs3:({ s2 with heap:=s2.heap.push { cls:=.type "list",dict:=none,data:=.seq ([]:List Value).toArray },toks:=s2.toks }:Shared)=s3 at I3
 have es3:s3.heap=s2.heap.push { cls:=.type "list",dict:=none,data:=.seq ([]:List Value).toArray }:=by rw[<-hs3]
 generalize hDD:s2.heap.objs.size=D at *
 have kept:∀b o,s3.heap.get? b=some o->h₁.get? b=some o:=fun b o e=>by
  have lt:=QX e
  rw[es3]at lt e
  exact hsb₁ b o e
 have old:∀b o,s2.heap.get? b=some o->s3.heap.get? b=some o:=fun b o e=>by rw[es3];exact Q4 _ e
 have ltD:∀b∈fp,b<D:=fun b hb=>by
  obtain⟨o,e,_⟩:=T.obj 0 _ st2 b hb
  rw[<-hDD];exact QX e
 have fo:∀b∈fp,b<s3.heap.objs.size:=fun b hb=>by
  obtain⟨o,e,_⟩:=T.obj 0 _ st2 b hb
  exact QX (old _ _ e)
 have f3:∀b∈fp,pL X pins (upd H2 D (.lst [])) b:=fun b hb=>by
  refine⟨?_,(f2 b hb).2⟩
  rw[aV (QC (ltD b hb))]
  exact(f2 b hb).1
 rw[<-es3]at hns₁ hsb₁ hc1 ⊢
 have Ic:=fun t'=>Inv.comp1 (h1:=h₁) (t':=t') (Nc:=Nc) (n:=n) I3 hc f3 fo hkind hcl hhas hcap tn hN hn hne hns₁ hc1 kept
 have stat:∀{H':Hp},(∀b∈fp,H' b=none)->∀b∈fp,pL (n6 X Nc scope a0 cl s3 (upd H2 D (.lst [])) fp) [] H' b:=fun hn' b hb=>by
  refine⟨hn' b hb,QC (fo b hb),fun z=>?_,.inl hb,fun x c e=>by
   rcases o3 hcl e with⟨_,rfl⟩|z
   ·exact Ne.symm (QC (ZJ (fo b hb)))
   ·exact(f2 b hb).2.2.2.2.1 x c z,fun p hp=>(by simp at hp)⟩
  rcases QM.mp (I3.stkSub b z)with q|q
  ·exact(f2 b hb).2.1 q
  ·exact(f2 b hb).2.2.1 q
 have loop:∀s4:Shared,(∃t',s4={ s3 with heap:=h₁,toks:=t' })->codeAny (model X.prog X.w) X.A (.compLoop (.ListComp elt [⟨tg,iter,[c],0⟩] scope pos) 0 (.ref it) (.ref D) (compEnvC scope ((a0,s3.heap.objs.size+1)::cl) s3.heap.objs.size X.env))
   (compPost (model X.prog X.w) X.A X.xe use Qf (.ref D) s3.heap.objs.size) s4:=by
  rintro s4 ⟨t',rfl⟩
  refine fS (fun n' s'=>∃i σ' H',Inv (n6 X Nc scope a0 cl s3 (upd H2 D (.lst [])) fp) [] σ' H' s'/\tnn i s'.heap/\(∀b∈fp,H' b=none)/\W i n' σ' H') ?_ m0
   ⟨0,_,_,Ic t',T.keep 0 _ _ st2 fun b hb o e=>kept _ _ (old _ _ e),fun b hb=>(f3 b hb).1,w0⟩
  rintro n' s5 ⟨i,σ5,H5,I5,st5,fr5,w5⟩
  rcases turn i n' σ5 H5 w5 with⟨stop,qn⟩|⟨go,N,hN',step⟩
  ·refine thn (T.done (n6 X Nc scope a0 cl s3 (upd H2 D (.lst [])) fp) rfl rfl rfl hc i [] s5 σ5 H5 (fun _ _=>False) I5 (stat fr5) st5 stop) fun r s6 ⟨hr,I6⟩=>?_
   subst hr
   obtain⟨m,hm,_⟩:=I6.loc
   have I7:Inv X pins σ H5 s6:=Inv.call' (ch:=fp) I3 I6.os I6.base I6.hok I6.bare fun b hb=>⟨(f2 b hb).2.2.2.1,(f2 b hb).2.1,(f2 b hb).2.2.2.2.1,(f2 b hb).2.2.2.2.2⟩
   exact hend D _ s6 H5 m I7 hm I6.free (Ne.symm (QC I3.lt)) I3.sz (fun x c e=>by
     obtain⟨v',o,ho,_⟩:=I3.cell x c e
     exact QC (QX ho)) (fun p hp=>QC (QX (I3.pin p hp).1)) qn
  ·refine thn (T.item (n6 X Nc scope a0 cl s3 (upd H2 D (.lst [])) fp) rfl rfl rfl hc i [] s5 σ5 H5 (fun _ _=>False) I5 (stat fr5) st5 go) fun r s6 ⟨u,hr,h6⟩=>?_
   subst hr
   refine thn h6 fun _ s7 hz=>?_
   obtain⟨x,H7,I7,r7,y7,st7,fr7⟩:=hz
   have I7':=I7.pinned (stat fr7) (T.obj _ _ st7)
   refine thn ((hg s3 (upd H2 D (.lst [])) fp).h _ s7 σ5 H7 x u _ I7' r7 (step x H7 y7)) fun _ s8 hz=>?_
   obtain⟨σ8,H8,I8,q8⟩:=hz
   have fin:∀{s10:Shared} {H10:Hp},Inv (n6 X Nc scope a0 cl s3 (upd H2 D (.lst [])) fp) _ σ8 H10 s10->N σ8 H10->∃m',m'<n'/\∃i' σ' H',Inv (n6 X Nc scope a0 cl s3 (upd H2 D (.lst [])) fp) [] σ' H' s10/\tnn i' s10.heap/\(∀b∈fp,H' b=none)/\W i' m' σ' H':=fun{s10 H10} I10 q10=>by
    obtain⟨m',hm,w10⟩:=hN' σ8 H10 q10
    refine⟨m',hm,i+1,σ8,H10,Inv.unpinned I10,T.keep _ _ _ st7 fun b hb o e=>(Inv.pin I10 (b,o) (Qr _ (Qr _ (cf hb e)))).1,fun b hb=>?_,w10⟩
    obtain⟨o,e,d⟩:=T.obj _ _ st7 b hb
    exact(Inv.pin I10 (b,o) (Qr _ (Qr _ (cf hb e)))).2.1
   refine thn ((ht s3 (upd H2 D (.lst [])) fp).h _ s8 σ8 H8 _ I8 q8) fun b9 s9' h9=>?_
   obtain⟨H9',I9',q9'⟩:=h9
   cases b9 with
   |false=>exact fin I9' q9'
   |true=>
    refine thn ((he s3 (upd H2 D (.lst [])) fp).h _ s9' σ8 H9' _ I9' q9') fun v9 s9 hz=>?_
    obtain⟨x9,H9,I9,r9,ys,hy,hlt,q9⟩:=hz
    exact thn (gR (X:=n6 X Nc scope a0 cl s3 (upd H2 D (.lst [])) fp) _ s9 σ8 H9 (.ref D) [x9] (.ref D) [v9] (fun _ H'=>N σ8 H') I9 rfl (.cons r9 .nil) ⟨D,ys,x9,rfl,rfl,hy,hlt,q9⟩) fun _ s10 ⟨_,H10,I10,_,q10⟩=>fin I10 q10
 have e4:∀t',({ s2 with heap:=h₁,toks:=t' }:Shared)={ s3 with heap:=h₁,toks:=t' }:=fun t'=>by rw[<-hs3]
 refine codeAny_compStart_list (loop _ ⟨_,e4 _⟩) (T.self _ 0 _ _ _ (T.keep 0 _ _ st2 fun b hb o e=>kept _ _ (old _ _ e)) (loop _ ⟨_,e4 _⟩))
theorem lM{X:Cx}{Nc capN tn:List Str}{scope:Scope}{a0:Str}{cl:List (Str×Addr)}{n:Nat}{caps:List Nat}{tg iter elt:Expr}{pos:Pos}{wi:TI}{g:TG}{te:TE}{tt:TT}{c:Expr}
  (hc:X.calm=true) (hi:WI X tg iter wi) (hg:∀s3 H3 fp,WG (n6 X Nc scope a0 cl s3 H3 fp) tg g) (he:∀s3 H3 fp,WE (n6 X Nc scope a0 cl s3 H3 fp) elt te)
  (ht:∀s3 H3 fp,WT (n6 X Nc scope a0 cl s3 H3 fp) c tt)
  (hclos:closureFor scope X.env=pure cl) (hkind:scope.kind=.function) (hnl:∀x∈scope.names,x.2=.local->scope.names.lookup x.1=some .local) (hcell:∀n acc,cellsFrom n scope.names acc=(a0,n)::acc) (hpush:∀h:Heap,pushCells h scope.names=h.push { cls:=.type "cell",data:=.cell none }) (hne:a0∉capN)
  (hcl:mK X.env cl) (hhas:((relabel scope X.env).names.all fun p=>!(p.2 == .cell||p.2 == .free)||(((a0,0)::cl).lookup p.1).isSome)=true)
  (hcap:Paired (Cap X scope cl) caps capN) (hN:Nc=tn++capN) (hn:tn.length=n)
  {i₀:Nat} {x₀:Str} {pos₀ pos':Pos} (hN0:X.N.Nodup) (hi0:X.N[i₀]?=some x₀) (hx0:X.env.scope.names.lookup x₀=some .local)
  (hsw:swapsWith (.ListComp elt [⟨tg,iter,[c],0⟩] scope pos) (some (.Name x₀ pos')) pos₀.line X.env=pure true)
  (hs:∀x,foldedSetIterable iter X.env x=pure x:=by intro _;rfl) :
  WS X (.Assign [.Name x₀ pos'] (.ListComp elt [⟨tg,iter,[c],0⟩] scope pos) pos₀) (fun D σ H=>iC wi g tt te n caps σ H fun v H'=>D.nx (σ.set i₀ (some v)) H'):=by
 constructor
 intro pins s σ H Dn I h
 rw[exec_Assign_arm]
 refine Q2 (wpAny_standAt ?_)
 have hsw':swapsWithSole [.Name x₀ pos'] (.ListComp elt [⟨tg,iter,[c],0⟩] scope pos) pos₀.line X.env=pure true:=hsw
 rw[hsw']
 refine Q2 (Q8 ?_)
 rw[if_pos rfl,arm_evalThenUse_ListComp]
 refine Q2 (Q2 (pB (Qf:=fun _ s'=>wpAny (model X.prog X.w) X.A (pure ()) (fun _ s'=>wpAny (model X.prog X.w) X.A (pure Flow.next) (SP X pins Dn) X.xe s') X.xe s') hc hi hg he ht hclos hkind hnl hcell hpush hne hcl hhas hcap hN hn I h (fun D C s6 H5 m I7 hm fr nl sz cn pn qn=>?_) hs))
 show wpAny _ _ (assign (.Name x₀ pos') X.env (.ref D)) _ _ s6
 rw[arm_assign_Name]
 refine Q2 (wpAny_standAt (wpAny_bindName (jv (v:=.ref D) I7 hN0 hi0 (.inl hx0) rfl (fun s7 I7' hsb=>?_) (.inr hx0))))
 obtain⟨a7,hsb,ha7⟩:=hsb
 have cNe:C≠a7:=by
  rcases ha7 with z|z
  ·rw[z];exact nl
  ·exact Ne.symm (cn _ _ z)
 refine⟨m,zD hm hsb cNe,fun h' hs'=>Q8 (Q8 ⟨_,H5,?_,qn⟩)⟩
 exact I7'.turned (t':=s7.toks) (it:=C) (fun b o hb e=>hs'.extBut b o hb e) fr nl (.inr sz) cn pn
end OG
namespace OP
open PySem PySem.Spec PyProof.Rows L2 OG
section
variable{X:Cx}{K:Q5}
theorem l0{i₀:Nat}{x₀:Str}{pos₀ pos':Pos}{Nc capN tn:List Str}{scope:Scope}{a0:Str}{cl:List (Str×Addr)}{n:Nat}{caps:List Nat}{tg iter elt:Expr}{pos:Pos}{ci:CI}{g:CG}{ct:CT}{ce:CE}{c:Expr}
  (hc:X.calm=true) (hi:QI X tg iter ci) (hg:∀s3 H3 fp,WG (n6 X Nc scope a0 cl s3 H3 fp) tg (tG X.K g)) (ht:∀s3 H3 fp,WT (n6 X Nc scope a0 cl s3 H3 fp) c (tT X.K ct)) (he:∀s3 H3 fp,WE (n6 X Nc scope a0 cl s3 H3 fp) elt (tE X.K ce))
  (hclos:closureFor scope X.env=pure cl) (hkind:scope.kind=.function) (hnl:∀x∈scope.names,x.2=.local->scope.names.lookup x.1=some .local) (hcell:∀n acc,cellsFrom n scope.names acc=(a0,n)::acc) (hpush:∀h:Heap,pushCells h scope.names=h.push { cls:=.type "cell",data:=.cell none }) (hne:a0∉capN)
  (hcl:mK X.env cl) (hhas:((relabel scope X.env).names.all fun p=>!(p.2 == .cell||p.2 == .free)||(((a0,0)::cl).lookup p.1).isSome)=true)
  (hcap:Paired (Cap X scope cl) caps capN) (hN:Nc=tn++capN) (hn:tn.length=n)
  (hN0:X.N.Nodup) (hi0:X.N[i₀]?=some x₀) (hx0:X.env.scope.names.lookup x₀=some .local)
  (hsw:swapsWith (.ListComp elt [⟨tg,iter,[c],0⟩] scope pos) (some (.Name x₀ pos')) pos₀.line X.env=pure true)
  (hs:∀x,foldedSetIterable iter X.env x=pure x:=by intro _;rfl) :
  QS X (.Assign [.Name x₀ pos'] (.ListComp elt [⟨tg,iter,[c],0⟩] scope pos) pos₀) (bM i₀ (aG ci g ct ce n caps)):=(lM hc hi hg he ht hclos hkind hnl hcell hpush hne hcl hhas hcap hN hn hN0 hi0 hx0 hsw hs).imp fun D σ H hz=>sE hz fun m ρ S o ρ' S' sr lr hc post=>by
 obtain⟨⟨u,S1⟩,h1,h2⟩:=Q3.mp hc
 cases h2
 exact iP _ _ _ ⟨m,ρ,S,u,_,sr,lr,h1,fun m1 v1 H1 e1 sr1 i1=>post m1 _ H1 e1 sr1 ((lr.mono e1).set i₀ i1)⟩
end
section
variable{P:Program}{w:World}{K:Q5}{h base:Heap}{mg:Str->Option Value}{x q:Str}{st:Stmt}{f C:Addr}{oc:Value}{od an:Option Addr}{osl:Array (Option Value)}{kV doc pm cdv ct:Value}{ps N:List Str}{k:Nat}{c:CS}{cl:Cl}
def Jk(K:Q5)(x q:Str)(st:Stmt)(f:Addr):Prop:=∃fd,Fun K x q st f fd
abbrev fAt(x q:Str)(st:Stmt)(oc:Value)(od an:Option Addr)(osl:Array (Option Value))(kV doc pm cdv ct:Value):Obj:=⟨oc,od,.func (PySem.W.fnOf x q (gf st) (dJ st) (aE st) .none kV doc pm an cdv ct),osl⟩
def FU(K:Q5)(x:Str)(st:Stmt):Prop:=∃f,PySem.W.nsIn K mainGlobals x=some (some (.ref f))/\Jk K x x st f
theorem Jc(a:PySem.W.nsIn K mainGlobals x=some (some (.ref f)))(l:K.lookup f=some (fAt x x st oc od an osl kV doc pm cdv ct))(c:PySem.W.codeIn K cdv x=true)(k:PySem.W.keepIn K (.ref f)=true):FU K x st:=⟨f,a,_,Fp l c k⟩
def FT(K:Q5):List (Str×Stmt)->Prop
 |[]=>True
 |(x,st)::r=>FU K x st/\FT K r
def Gb(K:Q5):List Str->Prop
 |[]=>True
 |x::r=>PySem.W.nsIn K mainGlobals x=some none/\Gb K r
abbrev Bd(x q:Str)(st:Stmt)(ps:List Str):Prop:=∀us:List Value,us.length=ps.length->∀(kV doc pm:Value) (an:Option Addr) (cdv ct:Value),bindArgs (PySem.W.fnOf x q (gf st) (dJ st) (aE st) .none kV doc pm an cdv ct) ⟨us,[]⟩=pure (ps.zip us)
theorem FU.df(d:FU K x st)(X:K.In h)(G:h.Ns mainGlobals mg)(b:Bd x x st ps:=by first|exact IG fun _ _ _ _ _ _=>rfl|(repeat (first|exact IG fun _ _ _ _ _ _=>rfl|refine Jh fun _=>?_))):Def K mg x st ps:=by
 obtain⟨f,a,fd,F⟩:=d
 exact⟨f,fd,F,F.binds fun kV doc pm an cdv ct us hl=>b us hl kV doc pm an cdv ct,PySem.W.mg_of X G a⟩
def IH:List Str:=["len","isinstance","int","bool","str","tuple","list","range","min","sum","all","zip","sorted","dict","enumerate","any","max","set"]
theorem Gb.blt(z:Gb K IH)(X:K.In h)(G:h.Ns mainGlobals mg):Blt mg:=by
 obtain⟨a,b,c,d,e,f,g,i,j,k,l,m,n,o,p,q,r,s,-⟩:=z
 constructor<;>(refine PySem.W.mg_none_of X G ?_;assumption)
theorem E1{sp:Sp}{fa:Addr}(d:FU K "law" st)(X:K.In h)(G:h.Ns mainGlobals mg)(hfa:mg "law"=some (.ref fa))(ok:∀fd,Fun K "law" "law" st fa fd->∀base:Heap,oI P w K mg base CX0 k fa fd ["script"] sp)
  (b:∀(kV doc pm:Value) (an:Option Addr) (cdv ct v:Value),bindArgs (PySem.W.fnOf "law" "law" (gf st) (dJ st) (aE st) .none kV doc pm an cdv ct) ⟨[v],[]⟩=pure [(("script":Str),v)]:=by intros;rfl) :
  ∃fd:FuncData,(∀(s:Shared) (v:Value),BindsTo s fd ⟨[v],[]⟩ [("script",v)])/\∀base:Heap,K.In base->base.Ns mainGlobals mg->oI P w K mg base CX0 k fa fd ["script"] sp:=by
 obtain⟨f,a,fd,F⟩:=d
 cases hfa.symm.trans (PySem.W.mg_of X G a)
 refine⟨fd,fun s v=>?_,fun base _ _=>ok fd F base⟩
 obtain⟨oc,od,kV,doc,pm,an,cdv,ct,osl,rfl,lk,hcd⟩:=F.ex
 exact .of_eq (b kV doc pm an cdv ct v)
end
end OP
namespace OQ
open PySem PySem.Spec PyProof.Rows L2 OG OP
def dz:CS:=
 (bq (bM 3 (cOp mM (cOp bE (cOp bE (cOp bE (cOp jg (ae 3) (ae 3)) (cOp jg (cC (.int 50021)) (ae 3))) (cOp jg (cC (.int 19)) (ae 5))) (cC (.int 7))) (cC (.int 2147483563))))
  (bM 4 (cOp bE (cOp jg (ae 4) (cC (.int 2147483563))) (ae 3))))
def cL:CS:=
 (bq (bM 2 (cOp bE (cOp jg (cC (.int 5)) (ae 1)) (cC (.int 3))))
  (bq (kG (aA (cOp fLt (ae 1) (cCB eN (ab (ae 0) ao)))) (bM 2 (cOp fIx (ae 0) (ae 1))) et)
  (bq (kG (aA (cOp fEq (cOp mM (ae 2) (cC (.int 2))) (cC (.int 0)))) (ik (bZ (ab (cOp zS (ae 2) (cC (.int 2))) ao))) et)
  (bq (bM 3 (cOp mM (cOp bE (cOp bE (cOp jg (ae 2) (cC (.int 30011))) (cOp jg (cC (.int 977)) (ae 1))) (cC (.int 41))) (cC (.int 2147483563))))
  (bq (bM 4 (cC (.int 0)))
  (bq (iQ (aK (ab (cC (.int 60)) ao)) (gNm 5) (dz ))
  (ik (bZ (ab (ae 4) ao)))))))))
theorem ph{a0 a1:U}{S:Sto}:fnU 6 2 (cL ) [a0,a1] S=((cL ) [some a0,some a1,none,none,none,none] S).bind kFn:=pQ rfl
def eG:CS:=
 (bq (bM 2 (cOp mM (cOp fIx (ae 0) (cC (.int 0))) (ae 1)))
  (bq (wk (ae 0) (cC (.int 0)) (cOp zS (cOp fIx (ae 0) (cC (.int 0))) (ae 1)))
  (ik (ae 2))))
theorem sG{a0 a1:U}{S:Sto}:fnU 3 2 (eG ) [a0,a1] S=((eG ) [some a0,some a1,none] S).bind kFn:=pQ rfl
def eA(au:Fn)(fuel:Nat):CS:=
 (bq (bM 4 (cCB au (ab (ae 0) (ab (cCB eN (ab (ae 2) ao)) ao))))
  (eQ (cBM bY (ae 3) (ab (cBM lC (ae 2) (ab (ae 4) ao)) ao))))
def cX(au:Fn)(fuel:Nat):CS:=
 (bq (bM 2 (ck (ab (ae 1) ao)))
  (bq (bM 3 (bZ ao))
  (bq (dn (aA (cOp (fJ true) (ae 2) (bZ ao))) (eA au fuel) fuel)
  (ik (ae 3)))))
theorem nY{au:Fn}{fuel:Nat}{a0 a1:U}{S:Sto}:fnU 5 2 (cX au fuel) [a0,a1] S=((cX au fuel) [some a0,some a1,none,none,none] S).bind kFn:=pQ rfl
def dB(au ay:Fn):CS:=
 (bq (bM 6 (aG (iTp (ae 3)) (gNm 0) (aA (cOp fLt (cCB au (ab (ae 1) (ab (cC (.int 5)) ao))) (cC (.int 2)))) (ae 0) 1 [0]))
  (eQ (cBM bY (ae 4) (ab (cCB fb (ab (cOp wU (ae 6) (cOp sD (cC (.int 1)) (cOp jg (cC (.int 2)) (cCB Fv (ab (cOp fEq (cCB au (ab (ae 0) (ab (cC (.int 7)) ao))) (cC (.int 0))) ao))))) ao)) ao))))
def dA(au ay:Fn):CS:=
 (bq (bM 9 (cCB au (ab (ae 0) (ab (ae 2) ao))))
  (bq (bM 5 (cCB au (ab (ae 0) (ab (cCB eN (ab (ae 4) ao)) ao))))
  (bq (bM 6 (cOp bE (bZ (ab (fc (cC (.int 1))) ao)) (aG (iTp (cOp fIx (ae 4) (ae 5))) (gNm 0) (aA (cOp fNe (ae 0) (ae 1))) (ae 0) 1 [9])))
  (bq (bM 10 (cOp bE (bZ (ab (fc (cC (.int 1))) ao)) (aG (iTp (cSl (ae 6) (some (cC (.int 1))) none)) (gNm 0) (aA (cOp fLt (cBM aI (ae 2) (ab (ae 0) ao)) (cBM aI (ae 2) (ab (ae 1) ao)))) (ae 0) 1 [9,3])))
  (gh (ae 7) (ab (ae 9) (ab (ae 5) ao)) (cOp fIx (bZ (ab (cOp fIx (ae 10) (fc (cC (.int 1)))) (ab (cOp fIx (ae 6) (cCB au (ab (ae 0) (ab (cCB eN (ab (ae 6) ao)) ao)))) ao))) (cCB Fv (ab (cOp fEq (cCB au (ab (ae 0) (ab (cC (.int 5)) ao))) (cC (.int 0))) ao))))))))
def cF(au ay:Fn):CS:=
 (bq (bM 9 (cCB au (ab (ae 0) (ab (ae 2) ao))))
  (bq (bM 12 (cCB au (ab (ae 0) (ab (ae 2) ao))))
  (kG (lH (aA (cOp fNe (ae 9) (ae 12))) (cOr (aA (cOp fLt (cBM aI (ae 3) (ab (ae 9) ao)) (cBM aI (ae 3) (ab (ae 12) ao)))) (aA (cOp fEq (cCB au (ab (ae 0) (ab (cC (.int 6)) ao))) (cC (.int 0)))))) (gh (ae 11) (ab (ae 9) (ab (ae 12) ao)) (cC (.bl true))) et)))
def dM(au ay:Fn):CS:=
 (bq (bM 2 (cOp bE (cC (.int 1)) (cCB au (ab (ae 0) (ab (ae 1) ao)))))
  (bq (bM 3 (cCB ay (ab (ae 0) (ab (ae 2) ao))))
  (bq (bM 4 (bZ ao))
  (bq (iQ (aK (ab (cOp bE (cC (.int 1)) (cCB au (ab (ae 0) (ab (cOp fIx (bZ (ab (cC (.int 3)) (ab (cC (.int 3)) (ab (cC (.int 6)) ao)))) (cCB au (ab (ae 0) (ab (cC (.int 3)) ao)))) ao)))) ao)) (gNm 5) (dB au ay))
  (bq (bM 7 wm)
  (bq (iQ (aK (ab (cCB au (ab (ae 0) (ab (cOp bE (cOp jg (cC (.int 2)) (ae 2)) (cC (.int 1))) ao))) ao)) (gNm 8) (dA au ay))
  (bq (bM 11 wm)
  (bq (iQ (aK (ab (cCB au (ab (ae 0) (ab (cOp bE (ae 2) (cC (.int 1))) ao))) ao)) (gNm 8) (cF au ay))
  (ik (ig (ab (ae 2) (ab (cCB fb (ab (cCB cP (ab (ae 11) ao)) ao)) (ab (cCB fb (ab (ae 4) ao)) (ab (cCB fb (ab (cCB cP (ab (rq (ae 7) (gNm 0) (cOp bE (ae 0) (ig (ab (cOp CB (ae 1) (ae 0)) ao))) 1 [7]) ao)) ao)) ao))))))))))))))
theorem pq{au ay:Fn}{a0 a1:U}{S:Sto}:fnU 13 2 (dM au ay) [a0,a1] S=((dM au ay) [some a0,some a1,none,none,none,none,none,none,none,none,none,none,none] S).bind kFn:=pQ rfl
def eF:CS:=
 (ik (y2 (wW .int (ae 0)) (y1 (wW .bool (ae 0)))))
theorem sF{a0:U}{S:Sto}:fnU 1 1 (eF ) [a0] S=((eF ) [some a0] S).bind kFn:=pQ rfl
def bx:CS:=
 (bq (bM 3 (cCB hC (ab (ae 0) ao)))
  (bq (bM 4 (bZ ao))
  (bq (kG (aA (cOp (fIn false) (ae 2) (ae 0))) (bq (bM 3 (cSl (ae 3) (some (cOp bE (cBM aI (ae 3) (ab (ae 2) ao)) (cC (.int 1)))) none))
  (eQ (cBM bY (ae 4) (ab (ig (ab (ae 2) (ab (ae 1) ao))) ao)))) et)
  (bq (kG (lH (aA (cOp fGt (cCB eN (ab (ae 3) ao)) (cC (.int 0)))) (aA (cOp fNe (cOp fIx (ae 3) (cC (.int 0))) (ae 1)))) (eQ (cBM bY (ae 4) (ab (ig (ab (ae 1) (ab (cOp fIx (ae 3) (cC (.int 0))) ao))) ao))) et)
  (ik (ae 4))))))
theorem j6{a0 a1 a2:U}{S:Sto}:fnU 5 3 (bx ) [a0,a1,a2] S=((bx ) [some a0,some a1,some a2,none,none] S).bind kFn:=pQ rfl
def ki(aH:Fn):CS:=
 (eQ (cBM ej (ae 1) (ab (hE (ae 2) (C2 (ae 2) (some (cC (.int 1))) none)) ao)))
def kh(aH:Fn):CS:=
 (eQ (cBM ej (ae 1) (ab (cCB aH (ab (cOp fIx (cOp fIx (ae 0) (cC (.int 2))) (cOp fIx (ae 3) (cC (.int 1)))) (ab (cOp fIx (ae 3) (cC (.int 0))) (ab (cOp fIx (ae 3) (cC (.int 2))) ao)))) ao)))
def kd(aH:Fn):CS:=
 (bq (bM 1 (cCB hC (ab (cOp fIx (ae 0) (cC (.int 1))) ao)))
  (bq (iQ (iTp (cOp fIx (ae 0) (cC (.int 2)))) (gNm 2) (ki aH))
  (bq (iQ (iTp (cOp fIx (ae 0) (cC (.int 3)))) (gNm 3) (kh aH))
  (ik (cM (ae 1))))))
theorem CJ{aH:Fn}{a0:U}{S:Sto}:fnU 4 1 (kd aH) [a0] S=((kd aH) [some a0,none,none,none] S).bind kFn:=pQ rfl
def cR:CS:=
 (eQ (cBM ej (ae 5) (ab (bR (aK (ab (cOp sD (cCB eN (ab (ae 6) ao)) (cC (.int 1))) ao)) (gNm 0) (ig (ab (cOp fIx (ae 1) (ae 0)) (ab (cOp fIx (ae 1) (cOp bE (ae 0) (cC (.int 1)))) ao))) 1 [6]) ao)))
def cQ:CS:=
 (bq (kG (aA (cOp fGe (ae 9) (cC (.int 0)))) (eQ (cBM bY (ae 5) (ab (ig (ab (ae 9) (ab (ae 7) ao))) ao))) et)
  (bq (bM 10 (cCB hC (ab (cOp fIx (ae 3) (ae 8)) ao)))
  (bq (kG (aA (cOp fGe (ae 9) (cC (.int 0)))) (bM 10 (cSl (ae 10) (some (cOp bE (cBM aI (ae 10) (ab (ae 9) ao)) (cC (.int 1)))) none)) et)
  (eQ (cBM ej (ae 5) (ab (aG (iTp (cSl (ae 10) none (some (cC (.int 1))))) (gNm 0) (aA (cOp fNe (ae 0) (ae 1))) (ig (ab (ae 1) (ab (ae 0) ao))) 1 [7]) ao))))))
def cW:CS:=
 (bq (C3 (ae 0) (gTp [1,2,3,4]))
  (bq (bM 5 (cCB hC (ab (ae 2) ao)))
  (bq (iQ (iTp (ae 3)) (gNm 6) (cR ))
  (bq (iQ (iTp (ae 4)) (gTp [7,8,9]) (cQ ))
  (ik (cM (ae 5)))))))
theorem nX{a0:U}{S:Sto}:fnU 11 1 (cW ) [a0] S=((cW ) [some a0,none,none,none,none,none,none,none,none,none,none] S).bind kFn:=pQ rfl
def bK(aU bX:Fn):CS:=
 (bq (kG (cOr (FK (aA (cCB jW (ab (bR (iTp (ae 1)) (gNm 0) (cCB aU (ab (ae 0) ao)) 1 []) ao)))) (aA (cOp (fJ true) (cCB fA (ab (ae 1) ao)) (ck (ab (cOp fIx (ae 0) (cC (.int 0))) ao))))) (ik (cC (.bl false))) et)
  (ik (cCB jW (ab (bR (iTp (cCB bX (ab (ae 0) ao))) (gTp [0,1]) (cOp fLt (cBM aI (ae 2) (ab (ae 0) ao)) (cBM aI (ae 2) (ab (ae 1) ao))) 2 [1]) ao))))
theorem j7{aU bX:Fn}{a0 a1:U}{S:Sto}:fnU 2 2 (bK aU bX) [a0,a1] S=((bK aU bX) [some a0,some a1] S).bind kFn:=pQ rfl
def fB(aU bX:Fn):CS:=
 (bq (kG (cOr (FK (aA (cCB jW (ab (bR (iTp (ae 1)) (gNm 0) (cCB aU (ab (ae 0) ao)) 1 []) ao)))) (cOr (aA (cOp fLt (cCB eN (ab (ae 1) ao)) (cC (.int 2)))) (aA (cOp fNe (gj (ae 1)) (cCB eN (ab (ae 1) ao)))))) (ik (cC (.bl false))) et)
  (bq (bM 2 (cCB bX (ab (ae 0) ao)))
  (ik (cCB jW (ab (bR (C1 (ae 1) (cOp bE (cSl (ae 1) (some (cC (.int 1))) none) (cSl (ae 1) none (some (cC (.int 1)))))) (gNm 0) (cOp (pf false) (ae 0) (ae 1)) 1 [2]) ao)))))
theorem vU{aU bX:Fn}{a0 a1:U}{S:Sto}:fnU 3 2 (fB aU bX) [a0,a1] S=((fB aU bX) [some a0,some a1,none] S).bind kFn:=pQ rfl
def bL(ax:Fn):CS:=
 (bq (kG (aA (cOp (fJ true) (cCB fA (ab (ae 1) ao)) (ck (ab (cOp fIx (ae 0) (cC (.int 0))) ao)))) (ik (cC (.bl false))) et)
  (ik (cCB jW (ab (bR (iTp (cCB ax (ab (ae 0) ao))) (gTp [0,1]) (cOp fLt (cBM aI (ae 2) (ab (ae 0) ao)) (cBM aI (ae 2) (ab (ae 1) ao))) 2 [1]) ao))))
theorem j8{ax:Fn}{a0 a1:U}{S:Sto}:fnU 2 2 (bL ax) [a0,a1] S=((bL ax) [some a0,some a1] S).bind kFn:=pQ rfl
def bT(ax:Fn):CS:=
 (bq (bM 2 (cCB ax (ab (ae 0) ao)))
  (bq (kG (cOr (aA (cOp fLt (cCB eN (ab (ae 1) ao)) (cC (.int 2)))) (aA (cOp fNe (gj (ae 1)) (cCB eN (ab (ae 1) ao))))) (ik (cC (.bl false))) et)
  (ik (cCB jW (ab (bR (aK (ab (cCB eN (ab (ae 1) ao)) ao)) (gNm 0) (cOp (pf false) (ig (ab (cOp fIx (ae 2) (cOp sD (ae 0) (cC (.int 1)))) (ab (cOp fIx (ae 2) (ae 0)) ao))) (ae 1)) 1 [2,1]) ao)))))
theorem kF{ax:Fn}{a0 a1:U}{S:Sto}:fnU 3 2 (bT ax) [a0,a1] S=((bT ax) [some a0,some a1,none] S).bind kFn:=pQ rfl
def bU(ax:Fn)(fuel:Nat):CS:=
 (bq (bM 4 (aG (aK (ab (cOp fIx (ae 0) (cC (.int 0))) ao)) (gNm 0) (aA (cOp (fIn true) (ae 0) (ae 1))) (ae 0) 1 [2]))
  (bq (bM 5 (aG (iTp (ae 4)) (gNm 0) (aA (cOp (fJ false) (aG (iTp (ae 1)) (gNm 0) (lH (aA (cOp fEq (cOp fIx (ae 0) (cC (.int 1))) (ae 1))) (aA (cOp (fIn false) (cOp fIx (ae 0) (cC (.int 0))) (ae 2)))) (ae 0) 1 [0,2]) (bZ ao))) (ae 0) 1 [1,4]))
  (eQ (cBM ej (ae 2) (ab (cSl (ae 5) none (some (cC (.int 1)))) ao)))))
def cS(ax:Fn)(fuel:Nat):CS:=
 (eQ (cBM bY (ae 6) (ab (cOp fIx (aG (iTp (ae 1)) (gNm 0) (lH (aA (cOp fEq (cOp fIx (ae 0) (cC (.int 1))) (cOp fIx (ae 2) (fc (cC (.int 1)))))) (aA (cOp (fIn false) (cOp fIx (ae 0) (cC (.int 0))) (ae 1)))) (cOp fIx (ae 0) (cC (.int 0))) 1 [4,6]) (cC (.int 0))) ao)))
def cY(ax:Fn)(fuel:Nat):CS:=
 (bq (bM 1 (cCB ax (ab (ae 0) ao)))
  (bq (bM 2 (bZ ao))
  (bq (iQ (aK (ab (cOp fIx (ae 0) (cC (.int 0))) ao)) (gNm 3) (bU ax fuel))
  (bq (bM 4 (aG (aK (ab (cOp fIx (ae 0) (cC (.int 0))) ao)) (gNm 0) (aA (cOp (fIn true) (ae 0) (ae 1))) (ae 0) 1 [2]))
  (bq (bM 6 (cSl (ae 4) none (some (cC (.int 1)))))
  (bq (dn (lH (aA (cOp (fJ true) (ae 6) (bZ ao))) (aA (cOp (fIn true) (cOp fIx (ae 6) (fc (cC (.int 1)))) (cSl (ae 6) none (some (fc (cC (.int 1)))))))) (cS ax fuel) fuel)
  (bq (kG (aA (cOp (fJ false) (ae 6) (bZ ao))) (ik (ig (ab (ae 2) (ab (bZ ao) ao)))) et)
  (ik (ig (ab (cOp bE (ae 2) (ae 4)) (ab (F8 (ae 6) (cBM aI (ae 6) (ab (cOp fIx (ae 6) (fc (cC (.int 1)))) ao)) (fc (cC (.int 1)))) ao)))))))))))
theorem nZ{ax:Fn}{fuel:Nat}{a0:U}{S:Sto}:fnU 7 1 (cY ax fuel) [a0] S=((cY ax fuel) [some a0,none,none,none,none,none,none] S).bind kFn:=pQ rfl
def dN(au:Fn):CS:=
 (bq (bM 3 (cCB au (ab (ae 0) (ab (cOp bE (cCB eN (ab (ae 2) ao)) (cC (.int 1))) ao))))
  (bq (bM 4 (cOp fIx (bZ (ab (cOp fIx (ae 1) (cC (.int 0))) (ab (fc (cC (.int 1))) (ab (cOp zR (cC (.int 10)) (cC (.int 20))) (ab (cCB au (ab (ae 0) (ab (cOp fIx (ae 1) (cC (.int 0))) ao))) ao))))) (cCB au (ab (ae 0) (ab (cC (.int 4)) ao)))))
  (bq (bM 5 (bZ (ab (ae 2) (ab (cOp wU (ae 2) (fc (cC (.int 1)))) (ab (cOp bE (cSl (ae 2) (some (ae 3)) none) (cSl (ae 2) none (some (ae 3)))) (ab (cOp bE (cSl (ae 2) none (some (ae 3))) (cSl (ae 2) (some (cOp bE (ae 3) (cC (.int 1)))) none)) (ab (cOp bE (cOp bE (cSl (ae 2) none (some (ae 3))) (bZ (ab (ae 4) ao))) (cSl (ae 2) (some (ae 3)) none)) ao)))))))
  (bq (bM 5 (cOp bE (ae 5) (bZ (ab (cOp bE (ae 2) (cSl (ae 2) none (some (cC (.int 1))))) (ab (cOp bE (cOp bE (cSl (ae 2) none (some (ae 3))) (bZ (ab (ae 4) ao))) (cSl (ae 2) (some (cOp bE (ae 3) (cC (.int 1)))) none)) (ab (bZ ao) (ab (cSl (ae 2) none (some (ae 3))) ao)))))))
  (ik (cOp fIx (ae 5) (cCB au (ab (ae 0) (ab (cC (.int 9)) ao)))))))))
theorem pw{au:Fn}{a0 a1 a2:U}{S:Sto}:fnU 6 3 (dN au) [a0,a1,a2] S=((dN au) [some a0,some a1,some a2,none,none,none] S).bind kFn:=pQ rfl
end OQ
namespace OL
open PySem PySem.Spec PyProof.Rows L2 OG OP OQ
def top(i:Nat):Stmt:=PySem.Challenge.pw_oneglance_k29_orders_and_rings_looked_at.main.body.getD i (.Pass ⟨0,0,0,0⟩)
abbrev iE:Stmt:=top 1
abbrev oU:Stmt:=top 3
abbrev dE:Stmt:=top 4
abbrev dF:Stmt:=top 5
abbrev jB:Stmt:=top 6
abbrev fU:Stmt:=top 8
abbrev iF:Stmt:=top 9
abbrev fk:Stmt:=top 10
abbrev fV:Stmt:=top 11
abbrev fj:Stmt:=top 12
abbrev dG:Stmt:=top 13
abbrev dZ:Stmt:=top 14
abbrev fq:Stmt:=top 15
abbrev fW:Stmt:=top 16
abbrev Bm:Stmt:=top 17
section
variable{P:Program}{w:World}{K:Q5}{mg:Str->Option Value}{base:Heap}
theorem jy:bp ["thing"] ["thing"] (aE iE):=⟨rfl,rfl,rfl,by decide +kernel,rfl,by decide +kernel,by decide +kernel⟩
theorem sx{k:Nat}(d:Def K mg "is_whole" iE ["thing"])(B:Blt mg):ff P w K mg base "is_whole" (k+1) ["thing"] (fnU 1 1 (eF )):=
 d.pure jy fun f cdv A outer s H E hr=>(by
  have hu:=fZ hr
  have nd:=jy.nd
  exact(aN (bI (Ef (Bw (T:=.int) (by intro z;cases z) (ag (wpv 0)) (tH rfl B.int OG.mF) rfl B.isinstance) (GZ (Ee (Bw (T:=.bool) (by intro z;cases z) (ag (wpv 0)) (tH rfl B.bool OG.ox) rfl B.isinstance)))))))
theorem eV:bp ["row","a","source","later","found"] ["row","a","source"] (aE dE):=⟨rfl,rfl,rfl,by decide +kernel,rfl,by decide +kernel,by decide +kernel⟩
theorem jR{k:Nat}(d:Def K mg "musts_of_look" dE ["row","a","source"])(B:Blt mg):ff P w K mg base "musts_of_look" (k+1) ["row","a","source"] (fnU 5 3 (bx )):=
 d.pure eV fun f cdv A outer s H E hr=>(by
  have hu:=fZ hr
  have nd:=eV.nd
  exact(aw (aM (i:=3) nd rfl (by first|exact Or.inl rfl|exact Or.inr rfl) (cD cV nA rfl B.list OG.dQ (af (ag (wpv 0)) av)))
   (aw (aM (i:=4) nd rfl (by first|exact Or.inl rfl|exact Or.inr rfl) (cK av))
   (aw (gK (Bu hu (ag (wpv 2)) (ag (wpv 0)) (by with_unfolding_all rfl)) (aw (aM (i:=3) nd rfl (by first|exact Or.inl rfl|exact Or.inr rfl) (me (ag (wpv 3)) (bt (dq cu cq (dI (ag (wpv 3)) (af (ag (wpv 2)) av)) (aB ak))) bu))
   (aN (c8 (eL (ag (wpv 4)) (af (kA (af (ag (wpv 2)) (af (ag (wpv 1)) av))) av))))) dX)
   (aw (gK (wR (uC (bw Hk I0 (aW iL iI rfl B.len PySem.boot_len (af (ag (wpv 3)) av)) (aB ak) (aZ _)) (nq (bw sh CZ (d5 hu (ag (wpv 3)) (aB ak) (fun _ _=>rfl) (fun _ _=>rfl)) (ag (wpv 1)) (aZ _))))) (aN (c8 (eL (ag (wpv 4)) (af (kA (af (ag (wpv 1)) (af (d5 hu (ag (wpv 3)) (aB ak) (fun _ _=>rfl) (fun _ _=>rfl)) av))) av)))) dX)
   (aN (bI (ag (wpv 4)))))))))
theorem qj:bp ["tale","found","row","look"] ["tale"] (aE oU):=⟨rfl,rfl,rfl,by decide +kernel,rfl,by decide +kernel,by decide +kernel⟩
theorem Cu{k:Nat}{aH:Fn}(d:Def K mg "musts" oU ["tale"])(B:Blt mg)(dR:ff P w K mg base "musts_of_look" (k) ["row","a","source"] aH):ff P w K mg base "musts" (k+1) ["tale"] (fnU 4 1 (kd aH)):=
 d.pure qj fun f cdv A outer s H E hr=>(by
  have hu:=fZ hr
  have nd:=qj.nd
  exact(aw (aM (i:=1) nd rfl (by first|exact Or.inl rfl|exact Or.inr rfl) (cD cV nA rfl B.list OG.dQ (af (d5 hu (ag (wpv 0)) (aB ak) (fun _ _=>rfl) (fun _ _=>rfl)) av)))
   (aw (eY PassesOwn.never rfl (cT (d5 hu (ag (wpv 0)) (aB ak) (fun _ _=>rfl) (fun _ _=>rfl))) (aT (aC (i:=2) nd rfl (by first|exact Or.inl rfl|exact Or.inr rfl))) (aN (c8 (gM (ag (wpv 1)) (af (uA rfl rfl B.list rfl B.zip (ag (wpv 2)) (GX (ag (wpv 2)) (bt (aB ak)) bu)) av)))))
   (aw (eY PassesOwn.never rfl (cT (d5 hu (ag (wpv 0)) (aB ak) (fun _ _=>rfl) (fun _ _=>rfl))) (aT (aC (i:=3) nd rfl (by first|exact Or.inl rfl|exact Or.inr rfl))) (aN (c8 (gM (ag (wpv 1)) (af (aS dR hr rfl (af (d5 hu (d5 hu (ag (wpv 0)) (aB ak) (fun _ _=>rfl) (fun _ _=>rfl)) (d5 hu (ag (wpv 3)) (aB ak) (fun _ _=>rfl) (fun _ _=>rfl)) (fun _ _=>rfl) (fun _ _=>rfl)) (af (d5 hu (ag (wpv 3)) (aB ak) (fun _ _=>rfl) (fun _ _=>rfl)) (af (d5 hu (ag (wpv 3)) (aB ak) (fun _ _=>rfl) (fun _ _=>rfl)) av)))) av)))))
   (aN (bI (jF rfl hr.units rfl B.sorted rfl B.set (ag (wpv 1)))))))))
theorem eW:bp ["tale","some"] ["tale","some"] (aE dF):=⟨rfl,rfl,rfl,by decide +kernel,rfl,by decide +kernel,by decide +kernel⟩
theorem jS{k:Nat}{aU bX:Fn}(d:Def K mg "is_tale_order" dF ["tale","some"])(B:Blt mg)(dC:ff P w K mg base "is_whole" (k) ["thing"] aU)(iS:ff P w K mg base "musts" (k) ["tale"] bX):ff P w K mg base "is_tale_order" (k+1) ["tale","some"] (fnU 2 2 (bK aU bX)):=
 d.pure eW fun f cdv A outer s H E hr=>(by
  have hu:=fZ hr
  have nd:=eW.nd
  exact(aw (gK (wR (CY (uy (ux (aW (eP rfl) oX rfl B.all OG.eR (af (iX (Nc:=["a"]) (tn:=["a"]) (capN:=[]) (caps:=[]) rfl (cT (ag (wpv 1))) (fun _ _ _=>(aT (aC (i:=0) (show(["a"]:List Str).Nodup by decide +kernel) rfl (by first|exact Or.inl rfl|exact Or.inr rfl)))) (fun _ _ _=>(aS dC hr rfl (af (ag (wpv 0)) av))) rfl rfl (by decide +kernel) (by decide +kernel) trivial rfl .nil rfl rfl) av)))) (uz (bw (kZ hr.units) nB (aW (qD rfl) qB rfl B.sorted OG.dP (af (ag (wpv 1)) av)) (fX rfl rfl B.list rfl B.range (af (d5 hu (ag (wpv 0)) (aB ak) (fun _ _=>rfl) (fun _ _=>rfl)) av) rfl rfl) (aZ _))))) (aN (bI (zv iT))) dX)
   (aN (bI (aW (eP rfl) oX rfl B.all OG.eR (af (iX (Nc:=["one","other","some"]) (tn:=["one","other"]) (capN:=["some"]) (caps:=[1]) rfl (cT (aS iS hr rfl (af (ag (wpv 0)) av))) (fun _ _ _=>(nj rfl (bO (aC (i:=0) (show(["one","other","some"]:List Str).Nodup by decide +kernel) rfl (by first|exact Or.inl rfl|exact Or.inr rfl)) (bO (aC (i:=1) (show(["one","other","some"]:List Str).Nodup by decide +kernel) rfl (by first|exact Or.inl rfl|exact Or.inr rfl)) jE)))) (fun _ _ _=>(se nF zx (dI (ag (wpv 2)) (af (ag (wpv 0)) av)) (dI (ag (wpv 2)) (af (ag (wpv 1)) av)) (aZ _))) rfl rfl (by decide +kernel) (by decide +kernel) ⟨rfl,trivial⟩ rfl (.cons ⟨rfl,rfl,rfl,_,rfl⟩ .nil) rfl rfl) av))))))
theorem kO:bp ["tale","some","pairs"] ["tale","some"] (aE jB):=⟨rfl,rfl,rfl,by decide +kernel,rfl,by decide +kernel,by decide +kernel⟩
theorem vM{k:Nat}{aU bX:Fn}(d:Def K mg "is_ring" jB ["tale","some"])(B:Blt mg)(dC:ff P w K mg base "is_whole" (k) ["thing"] aU)(iS:ff P w K mg base "musts" (k) ["tale"] bX):ff P w K mg base "is_ring" (k+1) ["tale","some"] (fnU 3 2 (fB aU bX)):=
 d.pure kO fun f cdv A outer s H E hr=>(by
  have hu:=fZ hr
  have nd:=kO.nd
  exact(aw (gK (wR (CY (uy (ux (aW (eP rfl) oX rfl B.all OG.eR (af (iX (Nc:=["a"]) (tn:=["a"]) (capN:=[]) (caps:=[]) rfl (cT (ag (wpv 1))) (fun _ _ _=>(aT (aC (i:=0) (show(["a"]:List Str).Nodup by decide +kernel) rfl (by first|exact Or.inl rfl|exact Or.inr rfl)))) (fun _ _ _=>(aS dC hr rfl (af (ag (wpv 0)) av))) rfl rfl (by decide +kernel) (by decide +kernel) trivial rfl .nil rfl rfl) av)))) (CY (bw nF zx (aW iL iI rfl B.len PySem.boot_len (af (ag (wpv 1)) av)) (aB ak) (aZ _)) (uz (bw sh CZ (qu rfl rfl B.len rfl B.set (ag (wpv 1))) (aW iL iI rfl B.len PySem.boot_len (af (ag (wpv 1)) av)) (aZ _)))))) (aN (bI (zv iT))) dX)
   (aw (aM (i:=2) nd rfl (by first|exact Or.inl rfl|exact Or.inr rfl) (aS iS hr rfl (af (ag (wpv 0)) av)))
   (aN (bI (aW (eP rfl) oX rfl B.all OG.eR (af (iX (Nc:=["pair","pairs"]) (tn:=["pair"]) (capN:=["pairs"]) (caps:=[2]) rfl (Bt rfl B.zip (ag (wpv 1)) (dq cu cq (me (ag (wpv 1)) (bt (aB ak)) bu) (me (ag (wpv 1)) bu (bt (aB ak))))) (fun _ _ _=>(aT (aC (i:=0) (show(["pair","pairs"]:List Str).Nodup by decide +kernel) rfl (by first|exact Or.inl rfl|exact Or.inr rfl)))) (fun _ _ _=>(se (zB hr.units) EH (ag (wpv 0)) (ag (wpv 1)) (by with_unfolding_all rfl))) rfl rfl (by decide +kernel) (by decide +kernel) ⟨rfl,trivial⟩ rfl (.cons ⟨rfl,rfl,rfl,_,rfl⟩ .nil) rfl rfl) av)))))))
theorem iU:bp ["script","k","number","stir","found","turn"] ["script","k"] (aE fU):=⟨rfl,rfl,rfl,by decide +kernel,rfl,by decide +kernel,by decide +kernel⟩
theorem o6{k:Nat}(d:Def K mg "_law_well" fU ["script","k"])(B:Blt mg):ff P w K mg base "_law_well" (k+1) ["script","k"] (fnU 6 2 (cL )):=
 d.pure iU fun f cdv A outer s H E hr=>(by
  have hu:=fZ hr
  have nd:=iU.nd
  exact(aw (aM (i:=2) nd rfl (by first|exact Or.inl rfl|exact Or.inr rfl) (dq cu cq (dq gQ mm (aB ak) (ag (wpv 1))) (aB ak)))
   (aw (gK (bw nF zx (ag (wpv 1)) (aW iL iI rfl B.len PySem.boot_len (af (ag (wpv 0)) av)) (aZ _)) (aN (aM (i:=2) nd rfl (by first|exact Or.inl rfl|exact Or.inr rfl) (d5 hu (ag (wpv 0)) (ag (wpv 1)) (fun _ _=>rfl) (fun _ _=>rfl)))) dX)
   (aw (gK (bw si C0 (dq nE uS (ag (wpv 2)) (aB ak)) (aB ak) (aZ _)) (aN (bI (cK (af (dq qC EI (ag (wpv 2)) (aB ak)) av)))) dX)
   (aw (aM (i:=3) nd rfl (by first|exact Or.inl rfl|exact Or.inr rfl) (dq nE uS (dq cu cq (dq cu cq (dq gQ mm (ag (wpv 2)) (aB ak)) (dq gQ mm (aB ak) (ag (wpv 1)))) (aB ak)) (aB ak)))
   (aw (aM (i:=4) nd rfl (by first|exact Or.inl rfl|exact Or.inr rfl) (aB ak))
   (aw (eY PassesOwn.never rfl (bJ rfl B.range (af (aB ak) av)) (aT (aC (i:=5) nd rfl (by first|exact Or.inl rfl|exact Or.inr rfl))) (aw (aM (i:=3) nd rfl (by first|exact Or.inl rfl|exact Or.inr rfl) (dq nE uS (dq cu cq (dq cu cq (dq cu cq (dq gQ mm (ag (wpv 3)) (ag (wpv 3))) (dq gQ mm (aB ak) (ag (wpv 3)))) (dq gQ mm (aB ak) (ag (wpv 5)))) (aB ak)) (aB ak)))
   (aN (aM (i:=4) nd rfl (by first|exact Or.inl rfl|exact Or.inr rfl) (dq cu cq (dq gQ mm (ag (wpv 4)) (aB ak)) (ag (wpv 3)))))))
   (aN (bI (cK (af (ag (wpv 4)) av)))))))))))
theorem jA:bp ["well","many","digit"] ["well","many"] (aE iF):=⟨rfl,rfl,rfl,by decide +kernel,rfl,by decide +kernel,by decide +kernel⟩
theorem sy{k:Nat}(d:Def K mg "_law_sip" iF ["well","many"])(B:Blt mg):ff P w K mg base "_law_sip" (k+1) ["well","many"] (fnU 3 2 (eG )):=
 d.pure jA fun f cdv A outer s H E hr=>(by
  have hu:=fZ hr
  have nd:=jA.nd
  exact(aw (aM (i:=2) nd rfl (by first|exact Or.inl rfl|exact Or.inr rfl) (dq nE uS (d5 hu (ag (wpv 0)) (aB ak) (fun _ _=>rfl) (fun _ _=>rfl)) (ag (wpv 1))))
   (aw (xM hu (ag (wpv 0)) (aB ak) (dq qC EI (d5 hu (ag (wpv 0)) (aB ak) (fun _ _=>rfl) (fun _ _=>rfl)) (ag (wpv 1))))
   (aN (bI (ag (wpv 2)))))))
theorem gF:bp ["well","many","left","found","at"] ["well","many"] (aE fk):=⟨rfl,rfl,rfl,by decide +kernel,rfl,by decide +kernel,by decide +kernel⟩
theorem nT{k:Nat}{au:Fn}{fuel:Nat}(d:Def K mg "_law_mixed" fk ["well","many"])(B:Blt mg)(aD:ff P w K mg base "_law_sip" (k) ["well","many"] au):ff P w K mg base "_law_mixed" (k+1) ["well","many"] (fnU 5 2 (cX au fuel)):=
 d.pure gF fun f cdv A outer s H E hr=>(by
  have hu:=fZ hr
  have nd:=gF.nd
  exact(aw (aM (i:=2) nd rfl (by first|exact Or.inl rfl|exact Or.inr rfl) (fX rfl rfl B.list rfl B.range (af (ag (wpv 1)) av) rfl rfl))
   (aw (aM (i:=3) nd rfl (by first|exact Or.inl rfl|exact Or.inr rfl) (cK av))
   (aw (qt fuel PassesOwn.never (bw (kZ hr.units) nB (ag (wpv 2)) (cK av) (aZ _)) (aw (aM (i:=4) nd rfl (by first|exact Or.inl rfl|exact Or.inr rfl) (aS aD hr rfl (af (ag (wpv 0)) (af (aW iL iI rfl B.len PySem.boot_len (af (ag (wpv 2)) av)) av))))
   (aN (c8 (eL (ag (wpv 3)) (af (Bv (ag (wpv 2)) (af (ag (wpv 4)) av)) av))))))
   (aN (bI (ag (wpv 3))))))))
theorem iV:bp ["well","most","many","hidden","writers","box","row","looks","k","a","earlier","times","b"] ["well","most"] (aE fV):=⟨rfl,rfl,rfl,by decide +kernel,rfl,by decide +kernel,by decide +kernel⟩
theorem o7{k:Nat}{au ay:Fn}(d:Def K mg "_law_tale" fV ["well","most"])(B:Blt mg)(aD:ff P w K mg base "_law_sip" (k) ["well","many"] au)(cm:ff P w K mg base "_law_mixed" (k) ["well","many"] ay):ff P w K mg base "_law_tale" (k+1) ["well","most"] (fnU 13 2 (dM au ay)):=
 d.pure iV fun f cdv A outer s H E hr=>(by
  have hu:=fZ hr
  have nd:=iV.nd
  exact(aw (aM (i:=2) nd rfl (by first|exact Or.inl rfl|exact Or.inr rfl) (dq cu cq (aB ak) (aS aD hr rfl (af (ag (wpv 0)) (af (ag (wpv 1)) av)))))
   (aw (aM (i:=3) nd rfl (by first|exact Or.inl rfl|exact Or.inr rfl) (aS cm hr rfl (af (ag (wpv 0)) (af (ag (wpv 2)) av))))
   (aw (aM (i:=4) nd rfl (by first|exact Or.inl rfl|exact Or.inr rfl) (cK av))
   (aw (eY PassesOwn.never rfl (bJ rfl B.range (af (dq cu cq (aB ak) (aS aD hr rfl (af (ag (wpv 0)) (af (d5 hu (cK (af (aB ak) (af (aB ak) (af (aB ak) av)))) (aS aD hr rfl (af (ag (wpv 0)) (af (aB ak) av))) (fun _ _=>rfl) (fun _ _=>rfl)) av)))) av)) (aT (aC (i:=5) nd rfl (by first|exact Or.inl rfl|exact Or.inr rfl))) (aw (ni (Nc:=["a","well"]) (tn:=["a"]) (capN:=["well"]) (caps:=[0]) rfl (cT (ag (wpv 3))) (fun _ _ _=>(aT (aC (i:=0) (show(["a","well"]:List Str).Nodup by decide +kernel) rfl (by first|exact Or.inl rfl|exact Or.inr rfl)))) (fun _ _ _=>(bw nF zx (aS aD hr rfl (af (ag (wpv 1)) (af (aB ak) av))) (aB ak) (aZ _))) (fun _ _ _=>(ag (wpv 0))) rfl rfl (by decide +kernel) (by decide +kernel) ⟨rfl,trivial⟩ rfl (.cons ⟨rfl,rfl,rfl,_,rfl⟩ .nil) rfl rfl nd rfl rfl rfl)
   (aN (c8 (eL (ag (wpv 4)) (af (cD dw mj rfl B.tuple OG.fK (af (Ed (ag (wpv 6)) (dq uU BS (aB ak) (dq gQ mm (aB ak) (cD om EG rfl B.int OG.mF (af (se si C0 (aS aD hr rfl (af (ag (wpv 0)) (af (aB ak) av))) (aB ak) (aZ _)) av))))) av)) av))))))
   (aw (aM (i:=7) nd rfl (by first|exact Or.inl rfl|exact Or.inr rfl) uB)
   (aw (eY PassesOwn.never rfl (bJ rfl B.range (af (aS aD hr rfl (af (ag (wpv 0)) (af (dq cu cq (dq gQ mm (aB ak) (ag (wpv 2))) (aB ak)) av))) av)) (aT (aC (i:=8) nd rfl (by first|exact Or.inl rfl|exact Or.inr rfl))) (aw (aM (i:=9) nd rfl (by first|exact Or.inl rfl|exact Or.inr rfl) (aS aD hr rfl (af (ag (wpv 0)) (af (ag (wpv 2)) av))))
   (aw (aM (i:=5) nd rfl (by first|exact Or.inl rfl|exact Or.inr rfl) (aS aD hr rfl (af (ag (wpv 0)) (af (aW iL iI rfl B.len PySem.boot_len (af (ag (wpv 4)) av)) av))))
   (aw (aM (i:=6) nd rfl (by first|exact Or.inl rfl|exact Or.inr rfl) (dq cu cq (cK (af (kB (aB ak)) av)) (eK (Nc:=["one","a"]) (tn:=["one"]) (capN:=["a"]) (caps:=[9]) rfl (cT (d5 hu (ag (wpv 4)) (ag (wpv 5)) (fun _ _=>rfl) (fun _ _=>rfl))) (fun _ _ _=>(aT (aC (i:=0) (show(["one","a"]:List Str).Nodup by decide +kernel) rfl (by first|exact Or.inl rfl|exact Or.inr rfl)))) (fun _ _ _=>(bw sh CZ (ag (wpv 0)) (ag (wpv 1)) (aZ _))) (fun _ _ _=>(ag (wpv 0))) rfl rfl (by decide +kernel) (by decide +kernel) ⟨rfl,trivial⟩ rfl (.cons ⟨rfl,rfl,rfl,_,rfl⟩ .nil) rfl rfl)))
   (aw (aM (i:=10) nd rfl (by first|exact Or.inl rfl|exact Or.inr rfl) (dq cu cq (cK (af (kB (aB ak)) av)) (eK (Nc:=["one","a","hidden"]) (tn:=["one"]) (capN:=["a","hidden"]) (caps:=[9,3]) rfl (cT (me (ag (wpv 6)) (bt (aB ak)) bu)) (fun _ _ _=>(aT (aC (i:=0) (show(["one","a","hidden"]:List Str).Nodup by decide +kernel) rfl (by first|exact Or.inl rfl|exact Or.inr rfl)))) (fun _ _ _=>(bw nF zx (dI (ag (wpv 2)) (af (ag (wpv 0)) av)) (dI (ag (wpv 2)) (af (ag (wpv 1)) av)) (aZ _))) (fun _ _ _=>(ag (wpv 0))) rfl rfl (by decide +kernel) (by decide +kernel) ⟨rfl,rfl,trivial⟩ rfl (.cons ⟨rfl,rfl,rfl,_,rfl⟩ (.cons ⟨rfl,rfl,rfl,_,rfl⟩ .nil)) rfl rfl)))
   (aN (nh hu (ag (wpv 7)) (af (ag (wpv 9)) (af (ag (wpv 5)) av)) (d5 hu (cK (af (d5 hu (ag (wpv 10)) (kB (aB ak)) (fun _ _=>rfl) (fun _ _=>rfl)) (af (d5 hu (ag (wpv 6)) (aS aD hr rfl (af (ag (wpv 0)) (af (aW iL iI rfl B.len PySem.boot_len (af (ag (wpv 6)) av)) av))) (fun _ _=>rfl) (fun _ _=>rfl)) av))) (cD om EG rfl B.int OG.mF (af (se si C0 (aS aD hr rfl (af (ag (wpv 0)) (af (aB ak) av))) (aB ak) (aZ _)) av)) (fun _ _=>rfl) (fun _ _=>rfl)))))))))
   (aw (aM (i:=11) nd rfl (by first|exact Or.inl rfl|exact Or.inr rfl) uB)
   (aw (eY PassesOwn.never rfl (bJ rfl B.range (af (aS aD hr rfl (af (ag (wpv 0)) (af (dq cu cq (ag (wpv 2)) (aB ak)) av))) av)) (aT (aC (i:=8) nd rfl (by first|exact Or.inl rfl|exact Or.inr rfl))) (aw (aM (i:=9) nd rfl (by first|exact Or.inl rfl|exact Or.inr rfl) (aS aD hr rfl (af (ag (wpv 0)) (af (ag (wpv 2)) av))))
   (aw (aM (i:=12) nd rfl (by first|exact Or.inl rfl|exact Or.inr rfl) (aS aD hr rfl (af (ag (wpv 0)) (af (ag (wpv 2)) av))))
   (aN (gK (wR (uC (bw sh CZ (ag (wpv 9)) (ag (wpv 12)) (aZ _)) (nq (wR (CY (bw nF zx (dI (ag (wpv 3)) (af (ag (wpv 9)) av)) (dI (ag (wpv 3)) (af (ag (wpv 12)) av)) (aZ _)) (uz (bw si C0 (aS aD hr rfl (af (ag (wpv 0)) (af (aB ak) av))) (aB ak) (aZ _)))))))) (aN (nh hu (ag (wpv 11)) (af (ag (wpv 9)) (af (ag (wpv 12)) av)) (zv iT))) dX)))))
   (aN (bI (kA (af (ag (wpv 2)) (af (cD dw mj rfl B.tuple OG.fK (af (aW (k8 rfl) nz rfl B.sorted OG.dP (af (ag (wpv 11)) av)) av)) (af (cD dw mj rfl B.tuple OG.fK (af (ag (wpv 4)) av)) (af (cD dw mj rfl B.tuple OG.fK (af (aW (k8 rfl) nz rfl B.sorted OG.dP (af (Bx (Nc:=["one","looks"]) (tn:=["one"]) (capN:=["looks"]) (caps:=[7]) rfl (ag (wpv 7)) (fun _ _ _=>(aT (aC (i:=0) (show(["one","looks"]:List Str).Nodup by decide +kernel) rfl (by first|exact Or.inl rfl|exact Or.inr rfl)))) (fun _ _ _=>(dq cu cq (ag (wpv 0)) (kA (af (G8 hu (ag (wpv 1)) (ag (wpv 0)) (fun _ _=>rfl)) av)))) rfl rfl (by decide +kernel) (by decide +kernel) ⟨rfl,trivial⟩ rfl (.cons ⟨rfl,rfl,rfl,_,rfl⟩ .nil) rfl rfl) av)) av)) av))))))))))))))))
theorem gE:bp ["tale","many","times","writers","looks","found","row","a","box","source","later"] ["tale"] (aE fj):=⟨rfl,rfl,rfl,by decide +kernel,rfl,by decide +kernel,by decide +kernel⟩
theorem nR{k:Nat}(d:Def K mg "_law_musts" fj ["tale"])(B:Blt mg):ff P w K mg base "_law_musts" (k+1) ["tale"] (fnU 11 1 (cW )):=
 d.pure gE fun f cdv A outer s H E hr=>(by
  have hu:=fZ hr
  have nd:=gE.nd
  exact(aw (zu (ag (wpv 0)) (nj rfl (bO (aC (i:=1) nd rfl (by first|exact Or.inl rfl|exact Or.inr rfl)) (bO (aC (i:=2) nd rfl (by first|exact Or.inl rfl|exact Or.inr rfl)) (bO (aC (i:=3) nd rfl (by first|exact Or.inl rfl|exact Or.inr rfl)) (bO (aC (i:=4) nd rfl (by first|exact Or.inl rfl|exact Or.inr rfl)) jE))))))
   (aw (aM (i:=5) nd rfl (by first|exact Or.inl rfl|exact Or.inr rfl) (cD cV nA rfl B.list OG.dQ (af (ag (wpv 2)) av)))
   (aw (eY PassesOwn.never rfl (cT (ag (wpv 3))) (aT (aC (i:=6) nd rfl (by first|exact Or.inl rfl|exact Or.inr rfl))) (aN (c8 (gM (ag (wpv 5)) (af (iX (Nc:=["k","row"]) (tn:=["k"]) (capN:=["row"]) (caps:=[6]) rfl (bJ rfl B.range (af (dq uU BS (aW iL iI rfl B.len PySem.boot_len (af (ag (wpv 6)) av)) (aB ak)) av)) (fun _ _ _=>(aT (aC (i:=0) (show(["k","row"]:List Str).Nodup by decide +kernel) rfl (by first|exact Or.inl rfl|exact Or.inr rfl)))) (fun _ _ _=>(kA (af (d5 hu (ag (wpv 1)) (ag (wpv 0)) (fun _ _=>rfl) (fun _ _=>rfl)) (af (d5 hu (ag (wpv 1)) (dq cu cq (ag (wpv 0)) (aB ak)) (fun _ _=>rfl) (fun _ _=>rfl)) av)))) rfl rfl (by decide +kernel) (by decide +kernel) ⟨rfl,trivial⟩ rfl (.cons ⟨rfl,rfl,rfl,_,rfl⟩ .nil) rfl rfl) av)))))
   (aw (eY PassesOwn.never rfl (cT (ag (wpv 4))) (nj rfl (bO (aC (i:=7) nd rfl (by first|exact Or.inl rfl|exact Or.inr rfl)) (bO (aC (i:=8) nd rfl (by first|exact Or.inl rfl|exact Or.inr rfl)) (bO (aC (i:=9) nd rfl (by first|exact Or.inl rfl|exact Or.inr rfl)) jE)))) (aw (gK (bw EM Ik (ag (wpv 9)) (aB ak) (aZ _)) (aN (c8 (eL (ag (wpv 5)) (af (kA (af (ag (wpv 9)) (af (ag (wpv 7)) av))) av)))) dX)
   (aw (aM (i:=10) nd rfl (by first|exact Or.inl rfl|exact Or.inr rfl) (cD cV nA rfl B.list OG.dQ (af (d5 hu (ag (wpv 3)) (ag (wpv 8)) (fun _ _=>rfl) (fun _ _=>rfl)) av)))
   (aw (gK (bw EM Ik (ag (wpv 9)) (aB ak) (aZ _)) (aN (aM (i:=10) nd rfl (by first|exact Or.inl rfl|exact Or.inr rfl) (me (ag (wpv 10)) (bt (dq cu cq (dI (ag (wpv 10)) (af (ag (wpv 9)) av)) (aB ak))) bu))) dX)
   (aN (c8 (gM (ag (wpv 5)) (af (eK (Nc:=["one","a"]) (tn:=["one"]) (capN:=["a"]) (caps:=[7]) rfl (cT (me (ag (wpv 10)) bu (bt (aB ak)))) (fun _ _ _=>(aT (aC (i:=0) (show(["one","a"]:List Str).Nodup by decide +kernel) rfl (by first|exact Or.inl rfl|exact Or.inr rfl)))) (fun _ _ _=>(bw sh CZ (ag (wpv 0)) (ag (wpv 1)) (aZ _))) (fun _ _ _=>(kA (af (ag (wpv 1)) (af (ag (wpv 0)) av)))) rfl rfl (by decide +kernel) (by decide +kernel) ⟨rfl,trivial⟩ rfl (.cons ⟨rfl,rfl,rfl,_,rfl⟩ .nil) rfl rfl) av))))))))
   (aN (bI (jF rfl hr.units rfl B.sorted rfl B.set (ag (wpv 5))))))))))
theorem eX:bp ["tale","some"] ["tale","some"] (aE dG):=⟨rfl,rfl,rfl,by decide +kernel,rfl,by decide +kernel,by decide +kernel⟩
theorem jT{k:Nat}{ax:Fn}(d:Def K mg "_law_is_order" dG ["tale","some"])(B:Blt mg)(bc:ff P w K mg base "_law_musts" (k) ["tale"] ax):ff P w K mg base "_law_is_order" (k+1) ["tale","some"] (fnU 2 2 (bL ax)):=
 d.pure eX fun f cdv A outer s H E hr=>(by
  have hu:=fZ hr
  have nd:=eX.nd
  exact(aw (gK (bw (kZ hr.units) nB (aW (qD rfl) qB rfl B.sorted OG.dP (af (ag (wpv 1)) av)) (fX rfl rfl B.list rfl B.range (af (d5 hu (ag (wpv 0)) (aB ak) (fun _ _=>rfl) (fun _ _=>rfl)) av) rfl rfl) (aZ _)) (aN (bI (zv iT))) dX)
   (aN (bI (aW (eP rfl) oX rfl B.all OG.eR (af (iX (Nc:=["one","other","some"]) (tn:=["one","other"]) (capN:=["some"]) (caps:=[1]) rfl (cT (aS bc hr rfl (af (ag (wpv 0)) av))) (fun _ _ _=>(nj rfl (bO (aC (i:=0) (show(["one","other","some"]:List Str).Nodup by decide +kernel) rfl (by first|exact Or.inl rfl|exact Or.inr rfl)) (bO (aC (i:=1) (show(["one","other","some"]:List Str).Nodup by decide +kernel) rfl (by first|exact Or.inl rfl|exact Or.inr rfl)) jE)))) (fun _ _ _=>(se nF zx (dI (ag (wpv 2)) (af (ag (wpv 0)) av)) (dI (ag (wpv 2)) (af (ag (wpv 1)) av)) (aZ _))) rfl rfl (by decide +kernel) (by decide +kernel) ⟨rfl,trivial⟩ rfl (.cons ⟨rfl,rfl,rfl,_,rfl⟩ .nil) rfl rfl) av))))))
theorem fi:bp ["tale","some","known"] ["tale","some"] (aE dZ):=⟨rfl,rfl,rfl,by decide +kernel,rfl,by decide +kernel,by decide +kernel⟩
theorem kC{k:Nat}{ax:Fn}(d:Def K mg "_law_is_ring" dZ ["tale","some"])(B:Blt mg)(bc:ff P w K mg base "_law_musts" (k) ["tale"] ax):ff P w K mg base "_law_is_ring" (k+1) ["tale","some"] (fnU 3 2 (bT ax)):=
 d.pure fi fun f cdv A outer s H E hr=>(by
  have hu:=fZ hr
  have nd:=fi.nd
  exact(aw (aM (i:=2) nd rfl (by first|exact Or.inl rfl|exact Or.inr rfl) (aS bc hr rfl (af (ag (wpv 0)) av)))
   (aw (gK (wR (CY (bw nF zx (aW iL iI rfl B.len PySem.boot_len (af (ag (wpv 1)) av)) (aB ak) (aZ _)) (uz (bw sh CZ (qu rfl rfl B.len rfl B.set (ag (wpv 1))) (aW iL iI rfl B.len PySem.boot_len (af (ag (wpv 1)) av)) (aZ _))))) (aN (bI (zv iT))) dX)
   (aN (bI (aW (eP rfl) oX rfl B.all OG.eR (af (iX (Nc:=["k","known","some"]) (tn:=["k"]) (capN:=["known","some"]) (caps:=[2,1]) rfl (bJ rfl B.range (af (aW iL iI rfl B.len PySem.boot_len (af (ag (wpv 1)) av)) av)) (fun _ _ _=>(aT (aC (i:=0) (show(["k","known","some"]:List Str).Nodup by decide +kernel) rfl (by first|exact Or.inl rfl|exact Or.inr rfl)))) (fun _ _ _=>(se (zB hr.units) EH (kA (af (d5 hu (ag (wpv 2)) (dq uU BS (ag (wpv 0)) (aB ak)) (fun _ _=>rfl) (fun _ _=>rfl)) (af (d5 hu (ag (wpv 2)) (ag (wpv 0)) (fun _ _=>rfl) (fun _ _=>rfl)) av))) (ag (wpv 1)) (by with_unfolding_all rfl))) rfl rfl (by decide +kernel) (by decide +kernel) ⟨rfl,rfl,trivial⟩ rfl (.cons ⟨rfl,rfl,rfl,_,rfl⟩ (.cons ⟨rfl,rfl,rfl,_,rfl⟩ .nil)) rfl rfl) av)))))))
theorem gG:bp ["tale","known","order","turn","left","free","way"] ["tale"] (aE fq):=⟨rfl,rfl,rfl,by decide +kernel,rfl,by decide +kernel,by decide +kernel⟩
theorem nV{k:Nat}{ax:Fn}{fuel:Nat}(d:Def K mg "_law_found" fq ["tale"])(B:Blt mg)(bc:ff P w K mg base "_law_musts" (k) ["tale"] ax):ff P w K mg base "_law_found" (k+1) ["tale"] (fnU 7 1 (cY ax fuel)):=
 d.pure gG fun f cdv A outer s H E hr=>(by
  have hu:=fZ hr
  have nd:=gG.nd
  exact(aw (aM (i:=1) nd rfl (by first|exact Or.inl rfl|exact Or.inr rfl) (aS bc hr rfl (af (ag (wpv 0)) av)))
   (aw (aM (i:=2) nd rfl (by first|exact Or.inl rfl|exact Or.inr rfl) (cK av))
   (aw (eY PassesOwn.never rfl (bJ rfl B.range (af (d5 hu (ag (wpv 0)) (aB ak) (fun _ _=>rfl) (fun _ _=>rfl)) av)) (aT (aC (i:=3) nd rfl (by first|exact Or.inl rfl|exact Or.inr rfl))) (aw (aM (i:=4) nd rfl (by first|exact Or.inl rfl|exact Or.inr rfl) (eK (Nc:=["a","order"]) (tn:=["a"]) (capN:=["order"]) (caps:=[2]) rfl (bJ rfl B.range (af (d5 hu (ag (wpv 0)) (aB ak) (fun _ _=>rfl) (fun _ _=>rfl)) av)) (fun _ _ _=>(aT (aC (i:=0) (show(["a","order"]:List Str).Nodup by decide +kernel) rfl (by first|exact Or.inl rfl|exact Or.inr rfl)))) (fun _ _ _=>(ma hu (ag (wpv 0)) (ag (wpv 1)) (by with_unfolding_all rfl))) (fun _ _ _=>(ag (wpv 0))) rfl rfl (by decide +kernel) (by decide +kernel) ⟨rfl,trivial⟩ rfl (.cons ⟨rfl,rfl,rfl,_,rfl⟩ .nil) rfl rfl))
   (aw (l0 (a0:="a") (Nc:=["a","known","left"]) (tn:=["a"]) (capN:=["known","left"]) (caps:=[1,4]) rfl (cT (ag (wpv 4))) (fun _ _ _=>(aT (aC (i:=0) (show(["a","known","left"]:List Str).Nodup by decide +kernel) rfl (by first|exact Or.inl rfl|exact Or.inr rfl)))) (fun _ _ _=>by exact(bw (zC hr.units) nB (eK (Nc:=["one","a","left"]) (tn:=["one"]) (capN:=["a","left"]) (caps:=[0,2]) rfl (cT (ag (wpv 1))) (fun _ _ _=>(aT (aC (i:=0) (show(["one","a","left"]:List Str).Nodup by decide +kernel) rfl (by first|exact Or.inl rfl|exact Or.inr rfl)))) (fun _ _ _=>(wR (uC (bw si C0 (d5 hu (ag (wpv 0)) (aB ak) (fun _ _=>rfl) (fun _ _=>rfl)) (ag (wpv 1)) (aZ _)) (nq (Bu hu (d5 hu (ag (wpv 0)) (aB ak) (fun _ _=>rfl) (fun _ _=>rfl)) (ag (wpv 2)) (by with_unfolding_all rfl)))))) (fun _ _ _=>(ag (wpv 0))) rfl rfl (by decide +kernel) (by decide +kernel) ⟨rfl,rfl,trivial⟩ rfl (.cons ⟨rfl,rfl,rfl,_,rfl⟩ (.cons ⟨rfl,rfl,rfl,_,rfl⟩ .nil)) rfl rfl) (cK av) (aZ _))) (fun _ _ _=>(ag (wpv 0))) rfl rfl (by decide +kernel) (fun _ _=>rfl) (fun _=>rfl) (by decide +kernel) ⟨rfl,rfl,trivial⟩ rfl (.cons ⟨rfl,rfl,rfl,_,rfl⟩ (.cons ⟨rfl,rfl,rfl,_,rfl⟩ .nil)) rfl rfl nd rfl rfl rfl)
   (aN (c8 (gM (ag (wpv 2)) (af (me (ag (wpv 5)) bu (bt (aB ak))) av)))))))
   (aw (aM (i:=4) nd rfl (by first|exact Or.inl rfl|exact Or.inr rfl) (eK (Nc:=["a","order"]) (tn:=["a"]) (capN:=["order"]) (caps:=[2]) rfl (bJ rfl B.range (af (d5 hu (ag (wpv 0)) (aB ak) (fun _ _=>rfl) (fun _ _=>rfl)) av)) (fun _ _ _=>(aT (aC (i:=0) (show(["a","order"]:List Str).Nodup by decide +kernel) rfl (by first|exact Or.inl rfl|exact Or.inr rfl)))) (fun _ _ _=>(ma hu (ag (wpv 0)) (ag (wpv 1)) (by with_unfolding_all rfl))) (fun _ _ _=>(ag (wpv 0))) rfl rfl (by decide +kernel) (by decide +kernel) ⟨rfl,trivial⟩ rfl (.cons ⟨rfl,rfl,rfl,_,rfl⟩ .nil) rfl rfl))
   (aw (aM (i:=6) nd rfl (by first|exact Or.inl rfl|exact Or.inr rfl) (me (ag (wpv 4)) bu (bt (aB ak))))
   (aw (qt fuel PassesOwn.never (wR (uC (bw (kZ hr.units) nB (ag (wpv 6)) (cK av) (aZ _)) (nq (ma hu (d5 hu (ag (wpv 6)) (kB (aB ak)) (fun _ _=>rfl) (fun _ _=>rfl)) (me (ag (wpv 6)) bu (bt (kB (aB ak)))) (by with_unfolding_all rfl))))) (aN (c8 (eL (ag (wpv 6)) (af (d5 hu (eK (Nc:=["one","left","way"]) (tn:=["one"]) (capN:=["left","way"]) (caps:=[4,6]) rfl (cT (ag (wpv 1))) (fun _ _ _=>(aT (aC (i:=0) (show(["one","left","way"]:List Str).Nodup by decide +kernel) rfl (by first|exact Or.inl rfl|exact Or.inr rfl)))) (fun _ _ _=>(wR (uC (bw si C0 (d5 hu (ag (wpv 0)) (aB ak) (fun _ _=>rfl) (fun _ _=>rfl)) (d5 hu (ag (wpv 2)) (kB (aB ak)) (fun _ _=>rfl) (fun _ _=>rfl)) (aZ _)) (nq (Bu hu (d5 hu (ag (wpv 0)) (aB ak) (fun _ _=>rfl) (fun _ _=>rfl)) (ag (wpv 1)) (by with_unfolding_all rfl)))))) (fun _ _ _=>(d5 hu (ag (wpv 0)) (aB ak) (fun _ _=>rfl) (fun _ _=>rfl))) rfl rfl (by decide +kernel) (by decide +kernel) ⟨rfl,rfl,trivial⟩ rfl (.cons ⟨rfl,rfl,rfl,_,rfl⟩ (.cons ⟨rfl,rfl,rfl,_,rfl⟩ .nil)) rfl rfl) (aB ak) (fun _ _=>rfl) (fun _ _=>rfl)) av)))))
   (aw (gK (bw (zC hr.units) nB (ag (wpv 6)) (cK av) (aZ _)) (aN (bI (kA (af (ag (wpv 2)) (af (cK av) av))))) dX)
   (aN (bI (kA (af (dq cu cq (ag (wpv 2)) (ag (wpv 4))) (af (GY (ag (wpv 6)) (dI (ag (wpv 6)) (af (d5 hu (ag (wpv 6)) (kB (aB ak)) (fun _ _=>rfl) (fun _ _=>rfl)) av)) (kB (aB ak))) av)))))))))))))
theorem iW:bp ["well","tale","some","at","number","more"] ["well","tale","some"] (aE fW):=⟨rfl,rfl,rfl,by decide +kernel,rfl,by decide +kernel,by decide +kernel⟩
theorem o8{k:Nat}{au:Fn}(d:Def K mg "_law_bent" fW ["well","tale","some"])(B:Blt mg)(aD:ff P w K mg base "_law_sip" (k) ["well","many"] au):ff P w K mg base "_law_bent" (k+1) ["well","tale","some"] (fnU 6 3 (dN au)):=
 d.pure iW fun f cdv A outer s H E hr=>(by
  have hu:=fZ hr
  have nd:=iW.nd
  exact(aw (aM (i:=3) nd rfl (by first|exact Or.inl rfl|exact Or.inr rfl) (aS aD hr rfl (af (ag (wpv 0)) (af (dq cu cq (aW iL iI rfl B.len PySem.boot_len (af (ag (wpv 2)) av)) (aB ak)) av))))
   (aw (aM (i:=4) nd rfl (by first|exact Or.inl rfl|exact Or.inr rfl) (d5 hu (cK (af (d5 hu (ag (wpv 1)) (aB ak) (fun _ _=>rfl) (fun _ _=>rfl)) (af (kB (aB ak)) (af (dq EK Hh (aB ak) (aB ak)) (af (aS aD hr rfl (af (ag (wpv 0)) (af (d5 hu (ag (wpv 1)) (aB ak) (fun _ _=>rfl) (fun _ _=>rfl)) av))) av))))) (aS aD hr rfl (af (ag (wpv 0)) (af (aB ak) av))) (fun _ _=>rfl) (fun _ _=>rfl)))
   (aw (aM (i:=5) nd rfl (by first|exact Or.inl rfl|exact Or.inr rfl) (cK (af (ag (wpv 2)) (af (Ed (ag (wpv 2)) (kB (aB ak))) (af (dq cu cq (me (ag (wpv 2)) (bt (ag (wpv 3))) bu) (me (ag (wpv 2)) bu (bt (ag (wpv 3))))) (af (dq cu cq (me (ag (wpv 2)) bu (bt (ag (wpv 3)))) (me (ag (wpv 2)) (bt (dq cu cq (ag (wpv 3)) (aB ak))) bu)) (af (dq cu cq (dq cu cq (me (ag (wpv 2)) bu (bt (ag (wpv 3)))) (cK (af (ag (wpv 4)) av))) (me (ag (wpv 2)) (bt (ag (wpv 3))) bu)) av)))))))
   (aw (aM (i:=5) nd rfl (by first|exact Or.inl rfl|exact Or.inr rfl) (dq cu cq (ag (wpv 5)) (cK (af (dq cu cq (ag (wpv 2)) (me (ag (wpv 2)) bu (bt (aB ak)))) (af (dq cu cq (dq cu cq (me (ag (wpv 2)) bu (bt (ag (wpv 3)))) (cK (af (ag (wpv 4)) av))) (me (ag (wpv 2)) (bt (dq cu cq (ag (wpv 3)) (aB ak))) bu)) (af (cK av) (af (me (ag (wpv 2)) bu (bt (ag (wpv 3)))) av)))))))
   (aN (bI (d5 hu (ag (wpv 5)) (aS aD hr rfl (af (ag (wpv 0)) (af (aB ak) av))) (fun _ _=>rfl) (fun _ _=>rfl)))))))))
theorem zo:bp ["script","k","well","tale","order","ring","lists","turn","some","handed","found"] ["script"] (aE Bm):=⟨rfl,rfl,rfl,by decide +kernel,rfl,by decide +kernel,by decide +kernel⟩
def mI(bh bj aY ay bo bS aP aR aQ:Fn):CS:=
 (eQ (cBM bY (ae 6) (ab (cCB bo (ab (ae 2) (ab (ae 3) (ab (cOp fIx (bZ (ab (ae 4) (ab (ae 5) ao))) (cOp mM (ae 7) (cC (.int 2)))) ao)))) ao)))
def mH(bh bj aY ay bo bS aP aR aQ:Fn):CS:=
 (bq (bM 9 (cCB hC (ab (ae 8) ao)))
  (bq (bM 10 (bZ (ab (cCB aP (ab (ae 3) (ab (ae 9) ao))) (ab (cCB bS (ab (ae 3) (ab (ae 9) ao))) ao))))
  (bq (kG (cOr (FK (aA (cCB jW (ab (bR (iTp (ae 10)) (gNm 0) (wW .bool (ae 0)) 1 []) ao)))) (aA (cOp (fJ true) (ae 9) (ae 8)))) (ik (cC (.bl false))) et)
  (kG (aA (cOp (fJ true) (ae 10) (bZ (ab (cCB aQ (ab (ae 3) (ab (ae 8) ao))) (ab (cCB aR (ab (ae 3) (ab (ae 8) ao))) ao))))) (ik (cC (.bl false))) et))))
def pG(bh bj aY ay bo bS aP aR aQ:Fn):CS:=
 (bq (bM 2 (cCB bh (ab (ae 0) (ab (ae 1) ao))))
  (bq (bM 3 (cCB bj (ab (ae 2) (ab (cC (.int 7)) ao))))
  (bq (C3 (cCB aY (ab (ae 3) ao)) (gTp [4,5]))
  (bq (bM 6 (bZ (ab (ae 4) (ab (ae 5) (ab (cCB ay (ab (ae 2) (ab (cOp fIx (ae 3) (cC (.int 0))) ao))) (ab (bZ (ab (cC (.int 0)) ao)) (ab (bZ ao) ao)))))))
  (bq (iQ (aK (ab (cC (.int 4)) ao)) (gNm 7) (mI bh bj aY ay bo bS aP aR aQ))
  (iQ (iTp (ae 6)) (gNm 8) (mH bh bj aY ay bo bS aP aR aQ)))))))
def CO(bh bj aY ay bo bS aP aR aQ:Fn):CS:=
 (bq (iQ (aK (ab (cCB F6 (ab (cC (.int 3)) (ab (cCB F5 (ab (cC (.int 10)) (ab (cCB eN (ab (ae 0) ao)) ao))) ao))) ao)) (gNm 1) (pG bh bj aY ay bo bS aP aR aQ))
  (ik (cC (.bl true))))
theorem HD{k:Nat}{bh bj aY ay bo bS aP aR aQ:Fn}{fa:Addr}{fd:FuncData}(F:Fun K "law" "law" Bm fa fd)(B:Blt mg)(gm:ff P w K mg base "_law_well" (k) ["script","k"] bh)(gq:ff P w K mg base "_law_tale" (k) ["well","most"] bj)(fE:ff P w K mg base "_law_found" (k) ["tale"] aY)(cm:ff P w K mg base "_law_mixed" (k) ["well","many"] ay)(gv:ff P w K mg base "_law_bent" (k) ["well","tale","some"] bo)(ko:ff P w K mg base "is_ring" (k) ["tale","some"] bS)(dS:ff P w K mg base "is_tale_order" (k) ["tale","some"] aP)(eC:ff P w K mg base "_law_is_ring" (k) ["tale","some"] aR)(dU:ff P w K mg base "_law_is_order" (k) ["tale","some"] aQ)
  (ok:∀(ns:List Int),ns.length<=63->∃ρ' S',CO bh bj aY ay bo bS aP aR aQ [some (.kl ns),none,none,none,none,none,none,none,none,none,none] []=some (.rt (.bl true),ρ',S')):oI P w K mg base CX0 (k+1) fa fd ["script"] (qd K):=by
 refine Fun.okW F zo (fun vs H Q E h=>(by obtain⟨a,ns,rfl,_⟩:=h;rfl)) fun cdv A outer s H vs Q E hr h=>?_
 obtain⟨a,ns,rfl,hS,hlen,q⟩:=h
 have hu:=fZ hr
 have nd:=zo.nd
 exact⟨_,(aw (eY PassesOwn.never rfl (bJ rfl B.range (af (aW (we rfl) Hj rfl B.max OG.y4 (af (aB ak) (af (aW (wd rfl) Hi rfl B.min OG.y3 (af (aB ak) (af (aW iL iI rfl B.len PySem.boot_len (af (ag (wpv 0)) av)) av))) av))) av)) (aT (aC (i:=1) nd rfl (by first|exact Or.inl rfl|exact Or.inr rfl))) (aw (aM (i:=2) nd rfl (by first|exact Or.inl rfl|exact Or.inr rfl) (aS gm hr rfl (af (ag (wpv 0)) (af (ag (wpv 1)) av))))
   (aw (aM (i:=3) nd rfl (by first|exact Or.inl rfl|exact Or.inr rfl) (aS gq hr rfl (af (ag (wpv 2)) (af (aB ak) av))))
   (aw (zu (aS fE hr rfl (af (ag (wpv 3)) av)) (nj rfl (bO (aC (i:=4) nd rfl (by first|exact Or.inl rfl|exact Or.inr rfl)) (bO (aC (i:=5) nd rfl (by first|exact Or.inl rfl|exact Or.inr rfl)) jE))))
   (aw (aM (i:=6) nd rfl (by first|exact Or.inl rfl|exact Or.inr rfl) (cK (af (ag (wpv 4)) (af (ag (wpv 5)) (af (aS cm hr rfl (af (ag (wpv 2)) (af (d5 hu (ag (wpv 3)) (aB ak) (fun _ _=>rfl) (fun _ _=>rfl)) av))) (af (cK (af (aB ak) av)) (af (cK av) av)))))))
   (aw (eY PassesOwn.never rfl (bJ rfl B.range (af (aB ak) av)) (aT (aC (i:=7) nd rfl (by first|exact Or.inl rfl|exact Or.inr rfl))) (aN (c8 (eL (ag (wpv 6)) (af (aS gv hr rfl (af (ag (wpv 2)) (af (ag (wpv 3)) (af (d5 hu (cK (af (ag (wpv 4)) (af (ag (wpv 5)) av))) (dq nE uS (ag (wpv 7)) (aB ak)) (fun _ _=>rfl) (fun _ _=>rfl)) av)))) av)))))
   (aN (eY PassesOwn.never rfl (cT (ag (wpv 6))) (aT (aC (i:=8) nd rfl (by first|exact Or.inl rfl|exact Or.inr rfl))) (aw (aM (i:=9) nd rfl (by first|exact Or.inl rfl|exact Or.inr rfl) (cD cV nA rfl B.list OG.dQ (af (ag (wpv 8)) av)))
   (aw (aM (i:=10) nd rfl (by first|exact Or.inl rfl|exact Or.inr rfl) (cK (af (aS dS hr rfl (af (ag (wpv 3)) (af (ag (wpv 9)) av))) (af (aS ko hr rfl (af (ag (wpv 3)) (af (ag (wpv 9)) av))) av))))
   (aw (gK (wR (CY (uy (ux (aW (eP rfl) oX rfl B.all OG.eR (af (iX (Nc:=["one"]) (tn:=["one"]) (capN:=[]) (caps:=[]) rfl (cT (ag (wpv 10))) (fun _ _ _=>(aT (aC (i:=0) (show(["one"]:List Str).Nodup by decide +kernel) rfl (by first|exact Or.inl rfl|exact Or.inr rfl)))) (fun _ _ _=>(Bw (T:=.bool) (by intro z;cases z) (ag (wpv 0)) (tH rfl B.bool OG.ox) rfl B.isinstance)) rfl rfl (by decide +kernel) (by decide +kernel) trivial rfl .nil rfl rfl) av)))) (uz (bw (kZ hr.units) nB (ag (wpv 9)) (ag (wpv 8)) (aZ _))))) (aN (bI (zv iT))) dX)
   (aN (gK (bw (kZ hr.units) nB (ag (wpv 10)) (cK (af (aS dU hr rfl (af (ag (wpv 3)) (af (ag (wpv 8)) av))) (af (aS eC hr rfl (af (ag (wpv 3)) (af (ag (wpv 8)) av))) av))) (aZ _)) (aN (bI (zv iT))) dX)))))))))))))
   (aN (bI (zv iT)))),yz hS (ok ns hlen) q⟩
end
end OL
local macro_rules
 | `(tactic| rwa $s:rwRuleSeq) => do
  let ts : Array (Lean.TSyntax `term) := s.raw[1].getSepArgs.map fun r => ⟨r[1]⟩
  let us : Array (Lean.TSyntax `term) := (("Ap sV x_c iA cI cH dD jn AE zg DG As Dq oJ rK kJ DD AD AB Dr Au Av aL bz lL Aq Dg rL zf oN mO Gx Dx ze rJ mN Dm Dk Dj kK Az kq Dp eI jq pO fM kI GI DC DB GB GA DI DH IJ Gn Gm Gk Gj Gu oK oM Gw Gi Dh Di sX sY Dv Du AF Gh FW IK IM GG Ds GF Gq GH Gr GD GC at0 at1 at2 at3 ix0 ix1 ix2 Option.bind_some List.getElem?_cons_zero List.getElem?_cons_succ List.set_cons_zero List.set_cons_succ List.length_cons List.length_nil List.map_cons List.map_nil decide_true decide_false Bool.not_true Bool.not_false Gy Gz Gs Dw AA oP oO xg GJ Dd De Df Aw Ax Ay Dy ga ga0 gs gs0 Option.join_some Nat.add_zero List.cons_append List.nil_append List.append_assoc" : String).splitOn " ").toArray.map fun x => ⟨(Lean.mkIdent ((x.splitOn ".").foldl Lean.Name.str Lean.Name.anonymous)).raw⟩
  let vs:=ts++us
  `(tactic| simp only [$[$vs:term],*])
namespace OQ
open PySem PySem.Spec PyProof.Rows L2 OG OP
theorem l9{m:Int}(h0:0<=m)(h:m<2^60):m.natAbs.log2<9000:=vk h0 h
theorem qM{κ α:Type}[DecidableEq κ](ps:List (κ×α))(b:κ)(v:α):(jG ps b v).length<=ps.length+1:=by
 unfold jG;split<;>simp
theorem vb{α:Type}{l:List α}{k:Nat}{x:α}(h:l[k]?=some x):k<l.length:=(Q6.mp h).1
theorem ah{α:Type}{l r:List α}{k:Nat}{x:α}(h:l[k]?=some x):(l++r)[k]?=some x:=by rw[QN (vb h)];exact h
theorem Ft{ls:List Nat}{S0 S':Sto}(len:S0.length<=S'.length)(old:∀l,l<S0.length->S'[l]?=S0[l]?):∃G,S'=S0++G:=by
 refine⟨S'.drop S0.length,ZT fun l=>?_⟩
 by_cases c:l<S0.length
 ·rw[old l c,QN c]
 ·rw[Qz (by omega),List.getElem?_drop];congr 1;omega
theorem inI(b:Int):∀l:List Int,inU (.int b) (l.map U.int)=decide (b∈l)
 |[]=>by simp[inU]
 |x::r=>by
  have ih:=inI b r
  unfold inU at ih ⊢
  rw[Qx,Zw,ih,show eqF (.int x) (.int b)=(x == b)from rfl]
  by_cases e:x=b
  ·subst e;simp
  ·have:(x == b)=false:=by simpa using e
   rw[this];simp[Ne.symm e]
theorem HG(l:List Int):(l.map U.int).all gc=true:=by
 induction l with
 |nil=>rfl
 |cons x r ih=>rw[Qx,List.all_cons,ih];rfl
theorem lF{ok:Sto->Prop}{g:CG}{ct:CT}{ce:CE}{l:Nat}{ρ:Rho}{S:Sto}(h:ok S):bB ok g ct ce l [] ρ S=some S:=by rw[bB,if_pos h]
theorem oh{ok:Sto->Prop}{g:CG}{ct:CT}{ce:CE}{l:Nat}{ρ ρ0:Rho}{S S0 S1:Sto}{u:U}{us:List U}(h:ok S)(hg:g u ρ S=some (ρ0,S0))(ht:ct ρ0 S0=some (false,S1)):bB ok g ct ce l (u::us) ρ S=bB ok g ct ce l us ρ0 S1:=by
 rw[bB,if_pos h,hg,Q0,ht,Q0,if_neg QF]
theorem lE{ok:Sto->Prop}{g:CG}{ct:CT}{ce:CE}{l:Nat}{ρ ρ0:Rho}{S S0 S1 S2:Sto}{u x:U}{us ys:List U}(h:ok S)(hg:g u ρ S=some (ρ0,S0))(ht:ct ρ0 S0=some (true,S1))(he:ce ρ0 S1=some (x,S2))(hl:S2[l]?=some (.lst ys))(hn:ys.length<LIM) :
  bB ok g ct ce l (u::us) ρ S=bB ok g ct ce l us ρ0 (S2.set l (.lst (ys++[x]))):=by
 rw[bB,if_pos h,hg,Q0,ht,Q0,if_pos rfl,he,Q0]
 simp only[hl,hn,if_true]
def Lay(k:Nat)(S:Sto)(u:U):Prop:=∃d,Dt S u d/\d.canLay0=true/\d.depth<=k
def kH(k:Nat)(S:Sto)(u v:U):Prop:=∃d,Dt S u d/\Dt S v d/\d.canLay0=true/\d.depth<=k
def fT(k:Nat)(S:Sto)(us vs:List U):Prop:=∃ds,DtL S us ds/\DtL S vs ds/\PyData.canLayAll0 ds=true/\PyData.depthAll ds<=k
section
variable{k j:Nat}{S:Sto}{u v:U}{us vs:List U}
theorem kH.refl(h:Lay k S u):kH k S u u:=by obtain⟨d,a,b,c⟩:=h;exact⟨d,a,a,b,c⟩
theorem fT.nil:fT k S [] []:=⟨[],.nil,.nil,rfl,Qs _⟩
theorem fT.cons(h:kH k S u v)(t:fT k S us vs):fT k S (u::us) (v::vs):=by
 obtain⟨d,a,b,c,e⟩:=h
 obtain⟨ds,a',b',c',e'⟩:=t
 refine⟨d::ds,.cons a a',.cons b b',by unfold PyData.canLayAll0;rw[c,c'];rfl,?_⟩
 unfold PyData.depthAll
 exact Nat.max_le.mpr ⟨e,e'⟩
theorem fT.all:∀{us:List U},(∀u∈us,Lay k S u)->fT k S us us
 |[],_=>.nil
 |u::us,h=>.cons (.refl (h u QK)) (fT.all fun x hx=>h x (QU _ hx))
theorem kH.lst{l l':Nat}(h1:S[l]?=some (.lst us))(h2:S[l']?=some (.lst vs))(h:fT k S us vs):kH (k+1) S (.ref l) (.ref l'):=by
 obtain⟨ds,a,b,c,e⟩:=h
 refine⟨.list ds,.lst h1 a,.lst h2 b,by unfold PyData.canLay0;exact c,?_⟩
 unfold PyData.depth
 omega
theorem kH.ne(h:kH k S u v)(hk:k<=60):fJ true u v S=some (.bl false,S):=by
 obtain⟨d,a,b,c,e⟩:=h
 exact mC true (.inl ⟨d,d,a,b,⟨c,Qy e hk⟩,⟨c,Qy e hk⟩,(SeqAt.eqv_refl d c).symm⟩)
end
section
variable{S:Sto}{l l':Nat}{us:List U}{u:U}{i:Int}
def qU(l:Nat)(i:Int)(S:Sto):Option O->Option (U×Sto)
 |some (.lst us)=>if 0<=i/\i<us.length/\us.length<=LIM then(us[i.toNat]?).bind fun u=>some (u,S.set l (.lst (us.eraseIdx i.toNat)))else none
 |_=>none
theorem Ar:lC (.ref l) [.int i] S=qU l i S S[l]?:=by
 unfold lC qU;rfl
theorem xf(h0:0<=i)(h1:i<us.length)(hL:us.length<=LIM)(hu:us[i.toNat]?=some u):qU l i S (some (.lst us))=some (u,S.set l (.lst (us.eraseIdx i.toNat))):=by
 simp only[qU]
 rw[if_pos ⟨h0,h1,hL⟩,hu,Q0]
def kNg:U×Sto->Option (U×Sto)
 |(.int i,S)=>some (.int (-i),S)
 |_=>none
theorem kr{ca:CE}{ρ:Rho}:fc ca ρ S=(ca ρ S).bind kNg:=by
 unfold fc
 congr 1
 funext p
 obtain⟨x,S⟩:=p
 cases x<;>rfl
theorem fQ:kNg (.int i,S)=some (.int (-i),S):=rfl
theorem mJ{vs:List U}:atI (vs++[u]) (-1)=some u:=by
 unfold atI ixN
 rw[if_neg (by omega),if_pos (by rw[QQ,Z0];omega)]
 simp only[Q0]
 have e:((-1:Int)+((vs++[u]).length:Int)).toNat=vs.length:=by rw[QQ,Z0];omega
 rw[e]
 simp
theorem nG(neg:Bool)(h:S[l]?=some (.lst us))(h':S[l']?=some (.lst [])):fJ neg (.ref l) (.ref l') S=some (.bl (if neg then !decide (us=[])else decide (us=[])),S):=by
 by_cases e:us=[]
 ·subst e
  have k:=(kH.lst (k:=0) h h' .nil)
  obtain⟨d,a,b,c,e⟩:=k
  rw[decide_eq_true rfl]
  exact mC neg (.inl ⟨d,d,a,b,⟨c,Qy e (by omega)⟩,⟨c,Qy e (by omega)⟩,(SeqAt.eqv_refl d c).symm⟩)
 ·rw[decide_eq_false e]
  exact mC neg (.inr ⟨l,l',us,[],rfl,rfl,h,h',by simpa using e,rfl⟩)
end
theorem va{α β:Type}(f:α->β)(l:List α)(k:Nat):(l.eraseIdx k).map f=(l.map f).eraseIdx k:=by
 rw[List.eraseIdx_eq_take_drop_succ,List.eraseIdx_eq_take_drop_succ,Qe,List.map_take,List.map_drop]
theorem dH(n:Nat):aX 0 n=((Qj n).map fun i:Nat=>(i:Int)).map U.int:=by
 unfold aX
 rw[Qc]
 refine Zu fun i _=>?_
 simp
inductive Ev where
 |beg (a:Int)|look (a b x:Int)|put (a b x:Int)|fin (d:Bool) (a:Int)
structure Att where
 en:Option Bool
 lk:List (Int×Int)
 nd:List (Int×Int)
 ps:List (Int×Int)
 bf:List Int
abbrev St:=List (Int×Att)
theorem bQ{α:Type}{ok:Sto->Prop}{gg:CG}{ct:CT}{ce:CE}{S:Sto}{f:α->U}{p:α->Bool}{v:α->U}{Rel:Rho->Prop}(hok:∀ys G,ok (S++(.lst ys::G))) :
  ∀(xs:List α) (ys:List U) (G:Sto) (ρ:Rho),Rel ρ->ys.length+xs.length<=9999->
  (∀x∈xs,∀ys G ρ,Rel ρ->∃ρ0 G1,Rel ρ0/\gg (f x) ρ (S++(.lst ys::G))=some (ρ0,S++(.lst ys::G))/\ct ρ0 (S++(.lst ys::G))=some (p x,S++(.lst ys::(G++G1)))/\
   (p x=true->∃G2,ce ρ0 (S++(.lst ys::(G++G1)))=some (v x,S++(.lst ys::(G++G1++G2)))))->
  ∃G',bB ok gg ct ce S.length (xs.map f) ρ (S++(.lst ys::G))=some (S++(.lst (ys++(xs.filter p).map v)::(G++G')))
 |[],ys,G,ρ,_,_,_=>⟨[],by simp only[Zh,List.filter_nil,QL];exact lF (hok ys G)⟩
 |x::xs,ys,G,ρ,hr,hl,hb=>by
  rw[QB]at hl
  obtain⟨ρ0,G1,r0,h1,h2,h3⟩:=hb x QK ys G ρ hr
  have hb':=fun x (hx:x∈xs)=>hb x (QU _ hx)
  cases hp:p x with
  |false=>
   rw[hp]at h2
   obtain⟨G',h⟩:=bQ hok xs ys (G++G1) ρ0 r0 (by omega) hb'
   refine⟨G1++G',?_⟩
   rw[Qx,List.filter_cons_of_neg (by simp[hp])]
   refine(oh (hok ys G) h1 h2).trans ?_
   rw[h,Q9]
  |true=>
   rw[hp]at h2
   obtain⟨G2,h4⟩:=h3 hp
   obtain⟨G',h⟩:=bQ hok xs (ys++[v x]) (G++G1++G2) ρ0 r0 (by simp;omega) hb'
   refine⟨G1++(G2++G'),?_⟩
   rw[Qx,List.filter_cons_of_pos hp]
   refine(lE (hok ys G) h1 h2 h4 (by rw[ga0];rfl) (by unfold LIM;omega)).trans ?_
   rw[gs0]
   simp only[List.set_cons_zero]
   rw[h]
   simp only[Qx,Q9,ZZ,Qd]
theorem mE{α:Type}{ok:Sto->Prop}{gg:CG}{ce:CE}{S:Sto}{f:α->U}{v:α->U}{Rel:Rho->Prop}(hok:∀ys G,ok (S++(.lst ys::G))) :
  ∀(xs:List α) (ys:List U) (G:Sto) (ρ:Rho),Rel ρ->ys.length+xs.length<=9999->
  (∀x∈xs,∀ys G ρ,Rel ρ->∃ρ0 G1,Rel ρ0/\gg (f x) ρ (S++(.lst ys::G))=some (ρ0,S++(.lst ys::G))/\ce ρ0 (S++(.lst ys::G))=some (v x,S++(.lst ys::(G++G1))))->
  ∃G',fO ok gg ce S.length (xs.map f) ρ (S++(.lst ys::G))=some (S++(.lst (ys++xs.map v)::(G++G')))
 |[],ys,G,ρ,_,_,_=>⟨[],by simp only[Zh,QL];exact rm (hok ys G)⟩
 |x::xs,ys,G,ρ,hr,hl,hb=>by
  rw[QB]at hl
  obtain⟨ρ0,G1,r0,h1,h2⟩:=hb x QK ys G ρ hr
  obtain⟨G',h⟩:=mE hok xs (ys++[v x]) (G++G1) ρ0 r0 (by simp;omega) (fun x hx=>hb x (QU _ hx))
  refine⟨G1++G',?_⟩
  rw[Qx]
  refine(oa (hok ys G) h1 h2 (by rw[ga0];rfl) (by unfold LIM;omega)).trans ?_
  rw[gs0]
  simp only[List.set_cons_zero]
  rw[h]
  simp only[Qx,Q9,ZZ,Qd]
section
variable{c:Cl}{n w:Int}{S G:Sto}{st:St}{a:Int}{t:Att}{x:List Int}
theorem xH{Z:Sto}{r:Nat}{o o':O}(h:Z[r]?=some o):(Z.set r o').set r o=Z:=by
 rw[List.set_set]
 refine ZT fun i=>?_
 rw[Qp]
 split
 ·subst i
  obtain⟨h1,h2⟩:=Q6.mp h
  simp[h1,h2]
 ·rfl
end
theorem rj:∀ns ms:List Int,PyData.eqv (.list (ns.map PyData.int)) (.list (ms.map PyData.int))=decide (ns=ms)
 |[],[]=>rfl
 |[],_::_=>rfl
 |_::_,[]=>rfl
 |n::ns,m::ms=>by
  have e:PyData.eqv (.list ((n::ns).map PyData.int)) (.list ((m::ms).map PyData.int))=((n == m)&&PyData.eqv (.list (ns.map PyData.int)) (.list (ms.map PyData.int))):=rfl
  rw[e,rj ns ms,ZY]
  simp
theorem mD{S:Sto}:∀ns:List Int,DtL S (ns.map U.int) (ns.map PyData.int)
 |[]=>.nil
 |n::ns=>.cons (.int n) (mD ns)
theorem qP(ns:List Int):pK (.list (ns.map PyData.int)):=by
 have h:∀ns:List Int,PyData.canLayAll0 (ns.map PyData.int)=true/\PyData.depthAll (ns.map PyData.int)<=0:=fun ns=>by
  induction ns with
  |nil=>exact⟨rfl,QJ _⟩
  |cons n r ih=>
   refine⟨by unfold PyData.canLayAll0;rw[Qx];exact ih.1,?_⟩
   rw[Qx]
   unfold PyData.depthAll
   exact Nat.max_le.mpr ⟨QJ _,ih.2⟩
 refine⟨by unfold PyData.canLay0;exact(h ns).1,?_⟩
 unfold PyData.depth
 have:=(h ns).2
 omega
theorem qY(neg:Bool){S:Sto}{l l':Nat}{ns ms:List Int}(h:S[l]?=some (.lst (ns.map U.int)))(h':S[l']?=some (.lst (ms.map U.int))):fJ neg (.ref l) (.ref l') S=some (.bl (if neg then !decide (ns=ms)else decide (ns=ms)),S):=
 mC neg (.inl ⟨_,_,.lst h (mD ns),.lst h' (mD ms),qP ns,qP ms,(rj ns ms).symm⟩)
theorem jX{α:Type}:∀{l:List α} {i:Nat} (h:i<l.length),(l[i]::l.eraseIdx i).Perm l
 |[],_,h=>absurd h (Nat.not_lt_zero _)
 |a::l,0,_=>List.Perm.refl _
 |a::l,i+1,h=>(List.Perm.swap a _ _).trans (List.Perm.cons a (jX (l:=l) (i:=i) (by simpa using h)))
structure Wl(lw:Nat)(T T':Sto):Prop where
 len:T.length<=T'.length
 keep:∀j,j<T.length->j≠lw->T'[j]?=T[j]?
 well:∃z,T'[lw]?=some (.lst [.int z])
section
variable{lw j:Nat}{T T1 T2 S:Sto}{o:O}{m:Int}
theorem Wl.get(w:Wl lw T T1)(h:T[j]?=some o)(n:j≠lw):T1[j]?=some o:=by rw[w.keep j (Q6.mp h).1 n];exact h
theorem Wl.trans(a:Wl lw T T1)(b:Wl lw T1 T2):Wl lw T T2:=⟨Qy a.len b.len,fun j hj n=>by rw[b.keep j (Qq hj a.len) n,a.keep j hj n],b.well⟩
theorem Wl.refl(h:∃z,T[lw]?=some (.lst [.int z])):Wl lw T T:=⟨QJ _,fun _ _ _=>rfl,h⟩
theorem Wl.app(h:∃z,T[lw]?=some (.lst [.int z]))(X:Sto):Wl lw T (T++X):=⟨by simp,fun j hj _=>QN hj,by obtain⟨z,h⟩:=h;exact⟨z,ah h⟩⟩
def cw:Fn:=fnU 3 2 eG
theorem cB(h:∃z,T[lw]?=some (.lst [.int z]))(hm:0<m)(hb:m<2^60):∃d T1,cw [.ref lw,.int m] T=some (.int d,T1)/\Wl lw T T1/\T1.length=T.length/\0<=d/\d<m:=by
 obtain⟨z,h⟩:=h
 have hl:=(Q6.mp h).1
 refine⟨z % m,T.set lw (.lst [.int (z / m)]),?_,⟨by simp,fun j hj n=>Qb n.symm,⟨_,by rw[Qp,if_pos rfl,if_pos hl]⟩⟩,by simp,Int.emod_nonneg _ (by omega),Int.emod_lt_of_pos _ hm⟩
 unfold cw
 rw[sG]
 have dv:∀(j:Int) (S:Sto),zS (.int j) (.int m) S=some (.int (j / m),S):=fun j S=>Dz ⟨hm,l9 (by omega) hb⟩
 have md:∀(j:Int) (S:Sto),mM (.int j) (.int m) S=some (.int (j % m),S):=fun j S=>sW hm
 rwa[eG,h,dv,md]
def wJ:Fn:=fnU 6 2 cL
theorem mS{r0 r1 r2:Option U}:∀(ts:List Int) (a f:Int) (r5:Option U),0<=a->a<2147483563->∃a' f' r5',cU (fun _=>True) (gNm 5) dz (ts.map U.int) [r0,r1,r2,some (.int a),some (.int f),r5] S=some (.nx,[r0,r1,r2,some (.int a'),some (.int f'),r5'],S)
 |[],a,f,r5,_,_=>⟨a,f,r5,bV trivial⟩
 |t::ts,a,f,r5,h0,h1=>by
  obtain⟨a',f',r5',ih⟩:=mS (r0:=r0) (r1:=r1) (r2:=r2) ts ((a*a+50021*a+19*t+7) % 2147483563) (f*2147483563+(a*a+50021*a+19*t+7) % 2147483563) (some (.int t)) (Int.emod_nonneg _ (by decide)) (Int.emod_lt_of_pos _ (by decide))
  refine⟨a',f',r5',(dg trivial rfl ?_).trans ih⟩
  have m1:jg (.int a) (.int a) S=some (.int (a*a),S):=lK (.inl ⟨by omega,by omega⟩)
  have m2:jg (.int 50021) (.int a) S=some (.int (50021*a),S):=lK (.inl (by decide))
  have m3:jg (.int 19) (.int t) S=some (.int (19*t),S):=lK (.inl (by decide))
  have m4:jg (.int f) (.int 2147483563) S=some (.int (f*2147483563),S):=lK (.inr (by decide))
  have m5:∀j:Int,mM (.int j) (.int 2147483563) S=some (.int (j % 2147483563),S):=fun j=>sW (by decide)
  rwa[dz,m1,m2,m3,m4,m5]
theorem A3(ns:List Int){k:Int}(k0:0<=k):∃z,wJ [.kl ns,.int k] S=some (.ref S.length,S++[.lst [.int z]]):=by
 unfold wJ
 rw[ph]
 have m1:jg (.int 5) (.int k) S=some (.int (5*k),S):=lK (.inl (by decide))
 have m2:∀j:Int,mM (.int j) (.int 2) S=some (.int (j % 2),S):=fun j=>sW (by decide)
 have m3:∀j:Int,zS (.int j) (.int 2) S=some (.int (j / 2),S):=fun j=>Dz ⟨by decide,by decide +kernel⟩
 have m4:∀j:Int,jg (.int j) (.int 30011) S=some (.int (j*30011),S):=fun j=>lK (.inr (by decide))
 have m5:jg (.int 977) (.int k) S=some (.int (977*k),S):=lK (.inl (by decide))
 have m6:∀j:Int,mM (.int j) (.int 2147483563) S=some (.int (j % 2147483563),S):=fun j=>sW (by decide)
 have r60:aK (ab (cC (.int 60)) ao)=fun ρ S=>some (aX 0 60,fun _=>True,S):=rfl
 have er:aX 0 60=((Qj 60).map fun i:Nat=>(i:Int)).map U.int:=by rw[dH,Qc]
 have key:∀num:Int,∃z,((bq (kG (aA (cOp fEq (cOp mM (ae 2) (cC (.int 2))) (cC (.int 0)))) (ik (bZ (ab (cOp zS (ae 2) (cC (.int 2))) ao))) et)
  (bq (bM 3 (cOp mM (cOp bE (cOp bE (cOp jg (ae 2) (cC (.int 30011))) (cOp jg (cC (.int 977)) (ae 1))) (cC (.int 41))) (cC (.int 2147483563))))
  (bq (bM 4 (cC (.int 0)))
  (bq (iQ (aK (ab (cC (.int 60)) ao)) (gNm 5) dz)
  (ik (bZ (ab (ae 4) ao))))))) [some (.kl ns),some (.int k),some (.int num),none,none,none] S).bind kFn=some (.ref S.length,S++[.lst [.int z]]):=fun num=>by
  by_cases e:num % 2=0
  ·refine⟨num / 2,?_⟩
   have e':decide (num % 2=0)=true:=decide_eq_true e
   rwa[m2,m3,e']
  ·have e':decide (num % 2=0)=false:=decide_eq_false e
   obtain⟨a',f',r5',h⟩:=mS (S:=S) (r0:=some (.kl ns)) (r1:=some (.int k)) (r2:=some (.int num)) ((Qj 60).map fun i:Nat=>(i:Int)) ((num*30011+977*k+41) % 2147483563) 0 none (Int.emod_nonneg _ (by decide)) (Int.emod_lt_of_pos _ (by decide))
   rw[<-er]at h
   refine⟨f',?_⟩
   rwa[m2,e',m4,m5,m6,iQ,r60,h]
 by_cases hk:k<(ns.length:Int)
 ·have hk':decide (k<(ns.length:Int))=true:=decide_eq_true hk
  have hi:k.toNat<ns.length:=by omega
  have ha:atI (ns.map U.int) k=some (.int ns[k.toNat]):=by
   have:=eB (xs:=ns.map U.int) (j:=k.toNat) (v:=.int ns[k.toNat]) (by rw[Qv,Q7 hi];rfl)
   rw[show((k.toNat:Nat):Int)=k from by omega]at this
   exact this
  obtain⟨z,h⟩:=key ns[k.toNat]
  refine⟨z,?_⟩
  rw[<-h]
  simp only[cL,m1,sZ,Gv,hk',ha,rJ,mN,fM,kI,iA,cI,cH,Ap,sV,x_c,AF,eI,jq,pO,dD,jn,FW,oN,mO,aL,bz,lL,Av,Q0,Z2,Qg,List.set_cons_zero,List.set_cons_succ,Option.join_some]
 ·have hk':decide (k<(ns.length:Int))=false:=decide_eq_false hk
  obtain⟨z,h⟩:=key (5*k+3)
  refine⟨z,?_⟩
  rw[<-h]
  simp only[cL,m1,sZ,hk',rJ,mN,fM,kI,iA,cI,cH,Ap,sV,x_c,AF,eI,jq,pO,dD,jn,FW,oN,mO,aL,bz,lL,Av,ze,Q0,Z2,Qg,List.set_cons_zero,List.set_cons_succ,Option.join_some]
def dk:Fn:=fnU 5 2 (cX cw 100)
theorem lq{r1:Option U}{jl jf:Nat}(n1:jl≠lw)(n2:jf≠lw)(n3:jl≠jf):∀(fuel:Nat) (left found:List Int) (T:Sto) (r4:Option U),left.length<fuel->T[jl]?=some (.lst (left.map U.int))->T[jf]?=some (.lst (found.map U.int))->(∃z,T[lw]?=some (.lst [.int z]))->left.length+found.length<=900->
  ∃(os:List Int) (T':Sto) (r4':Option U),dn (aA (cOp (fJ true) (ae 2) (bZ ao))) (eA cw 100) fuel [some (.ref lw),r1,some (.ref jl),some (.ref jf),r4] T=some (.nx,[some (.ref lw),r1,some (.ref jl),some (.ref jf),r4'],T')
   /\T'[jf]?=some (.lst (os.map U.int))/\os.Perm (found++left)/\T.length<=T'.length/\(∀j,j<T.length->j≠lw->j≠jl->j≠jf->T'[j]?=T[j]?)/\∃z,T'[lw]?=some (.lst [.int z])
 |0,left,found,T,r4,hf,_,_,_,_=>absurd hf (by omega)
 |fuel+1,left,found,T,r4,hf,h1,h2,h3,hl=>by
  have q:=nG true (S:=T++[.lst []]) (l:=jl) (l':=T.length) (us:=left.map U.int) (ah h1) (by rw[ga0];rfl)
  have ww:∃z,(T++[O.lst []])[lw]?=some (.lst [.int z]):=by obtain⟨z,h⟩:=h3;exact⟨z,ah h⟩
  by_cases e:left=[]
  ·subst e
   have q':fJ true (.ref jl) (.ref T.length) (T++[.lst []])=some (.bl false,T++[.lst []]):=by rw[q];rfl
   refine⟨found,T++[.lst []],r4,ju ?_,ah h2,by rw[QL],by simp,fun j hj _ _ _=>QN hj,ww⟩
   rwa[q']
  ·have q':fJ true (.ref jl) (.ref T.length) (T++[.lst []])=some (.bl true,T++[.lst []]):=by rw[q];simp[e]
   have lp:=List.length_pos_iff.mpr e
   obtain⟨d,T2,e2,w2,l2,d0,d1⟩:=cB (T:=T++[.lst []]) (lw:=lw) (m:=left.length) ww (by omega) (by omega)
   have hin:d.toNat<left.length:=by omega
   obtain⟨z,hz⟩:∃z,left[d.toNat]?=some z:=⟨_,Q7 hin⟩
   have hz':(left.map U.int)[d.toNat]?=some (.int z):=by rw[Qv,hz];rfl
   have hL1:(left.map U.int).length<=LIM:=by unfold LIM;rw[QZ];omega
   have hL2:(found.map U.int).length<LIM:=by unfold LIM;rw[QZ];omega
   have k1:((left.map U.int).length:Int)=left.length:=by rw[QZ]
   have g1:T2[jl]?=some (.lst (left.map U.int)):=w2.get (ah h1) n1
   have g2:T2[jf]?=some (.lst (found.map U.int)):=w2.get (ah h2) n2
   have g0:(T++[O.lst []])[jl]?=some (.lst (left.map U.int)):=ah h1
   have lj:jl<T2.length:=(Q6.mp g1).1
   have lf:jf<T2.length:=(Q6.mp g2).1
   have em:(left.map U.int).eraseIdx d.toNat=(left.eraseIdx d.toNat).map U.int:=(va ..).symm
   have g3:(T2.set jl (.lst ((left.eraseIdx d.toNat).map U.int)))[jf]?=some (.lst (found.map U.int)):=by rw[Qb n3];exact g2
   have ef:found.map U.int++[.int z]=(found++[z]).map U.int:=by rw[Qe];rfl
   obtain⟨T4,hT4⟩:∃T4,T4=(T2.set jl (.lst ((left.eraseIdx d.toNat).map U.int))).set jf (.lst ((found++[z]).map U.int)):=⟨_,rfl⟩
   obtain⟨zz,hzz⟩:=w2.well
   obtain⟨os,T',r4',ih,k2,k3,k4,k5,k6⟩:=lq (r1:=r1) n1 n2 n3 fuel (left.eraseIdx d.toNat) (found++[z]) T4 (some (.int d)) (by rw[List.length_eraseIdx,if_pos hin];omega)
    (by rw[hT4,Qb n3.symm,Qp,if_pos rfl,if_pos lj])
    (by rw[hT4,Qp,if_pos rfl,if_pos (by rw[List.length_set];exact lf)])
    ⟨zz,by rw[hT4,Qb n2,Qb n1];exact hzz⟩
    (by rw[List.length_eraseIdx,if_pos hin,QQ,Z0];omega)
   have l4:T4.length=T.length+1:=by rw[hT4,List.length_set,List.length_set,l2,QQ];rfl
   refine⟨os,T',r4',(pV (S0:=T++[.lst []]) ?_ ?_).trans ih,k2,?_,by omega,fun j hj a1 a2 a3=>?_,k6⟩
   ·rwa[q']
   ·rw[hT4]
    rwa[eA,g0,QZ,e2,g1,g2,g3,Ar,xf d0 (by rw[k1];exact d1) hL1 hz',em,js hL2,ef]
   ·refine k3.trans ?_
    rw[Q9]
    refine List.Perm.append_left found ?_
    have hz2:left[d.toNat]=z:=by rw[Q7 hin]at hz;exact Option.some.inj hz
    have:=jX hin
    rw[hz2]at this
    exact this
   ·rw[k5 j (by omega) a1 a2 a3,hT4,Qb (Ne.symm a3),Qb (Ne.symm a2),w2.keep j (by simp;omega) a1,QN hj]
theorem qH{many:Int}(h:∃z,T[lw]?=some (.lst [.int z]))(m0:0<=many)(m1:many<=90):∃(os:List Int) (T':Sto) (l:Nat),dk [.ref lw,.int many] T=some (.ref l,T')/\T'[l]?=some (.lst (os.map U.int))/\T.length<=l/\Wl lw T T'/\os.length=many.toNat/\os.Nodup/\∀a,a∈os↔0<=a/\a<many:=by
 have hl:lw<T.length:=by obtain⟨z,h⟩:=h;exact(Q6.mp h).1
 obtain⟨rs,hrs⟩:∃rs,rs=(Qj many.toNat).map fun i:Nat=>(i:Int):=⟨_,rfl⟩
 have er:aX 0 many.toNat=rs.map U.int:=by rw[hrs,dH,Qc]
 have lr:rs.length=many.toNat:=by rw[hrs];simp
 obtain⟨os,T',r4',e,k2,k3,k4,k5,k6⟩:=lq (lw:=lw) (r1:=some (.int many)) (jl:=T.length) (jf:=T.length+1) (by omega) (by omega) (by omega) 100 rs [] (T++[.lst (rs.map U.int),.lst []]) none (by omega) (by rw[ga0];rfl) (by rw[ga];rfl) (by obtain⟨z,h⟩:=h;exact⟨z,ah h⟩) (by simp;omega)
 rw[Qd]at k3
 have nd:rs.Nodup:=by
  rw[hrs]
  exact List.Pairwise.map _ (fun a b h e=>h (by omega)) List.nodup_range
 refine⟨os,T',T.length+1,?_,k2,by omega,⟨by simp at k4;omega,fun j hj n=>?_,k6⟩,by rw[k3.length_eq,lr],k3.nodup_iff.mpr nd,fun a=>?_⟩
 ·unfold dk
  rw[nY]
  have hc:0<=many/\many<=1000:=⟨m0,by omega⟩
  have ln:(T++[O.lst (rs.map U.int)]).length=T.length+1:=by rw[QQ];rfl
  rwa[cX,ck,hc,and_self,if_true,er,ln,e]
 ·rw[k5 j (by simp;omega) n (by omega) (by omega),QN hj]
 ·rw[k3.mem_iff,hrs,Qa]
  constructor
  ·rintro⟨i,hi,rfl⟩
   have:=Qu.mp hi
   omega
  ·rintro⟨a0,a1⟩
   exact⟨a.toNat,Qu.mpr (by omega),by omega⟩
end
def inR(row:List Int)(b:Int):Bool:=decide (b∈row)
theorem flI{b:Int}{l:List Int}:gc (.int b)=true/\(l.map U.int).all gc=true:=⟨rfl,HG l⟩
theorem Fj{b:Int}{row:List Int}{S:Sto}:fIn false (.int b) (.tup (row.map U.int)) S=some (.bl (inR row b),S):=by
 unfold fIn
 dsimp only
 rw[if_pos flI,if_neg QF,inI];rfl
section
variable{S:Sto}{jo:Nat}{os row:List Int}{a:Int}
theorem du(h:S[jo]?=some (.lst (os.map U.int)))(ha:a∈os)(hl:os.length<=900):aI (.ref jo) [.int a] S=some (.int (os.idxOf a:Nat),S):=by
 have hL:os.length<=LIM:=by unfold LIM;omega
 simp only[aI,h,fv,Q0,ha,hL,and_self,if_true]
def aF(many:Int)(tm:U)(wr lk:List (List Int)):U:=.tup [.int many,tm,.tup (wr.map rwU),.tup (lk.map rwU)]
variable{many:Int}{wr lk:List (List Int)}{tm:U}
theorem wy{b:Int}(b0:0<=b)(b1:b<wr.length):atI (wr.map rwU) b=some (.tup ((wr.getD b.toNat []).map U.int)):=by
 have hi:b.toNat<wr.length:=by omega
 have:=eB (xs:=wr.map rwU) (j:=b.toNat) (v:=rwU wr[b.toNat]) (by rw[Qv,Q7 hi];rfl)
 rw[show((b.toNat:Nat):Int)=b from by omega]at this
 rw[this,QV,Q7 hi];rfl
theorem z9{l k:Nat}{us vs:List U}(h1:S[l]?=some (.lst us))(h2:S[k]?=some (.lst vs))(hz:us.length+vs.length<=LIM):bE (.ref l) (.ref k) S=some (.ref S.length,S++[.lst (us++vs)]):=by
 simp only[bE,dh,h1,h2,hz,if_true]
theorem FO(e:List Int):atI ((-1::e).map U.int) (-1)=some (.int (e.getLast?.getD (-1))):=by
 rcases List.eq_nil_or_concat e with rfl|⟨r,x,rfl⟩
 ·rfl
 ·rw[List.concat_eq_append,<-ZZ,Qe,List.getLast?_append]
  exact mJ
end
section
variable{c cA:Cl}{n w:Int}{S G C:Sto}{st:St}{a:Int}{t:Att}{x:List Int}{every:Bool}{L:Nat}
def fD:Fn:=fnU 1 1 eF
theorem xv:fD [.int a] S=some (.bl true,S):=by
 unfold fD
 rw[sF]
 have t0:tyU (.int a) S=some .int:=rfl
 have t1:zj .int .int=true:=rfl
 have t2:zj .int .bool=false:=rfl
 rwa[eF,t0,t1,t2]
theorem wC(p:Int×Int):∀L:List (Int×Int),L.Pairwise (fun a b=>ltP a b=true)->∃M:List (Int×Int),M.Pairwise (fun a b=>ltP a b=true)/\∀q,q∈M↔q=p\/q∈L
 |[],_=>⟨[p],List.pairwise_singleton _ _,fun q=>by simp⟩
 |y::L,h=>by
  obtain⟨h1,h2⟩:=ZH.mp h
  by_cases e:p=y
  ·subst e
   exact⟨p::L,h,fun q=>by simp⟩
  ·cases hp:ltP p y with
   |true=>
    refine⟨p::y::L,ZH.mpr ⟨fun z hz=>?_,h⟩,fun q=>by simp⟩
    rcases QM.mp hz with rfl|m
    ·exact hp
    ·have:=h1 z m
     simp only[ltP,decide_eq_true_eq]at this hp ⊢
     omega
   |false=>
    obtain⟨M,m1,m2⟩:=wC p L h2
    refine⟨y::M,ZH.mpr ⟨fun z hz=>?_,m1⟩,fun q=>?_⟩
    ·rcases(m2 z).mp hz with rfl|m
     ·have e':¬(z.1=y.1/\z.2=y.2):=fun k=>e (Prod.ext k.1 k.2)
      simp only[ltP,decide_eq_true_eq,decide_eq_false_iff_not]at hp ⊢
      omega
     ·exact h1 z m
    ·rw[QM,m2 q,QM]
     constructor
     ·rintro(k|k|k)
      ·exact .inr (.inl k)
      ·exact .inl k
      ·exact .inr (.inr k)
     ·rintro(k|k|k)
      ·exact .inr (.inl k)
      ·exact .inl k
      ·exact .inr (.inr k)
theorem Ac:∀ps:List (Int×Int),∃M:List (Int×Int),M.Pairwise (fun a b=>ltP a b=true)/\∀q,q∈M↔q∈ps
 |[]=>⟨[],List.Pairwise.nil,fun q=>Iff.rfl⟩
 |p::ps=>by
  obtain⟨L,h1,h2⟩:=Ac ps
  obtain⟨M,m1,m2⟩:=wC p L h1
  exact⟨M,m1,fun q=>by rw[m2,h2,QM]⟩
theorem u7{ps:List (Int×Int)}{q:Int×Int}:q∈c7 ps↔q∈ps:=by
 obtain⟨M,m1,m2⟩:=Ac ps
 rw[i9 m1 m2,m2]
theorem eE{α:Type}{ok:Sto->Prop}{gg:CG}{ce:CE}{S:Sto}{f:α->U}{v:α->U}{Rel:Rho->Prop}(hok:∀ys G,ok (S++(.lst ys::G))) :
  ∀(xs:List α) (ys:List U) (G:Sto) (ρ:Rho),Rel ρ->ys.length+xs.length<=9999->
  (∀x∈xs,∀ys G ρ,Rel ρ->∃ρ0,Rel ρ0/\gg (f x) ρ (S++(.lst ys::G))=some (ρ0,S++(.lst ys::G))/\ce ρ0 (S++(.lst ys::G))=some (v x,S++(.lst ys::G)))->
  fO ok gg ce S.length (xs.map f) ρ (S++(.lst ys::G))=some (S++(.lst (ys++xs.map v)::G))
 |[],ys,G,ρ,_,_,_=>by simp only[Zh,QL];exact rm (hok ys G)
 |x::xs,ys,G,ρ,hr,hl,hb=>by
  rw[QB]at hl
  obtain⟨ρ0,r0,h1,h2⟩:=hb x QK ys G ρ hr
  have h:=eE hok xs (ys++[v x]) G ρ0 r0 (by simp;omega) (fun x hx=>hb x (QU _ hx))
  rw[Qx]
  refine(oa (hok ys G) h1 h2 (by rw[ga0];rfl) (by unfold LIM;omega)).trans ?_
  rw[gs0]
  simp only[List.set_cons_zero]
  rw[h]
  simp only[Qx,Q9,ZZ,Qd]
end
structure Fw(lw jw:Nat)(T T':Sto):Prop where
 len:T.length<=T'.length
 keep:∀j,j<T.length->j≠lw->j≠jw->T'[j]?=T[j]?
 well:∃z,T'[lw]?=some (.lst [.int z])
section
variable{lw jw jh j:Nat}{T T1 T2 S:Sto}{o:O}{m:Int}
theorem Fw.of(w:Wl lw T T1):Fw lw jw T T1:=⟨w.len,fun j h n _=>w.keep j h n,w.well⟩
theorem Fw.trans(a:Fw lw jw T T1)(b:Fw lw jw T1 T2):Fw lw jw T T2:=⟨Qy a.len b.len,fun j hj n n'=>by rw[b.keep j (Qq hj a.len) n n',a.keep j hj n n'],b.well⟩
theorem Fw.get(w:Fw lw jw T T1)(h:T[j]?=some o)(n:j≠lw)(n':j≠jw):T1[j]?=some o:=by rw[w.keep j (Q6.mp h).1 n n'];exact h
theorem Fw.set(h:∃z,T[lw]?=some (.lst [.int z]))(n:jw≠lw)(o:O):Fw lw jw T (T.set jw o):=⟨by simp,fun j _ _ n'=>Qb n'.symm,by obtain⟨z,h⟩:=h;exact⟨z,by rw[Qb n];exact h⟩⟩
def Eb:CT:=aA (cOp fLt (cCB cw (ab (ae 1) (ab (cC (.int 5)) ao))) (cC (.int 2)))
theorem jC{us:List U}{n:Nat}(n1:n≠lw)(n2:jh≠lw)(n3:jh≠n):∀(as ys:List Int) (Y:Sto) (r0:Option U),Y[jh]?=some (.lst us)->Y[n]?=some (.lst (ys.map U.int))->(∃z,Y[lw]?=some (.lst [.int z]))->ys.length+as.length<=900->
  ∃(ys':List Int) (Y':Sto),bB (fun S=>S[jh]?=some (.lst us)) (gNm 0) Eb (ae 0) n (as.map U.int) [r0,some (.ref lw)] Y=some Y'/\Y'[n]?=some (.lst (ys'.map U.int))/\Fw lw n Y Y'/\(∃q,ys'=ys++q/\q.Sublist as)/\ys'.length<=ys.length+as.length
 |[],ys,Y,r0,h1,h2,h3,_=>⟨ys,Y,lF h1,h2,.of (.refl h3),⟨[],(QL _).symm,.slnil⟩,by simp⟩
 |a::as,ys,Y,r0,h1,h2,h3,hl=>by
  rw[QB]at hl
  obtain⟨d,Y1,e1,w1,l1,d0,d1⟩:=cB (m:=5) h3 (by omega) (by omega)
  have g1:Y1[jh]?=some (.lst us):=w1.get h1 n2
  have g2:Y1[n]?=some (.lst (ys.map U.int)):=w1.get h2 n1
  by_cases hd:d<2
  ·have hd':decide (d<2)=true:=decide_eq_true hd
   have lt:n<Y1.length:=(Q6.mp g2).1
   have ey:ys.map U.int++[.int a]=(ys++[a]).map U.int:=by rw[Qe];rfl
   obtain⟨ys',Y',e,k1,k2,k3,k4⟩:=jC (us:=us) n1 n2 n3 as (ys++[a]) (Y1.set n (.lst ((ys++[a]).map U.int))) (some (.int a)) (by rw[Qb n3.symm];exact g1) (by rw[Qp,if_pos rfl,if_pos lt]) (by obtain⟨z,h⟩:=w1.well;exact⟨z,by rw[Qb n1];exact h⟩) (by simp;omega)
   obtain⟨q,k5,k6⟩:=k3
   refine⟨ys',Y',?_,k1,((Fw.of w1).trans (.set w1.well n1 _)).trans k2,⟨a::q,by rw[k5,Q9];rfl,k6.cons₂ a⟩,by simp at k4 ⊢;omega⟩
   ·refine(lE (S0:=Y) (ρ0:=[some (.int a),some (.ref lw)]) (S1:=Y1) (S2:=Y1) (x:=.int a) (ys:=ys.map U.int) h1 rfl ?_ rfl g2 (by unfold LIM;rw[QZ];omega)).trans ?_
    ·rwa[Eb,e1,hd']
    ·rw[ey];exact e
  ·have hd':decide (d<2)=false:=decide_eq_false hd
   obtain⟨ys',Y',e,k1,k2,k3,k4⟩:=jC (us:=us) n1 n2 n3 as ys Y1 (some (.int a)) g1 g2 w1.well (by omega)
   obtain⟨q,k5,k6⟩:=k3
   refine⟨ys',Y',?_,k1,(Fw.of w1).trans k2,⟨q,k5,k6.cons a⟩,by simp;omega⟩
   ·refine(oh (S0:=Y) (ρ0:=[some (.int a),some (.ref lw)]) (S1:=Y1) h1 rfl ?_).trans e
    rwa[Eb,e1,hd']
abbrev rT(lw:Nat)(most many:Int)(jh jw:Nat)(r5 r6 r7 r8 r9 r10 r11 r12:Option U):Rho:=[some (.ref lw),some (.int most),some (.int many),some (.ref jh),some (.ref jw),r5,r6,r7,r8,r9,r10,r11,r12]
variable{most many:Int}{os:List Int}{r5 r6 r7 r8 r9 r10 r11 r12:Option U}
theorem D2{n:Nat}{ys:List Int}(h:S[n]?=some (.lst (ys.map U.int)))(b:Bool):∃zs:List Int,wU (.ref n) (.int (1-2*(if b then 1 else 0))) S=some (.ref S.length,S++[.lst (zs.map U.int)])/\(∀z,z∈zs->z∈ys)/\zs.length=ys.length/\(ys.Nodup->zs.Nodup):=by
 cases b with
 |true=>
  refine⟨ys.reverse,?_,fun z hz=>List.mem_reverse.mp hz,List.length_reverse,fun hn=>List.pairwise_reverse.mpr (hn.imp fun hne=>Ne.symm hne)⟩
  have e:(1-2*(if true then 1 else 0):Int)=-1:=rfl
  have n1:¬((-1:Int)=1):=by decide
  rw[e]
  simp only[wU,h,n1,if_false,if_true,List.map_reverse]
 |false=>
  refine⟨ys,?_,fun z hz=>hz,rfl,id⟩
  have e:(1-2*(if false then 1 else 0):Int)=1:=rfl
  rw[e]
  simp only[wU,h,if_true]
theorem AG{Y:Sto}{wr:List (List Int)}(n1:jw≠lw)(n2:jh≠lw)(n3:jh≠jw)(hh:Y[jh]?=some (.lst (os.map U.int)))(hw:Y[jw]?=some (.lst (wr.map rwU)))(wl:∃z,Y[lw]?=some (.lst [.int z]))(ho:os.length<=90)(on:os.Nodup)(hl:wr.length<=90) :
  ∃(zs:List Int) (Y':Sto) (r6':Option U),dB cw dk (rT lw most many jh jw r5 r6 r7 r8 r9 r10 r11 r12) Y=some (.nx,rT lw most many jh jw r5 r6' r7 r8 r9 r10 r11 r12,Y')/\Y'[jw]?=some (.lst ((wr++[zs]).map rwU))/\Fw lw jw Y Y'/\(∀z∈zs,z∈os)/\zs.length<=90/\zs.Nodup:=by
 have lj:jw<Y.length:=(Q6.mp hw).1
 have lh:jh<Y.length:=(Q6.mp hh).1
 have ll:lw<Y.length:=by obtain⟨z,h⟩:=wl;exact(Q6.mp h).1
 obtain⟨ys,Y1,e1,k1,k2,k3,k4⟩:=jC (lw:=lw) (jh:=jh) (n:=Y.length) (us:=os.map U.int) (by omega) n2 (by omega) os [] (Y++[.lst []]) none (ah hh) (by rw[ga0];rfl) (by obtain⟨z,h⟩:=wl;exact⟨z,ah h⟩) (by simp;omega)
 have hc:aG (iTp (ae 3)) (gNm 0) Eb (ae 0) 1 [0] (rT lw most many jh jw r5 r6 r7 r8 r9 r10 r11 r12) Y=some (.ref Y.length,Y1):=by
  have hv:ae 3 (rT lw most many jh jw r5 r6 r7 r8 r9 r10 r11 r12) Y=some (.ref jh,Y):=rfl
  unfold aG iTp
  rw[hv,Q0]
  simp only[hh,Q0,gJ,rT,Zv,Qx,Zh,Z2,Qi,ZZ,Qd,e1]
 have l1:=k2.len
 rw[QQ]at l1
 have w1:Y1[jw]?=some (.lst (wr.map rwU)):=k2.get (ah hw) n1 (by omega)
 obtain⟨d,Y2,e2,q2,l2,d0,d1⟩:=cB (m:=7) k2.well (by omega) (by omega)
 have g2:Y2[Y.length]?=some (.lst (ys.map U.int)):=q2.get k1 (by omega)
 obtain⟨qs,k5,k6⟩:=k3
 rw[Qd]at k5
 subst k5
 obtain⟨zs,e3,z1,z2,z3⟩:=D2 g2 (decide (d=0))
 have w2:(Y2++[O.lst (zs.map U.int)])[jw]?=some (.lst (wr.map rwU)):=ah (q2.get w1 n1)
 have lj2:jw<(Y2++[O.lst (zs.map U.int)]).length:=(Q6.mp w2).1
 have gn:(Y2++[O.lst (zs.map U.int)])[Y2.length]?=some (.lst (zs.map U.int)):=by rw[ga0];rfl
 have wl2:∃z,(Y2++[O.lst (zs.map U.int)])[lw]?=some (.lst [.int z]):=by obtain⟨z,h⟩:=q2.well;exact⟨z,ah h⟩
 have m2:∀k:Int,jg (.int 2) (.int k) Y2=some (.int (2*k),Y2):=fun k=>lK (.inl (by decide))
 have hA:(wr.map rwU).length<LIM:=by unfold LIM;rw[QZ];omega
 have em:wr.map rwU++[.tup (zs.map U.int)]=(wr++[zs]).map rwU:=by rw[Qe];rfl
 have yl:ys.length<=90:=by simp at k4;omega
 refine⟨zs,(Y2++[O.lst (zs.map U.int)]).set jw (.lst ((wr++[zs]).map rwU)),some (.ref Y.length),?_,by rw[Qp,if_pos rfl,if_pos lj2],?_,fun z hz=>k6.subset (z1 z hz),by omega,z3 (k6.nodup on)⟩
 ·unfold dB
  rw[rJ,fM]
  show((aG (iTp (ae 3)) (gNm 0) Eb (ae 0) 1 [0] (rT lw most many jh jw r5 r6 r7 r8 r9 r10 r11 r12) Y).bind _).bind _=_
  rw[hc,Q0,kI,Q0,mN]
  rwa[rT,w1,e2,m2,e3,gn,w2,js hA,em]
 ·refine Fw.trans ?_ (.set wl2 n1 _)
  refine Fw.trans ?_ (.of (.app q2.well _))
  refine Fw.trans ?_ (.of q2)
  exact⟨by omega,fun j hj a1 a2=>by rw[k2.keep j (by simp;omega) a1 (by omega),QN hj],k2.well⟩
theorem tj(n1:jw≠lw)(n2:jh≠lw)(n3:jh≠jw)(ho:os.length<=90)(on:os.Nodup):∀(us:List U) (wr:List (List Int)) (Y:Sto) (r5 r6:Option U),Y[jh]?=some (.lst (os.map U.int))->Y[jw]?=some (.lst (wr.map rwU))->(∃z,Y[lw]?=some (.lst [.int z]))->wr.length+us.length<=90->(∀r∈wr,(∀z∈r,z∈os)/\r.length<=90/\r.Nodup)->
  ∃(wr':List (List Int)) (Y':Sto) (r5' r6':Option U),cU (fun _=>True) (gNm 5) (dB cw dk) us (rT lw most many jh jw r5 r6 r7 r8 r9 r10 r11 r12) Y=some (.nx,rT lw most many jh jw r5' r6' r7 r8 r9 r10 r11 r12,Y')/\Y'[jw]?=some (.lst (wr'.map rwU))/\Fw lw jw Y Y'/\(∀r∈wr',(∀z∈r,z∈os)/\r.length<=90/\r.Nodup)/\wr'.length=wr.length+us.length
 |[],wr,Y,r5,r6,h1,h2,h3,_,h5=>⟨wr,Y,r5,r6,bV trivial,h2,.of (.refl h3),h5,rfl⟩
 |u::us,wr,Y,r5,r6,h1,h2,h3,h4,h5=>by
  rw[QB]at h4
  obtain⟨zs,Y1,r6',e,k1,k2,k3,k4,k5⟩:=AG (most:=most) (many:=many) (r5:=some u) (r6:=r6) (r7:=r7) (r8:=r8) (r9:=r9) (r10:=r10) (r11:=r11) (r12:=r12) n1 n2 n3 h1 h2 h3 ho on (by omega)
  obtain⟨wr',Y',r5'',r6'',ih,i1,i2,i3,i4⟩:=tj n1 n2 n3 ho on us (wr++[zs]) Y1 (some u) r6' (k2.get h1 n2 n3) k1 k2.well (by simp;omega) (fun r hr=>by
   rcases Qt.mp hr with h|h
   ·exact h5 r h
   ·rw[Qn.mp h];exact⟨k3,k4,k5⟩)
  exact⟨wr',Y',r5'',r6'',(dg trivial rfl e).trans ih,i1,k2.trans i2,i3,by rw[i4];simp;omega⟩
end
section
variable{lw jw jh jk jr je:Nat}{Y S:Sto}{most many a b:Int}{os rf ef:List Int}{wr:List (List Int)}{r5 r6 r7 r8 r9 r10 r11 r12:Option U}
theorem D3{us:List U}{l:Nat}(hl:S[l]?=some (.lst us))(h:1<=us.length):fSl (.ref l) (some 1) none S=some (.ref S.length,S++[.lst (us.drop 1)]):=by
 have e:HT.sIx us.length 0 (some (1:Int))=1:=by
  have:=HT.sIx_nat (n:=us.length) (d:=0) (k:=1)
  rw[show((1:Nat):Int)=1 from rfl]at this
  rw[this];omega
 simp only[fSl,hl,HT.sIx_none,e,lD]
 rw[Z4 (by simp)]
def GQ:CE:=cOp bE (bZ (ab (fc (cC (.int 1))) ao)) (aG (iTp (cOp fIx (ae 4) (ae 5))) (gNm 0) (aA (cOp fNe (ae 0) (ae 1))) (ae 0) 1 [9])
def HK:CE:=cOp bE (bZ (ab (fc (cC (.int 1))) ao)) (aG (iTp (cSl (ae 6) (some (cC (.int 1))) none)) (gNm 0) (aA (cOp fLt (cBM aI (ae 2) (ab (ae 0) ao)) (cBM aI (ae 2) (ab (ae 1) ao)))) (ae 0) 1 [9,3])
def FX:CE:=cOp fIx (bZ (ab (cOp fIx (ae 10) (fc (cC (.int 1)))) (ab (cOp fIx (ae 6) (cCB cw (ab (ae 0) (ab (cCB eN (ab (ae 6) ao)) ao)))) ao))) (cCB Fv (ab (cOp fEq (cCB cw (ab (ae 0) (ab (cC (.int 5)) ao))) (cC (.int 0))) ao))
theorem CN{G:Sto}{vs:List Int}(hl:vs.length<=900):bE (.ref Y.length) (.ref (Y.length+1)) (Y++(.lst [.int (-1)]::.lst (vs.map U.int)::G))=some (.ref (Y.length+(2+G.length)),Y++(.lst [.int (-1)]::.lst (vs.map U.int)::(G++[.lst ((-1::vs).map U.int)]))):=by
 rw[z9 (us:=[.int (-1)]) (vs:=vs.map U.int) (by rw[ga0];rfl) (by rw[ga];rfl) (by unfold LIM;simp;omega)]
 have ln:(Y++(O.lst [.int (-1)]::.lst (vs.map U.int)::G)).length=Y.length+(2+G.length):=by simp;omega
 rw[ln,Q9];rfl
theorem Bn(hw:Y[jw]?=some (.lst (wr.map rwU)))(b0:0<=b)(b1:b<wr.length)(hl:(wr.getD b.toNat []).length<=900) :
  ∃G n,GQ (rT lw most many jh jw (some (.int b)) r6 r7 r8 (some (.int a)) r10 r11 r12) Y=some (.ref (Y.length+n),Y++G)/\G[n]?=some (.lst ((-1::(wr.getD b.toNat []).filter (fun c=>!decide (c=a))).map U.int)):=by
 obtain⟨row,hrow⟩:∃row,row=wr.getD b.toNat []:=⟨_,rfl⟩
 have ar:=wy (wr:=wr) b0 b1
 rw[<-hrow]at ar hl ⊢
 obtain⟨G,e⟩:=bQ (S:=Y++[.lst [.int (-1)]]) (ok:=fun _=>True) (gg:=gNm 0) (ct:=aA (cOp fNe (ae 0) (ae 1))) (ce:=ae 0) (f:=U.int) (p:=fun c=>!decide (c=a)) (v:=U.int) (Rel:=fun ρ=>∃r0,ρ=[r0,some (.int a)]) (fun _ _=>trivial) row [] [] [none,some (.int a)] ⟨_,rfl⟩ (by simp;omega) (fun c hc ys G ρ hρ=>by
  obtain⟨r0,rfl⟩:=hρ
  refine⟨[some (.int c),some (.int a)],[],⟨_,rfl⟩,rfl,?_,fun _=>⟨[],?_⟩⟩
  ·rwa[QL]
  ·rwa[QL])
 simp only[Qd]at e
 have ln:(Y++[O.lst [.int (-1)]]).length=Y.length+1:=by rw[QQ];rfl
 rw[ln]at e
 simp only[Q9,ZZ,Qd]at e
 obtain⟨vs,hvs⟩:∃vs,vs=row.filter (fun c=>!decide (c=a)):=⟨_,rfl⟩
 rw[<-hvs]at e ⊢
 have hv:vs.length<=900:=by rw[hvs];exact Qy (List.length_filter_le ..) hl
 have hw1:(Y++[O.lst [.int (-1)]])[jw]?=some (.lst (wr.map rwU)):=ah hw
 have hi:cOp fIx (ae 4) (ae 5) (rT lw most many jh jw (some (.int b)) r6 r7 r8 (some (.int a)) r10 r11 r12) (Y++[.lst [.int (-1)]])=some (.tup (row.map U.int),Y++[.lst [.int (-1)]]):=by
  rwa[rT,hw1,ar]
 have hc:aG (iTp (cOp fIx (ae 4) (ae 5))) (gNm 0) (aA (cOp fNe (ae 0) (ae 1))) (ae 0) 1 [9] (rT lw most many jh jw (some (.int b)) r6 r7 r8 (some (.int a)) r10 r11 r12) (Y++[.lst [.int (-1)]])=some (.ref (Y.length+1),Y++(.lst [.int (-1)]::.lst (vs.map U.int)::G)):=by
  unfold aG iTp
  rw[hi,Q0]
  simp only[Q0,gJ,rT,Zv,Qx,Zh,Z2,Qg,Qi,ZZ,Qd,ln,e,Q9]
 refine⟨.lst [.int (-1)]::.lst (vs.map U.int)::(G++[.lst ((-1::vs).map U.int)]),2+G.length,?_,?_⟩
 ·have hcat:=CN (Y:=Y) (G:=G) hv
  obtain⟨ev,hev⟩:∃ev,ev=(-1::vs).map U.int:=⟨_,rfl⟩
  rw[<-hev]at hcat ⊢
  unfold GQ
  rwa[kr,fQ,hc,hcat]
 ·rw[show 2+G.length=G.length+1+1 from by omega,Qg,Qg,ga0];rfl
theorem CH(hr:Y[jr]?=some (.lst ((-1::rf).map U.int)))(hh:Y[jh]?=some (.lst (os.map U.int)))(ha:a∈os)(hm:∀c∈rf,c∈os)(hl:rf.length<=900)(ho:os.length<=900) :
  ∃G n ef,HK (rT lw most many jh jw r5 (some (.ref jr)) r7 r8 (some (.int a)) r10 r11 r12) Y=some (.ref (Y.length+n),Y++G)/\G[n]?=some (.lst ((-1::ef).map U.int))/\∀c∈ef,c∈rf:=by
 have hsl:cSl (ae 6) (some (cC (.int 1))) none (rT lw most many jh jw r5 (some (.ref jr)) r7 r8 (some (.int a)) r10 r11 r12) (Y++[.lst [.int (-1)]])=some (.ref (Y.length+1),Y++[.lst [.int (-1)],.lst (rf.map U.int)]):=by
  have hv:ae 6 (rT lw most many jh jw r5 (some (.ref jr)) r7 r8 (some (.int a)) r10 r11 r12) (Y++[.lst [.int (-1)]])=some (.ref jr,Y++[.lst [.int (-1)]]):=rfl
  have h1:cC (.int 1) (rT lw most many jh jw r5 (some (.ref jr)) r7 r8 (some (.int a)) r10 r11 r12) (Y++[.lst [.int (-1)]])=some (.int 1,Y++[.lst [.int (-1)]]):=rfl
  have ln:(Y++[O.lst [.int (-1)]]).length=Y.length+1:=by rw[QQ];rfl
  have hs:=D3 (S:=Y++[.lst [.int (-1)]]) (us:=(-1::rf).map U.int) (ah hr) (by simp)
  rw[ln,Q9]at hs
  simp only[cSl,fC,hv,h1,Q0]
  exact hs
 obtain⟨G,e⟩:=bQ (S:=Y++[.lst [.int (-1)],.lst (rf.map U.int)]) (ok:=fun S=>S[Y.length+1]?=some (.lst (rf.map U.int))) (gg:=gNm 0) (ct:=aA (cOp fLt (cBM aI (ae 2) (ab (ae 0) ao)) (cBM aI (ae 2) (ab (ae 1) ao)))) (ce:=ae 0) (f:=U.int) (p:=fun c=>decide (((os.idxOf c:Nat):Int)<((os.idxOf a:Nat):Int))) (v:=U.int) (Rel:=fun ρ=>∃r0,ρ=[r0,some (.int a),some (.ref jh)]) (fun ys G=>by rw[Q9,ga];rfl) rf [] [] [none,some (.int a),some (.ref jh)] ⟨_,rfl⟩ (by simp;omega) (fun c hc ys G ρ hρ=>by
  obtain⟨r0,rfl⟩:=hρ
  have hh':∀X,(Y++X)[jh]?=some (.lst (os.map U.int)):=fun X=>ah hh
  have i1:∀X,aI (.ref jh) [.int c] (Y++X)=some (.int (os.idxOf c:Nat),Y++X):=fun X=>du (hh' X) (hm c hc) ho
  have i2:∀X,aI (.ref jh) [.int a] (Y++X)=some (.int (os.idxOf a:Nat),Y++X):=fun X=>du (hh' X) ha ho
  refine⟨[some (.int c),some (.int a),some (.ref jh)],[],⟨_,rfl⟩,rfl,?_,fun _=>⟨[],?_⟩⟩
  ·rwa[hh',i1,i2,QL]
  ·rwa[QL])
 simp only[Qd]at e
 have ln:(Y++[O.lst [.int (-1)],.lst (rf.map U.int)]).length=Y.length+2:=by rw[QQ];rfl
 have gz:(Y++[O.lst [.int (-1)],.lst (rf.map U.int)])[Y.length+1]?=some (.lst (rf.map U.int)):=by rw[ga];rfl
 rw[ln]at e
 simp only[Q9,ZZ,Qd]at e
 obtain⟨vs,hvs⟩:∃vs,vs=rf.filter (fun c=>decide (((os.idxOf c:Nat):Int)<((os.idxOf a:Nat):Int))):=⟨_,rfl⟩
 rw[<-hvs]at e
 have hv:vs.length<=900:=by rw[hvs];exact Qy (List.length_filter_le ..) hl
 have hc:aG (iTp (cSl (ae 6) (some (cC (.int 1))) none)) (gNm 0) (aA (cOp fLt (cBM aI (ae 2) (ab (ae 0) ao)) (cBM aI (ae 2) (ab (ae 1) ao)))) (ae 0) 1 [9,3] (rT lw most many jh jw r5 (some (.ref jr)) r7 r8 (some (.int a)) r10 r11 r12) (Y++[.lst [.int (-1)]])=some (.ref (Y.length+2),Y++(.lst [.int (-1)]::.lst (rf.map U.int)::.lst (vs.map U.int)::G)):=by
  unfold aG iTp
  rw[hsl,Q0]
  simp only[gz,Q0,gJ,rT,Zv,Qx,Zh,Z2,Qg,Qi,ZZ,Qd,ln,e,Q9]
 have hcat:bE (.ref Y.length) (.ref (Y.length+2)) (Y++(.lst [.int (-1)]::.lst (rf.map U.int)::.lst (vs.map U.int)::G))=some (.ref (Y.length+(3+G.length)),Y++(.lst [.int (-1)]::.lst (rf.map U.int)::.lst (vs.map U.int)::(G++[.lst ((-1::vs).map U.int)]))):=by
  rw[z9 (us:=[.int (-1)]) (vs:=vs.map U.int) (by rw[ga0];rfl) (by rw[ga];rfl) (by unfold LIM;simp;omega)]
  have ln:(Y++(O.lst [.int (-1)]::.lst (rf.map U.int)::.lst (vs.map U.int)::G)).length=Y.length+(3+G.length):=by simp;omega
  rw[ln,Q9];rfl
 refine⟨.lst [.int (-1)]::.lst (rf.map U.int)::.lst (vs.map U.int)::(G++[.lst ((-1::vs).map U.int)]),3+G.length,vs,?_,?_,fun c hc=>by rw[hvs]at hc;exact(ZL.mp hc).1⟩
 ·obtain⟨ev,hev⟩:∃ev,ev=(-1::vs).map U.int:=⟨_,rfl⟩
  rw[<-hev]at hcat ⊢
  unfold HK
  rwa[kr,fQ,hc,hcat]
 ·rw[show 3+G.length=G.length+1+1+1 from by omega,Qg,Qg,Qg,ga0];rfl
theorem A7(he:Y[je]?=some (.lst ((-1::ef).map U.int)))(hr:Y[jr]?=some (.lst ((-1::rf).map U.int)))(wl:∃z,Y[lw]?=some (.lst [.int z]))(n1:jr≠lw)(hl:rf.length<=900)(hef:∀c∈ef,c∈rf) :
  ∃v Y',FX (rT lw most many jh jw r5 (some (.ref jr)) r7 r8 r9 (some (.ref je)) r11 r12) Y=some (.int v,Y')/\Wl lw Y Y'/\(v=-1\/v∈rf):=by
 obtain⟨v1,hv1⟩:∃v1,v1=ef.getLast?.getD (-1):=⟨_,rfl⟩
 have m1:v1=-1\/v1∈rf:=by
  rw[hv1]
  cases hg:ef.getLast? with
  |none=>exact .inl rfl
  |some x=>exact .inr (hef x (List.mem_of_getLast? hg))
 have a1:atI ((-1::ef).map U.int) (-1)=some (.int v1):=by rw[hv1];exact FO ef
 obtain⟨eu,heu⟩:∃eu,eu=(-1::ef).map U.int:=⟨_,rfl⟩
 obtain⟨ru,hru⟩:∃ru,ru=(-1::rf).map U.int:=⟨_,rfl⟩
 have lru:ru.length=rf.length+1:=by rw[hru];simp
 rw[<-heu]at he a1
 rw[<-hru]at hr
 obtain⟨d,Y1,e1,w1,l1,d0,d1⟩:=cB (m:=((ru.length:Nat):Int)) wl (by omega) (by omega)
 have hr1:Y1[jr]?=some (.lst ru):=w1.get hr n1
 obtain⟨v2,a2,m2⟩:∃v2,atI ru d=some (.int v2)/\(v2=-1\/v2∈rf):=by
  have hi:d.toNat<(-1::rf).length:=by simp;omega
  have:=eB (xs:=ru) (j:=d.toNat) (v:=.int (-1::rf)[d.toNat]) (by rw[hru,Qv,Q7 hi];rfl)
  rw[show((d.toNat:Nat):Int)=d from by omega]at this
  exact⟨_,this,QM.mp (Z8 hi)⟩
 obtain⟨d2,Y2,e2,w2,l2,_,_⟩:=cB (T:=Y1++[.lst [.int v1,.int v2]]) (lw:=lw) (m:=5) (by obtain⟨z,h⟩:=w1.well;exact⟨z,ah h⟩) (by omega) (by omega)
 have ll:lw<Y1.length:=by obtain⟨z,h⟩:=w1.well;exact(Q6.mp h).1
 have g2:Y2[Y1.length]?=some (.lst [.int v1,.int v2]):=w2.get (by rw[ga0];rfl) (by omega)
 have W:Wl lw Y Y2:=(w1.trans (.app w1.well _)).trans w2
 by_cases h0:d2=0
 ·have h0':decide (d2=0)=true:=decide_eq_true h0
  refine⟨v2,Y2,?_,W,m2⟩
  unfold FX
  rwa[rT,kr,fQ,he,a1,hr,e1,hr1,a2,e2,h0',if_true,g2]
 ·have h0':decide (d2=0)=false:=decide_eq_false h0
  refine⟨v1,Y2,?_,W,m1⟩
  unfold FX
  rwa[rT,kr,fQ,he,a1,hr,e1,hr1,a2,e2,h0',Qk,if_false,g2]
end
section
variable{κ κ' α β:Type}[DecidableEq κ][DecidableEq κ']
theorem qv(kf:κ->κ')(vf:α->β)(inj:∀a b,kf a=kf b->a=b)(ps:List (κ×α))(k:κ)(v:α):jG (ps.map fun p=>(kf p.1,vf p.2)) (kf k) (vf v)=(jG ps k v).map fun p=>(kf p.1,vf p.2):=by
 have hd:∀a,decide (kf a=kf k)=decide (a=k):=fun a=>by
  rw[ZY,decide_eq_true_eq,decide_eq_true_eq]
  exact⟨inj a k,fun h=>by rw[h]⟩
 have ha:((ps.map fun p=>(kf p.1,vf p.2)).any fun kv=>decide (kv.1=kf k))=ps.any fun kv=>decide (kv.1=k):=by
  rw[List.any_map]
  congr 1
  funext p
  exact hd p.1
 unfold jG
 rw[ha]
 by_cases h:(ps.any fun kv=>decide (kv.1=k))=true
 ·rw[if_pos h,if_pos h,Qc,Qc]
  refine Zu fun p _=>?_
  show(if kf p.1=kf k then(kf p.1,vf v)else(kf p.1,vf p.2))=_
  by_cases e:p.1=k
  ·simp[e]
  ·have e':¬kf p.1=kf k:=fun z=>e (inj _ _ z)
   simp[e,e']
 ·rw[if_neg h,if_neg h,Qe];rfl
theorem uD{ps:List (κ×α)}{k:κ}{v:α}(h:(ps.map (·.1)).Nodup):((jG ps k v).map (·.1)).Nodup:=by
 unfold jG
 by_cases e:(ps.any fun kv=>decide (kv.1=k))=true
 ·rw[if_pos e,Qc]
  have:((fun x:κ×α=>x.1) ∘ fun kv=>if kv.1=k then(kv.1,v)else kv)=fun x=>x.1:=by
   funext p
   show(if p.1=k then(p.1,v)else p).1=p.1
   split<;>rfl
  rw[this];exact h
 ·rw[if_neg e,Qe,List.nodup_append]
  refine⟨h,by simp,fun a ha b hb z=>?_⟩
  rw[List.map_singleton,Qn]at hb
  obtain⟨p,hp,hp2⟩:=Qa.mp ha
  exact e (List.any_eq_true.mpr ⟨p,hp,decide_eq_true (by rw[hp2,z,hb])⟩)
theorem nr{ps:List (κ×α)}{k:κ}{v:α}{q:κ×α}(h:q∈jG ps k v):q=(k,v)\/q∈ps:=by
 unfold jG at h
 split at h
 ·obtain⟨p,hp,e⟩:=Qa.mp h
  by_cases z:p.1=k
  ·rw[if_pos z]at e;rw[<-e,z];exact .inl rfl
  ·rw[if_neg z]at e;rw[<-e];exact .inr hp
 ·rcases Qt.mp h with z|z
  ·exact .inr z
  ·rw[Qn.mp z];exact .inl rfl
theorem xy{ps:List (κ×α)}{p:κ×α}(nd:(ps.map (·.1)).Nodup)(h:p∈ps):i7 ps p.1=some p.2:=by
 unfold i7
 induction ps with
 |nil=>cases h
 |cons q r ih=>
  rw[Qx,ZV]at nd
  rcases QM.mp h with z|z
  ·subst z;simp
  ·have:q.1≠p.1:=fun e=>nd.1 (Qa.mpr ⟨p,z,e.symm⟩)
   rw[ZK,decide_eq_false this]
   exact ih nd.2 z
end
def kT(p:Int×Int):List Key:=[.inl p.1,.inl p.2]
theorem vy:∀a b:Int×Int,kT a=kT b->a=b:=fun a b h=>by
 unfold kT at h
 injection h with h1 h2
 injection h2 with h3 _
 exact Prod.ext (Sum.inl.inj h1) (Sum.inl.inj h3)
def iO(ps:List ((Int×Int)×Int)):List (List Key×U):=ps.map fun p=>(kT p.1,.int p.2)
def oH(ps:List ((Int×Int)×Unit)):List (List Key×U):=ps.map fun p=>(kT p.1,.bl true)
theorem xO(ps:List ((Int×Int)×Int))(k:Int×Int)(v:Int):jG (iO ps) (kT k) (.int v)=iO (jG ps k v):=qv kT U.int vy ps k v
theorem xN(ps:List ((Int×Int)×Unit))(k:Int×Int):jG (oH ps) (kT k) (.bl true)=oH (jG ps k ()):=qv kT (fun _=>U.bl true) vy ps k ()
theorem cx{ca cb:CS}{ρ ρ':Rho}{S S':Sto}(h:ca ρ S=some (.nx,ρ',S')):bq ca cb ρ S=cb ρ' S':=by rw[rJ,h,Q0,mN]
section
variable{lw jw jh jk jr je jt:Nat}{Y S:Sto}{most many a b:Int}{os rf ef:List Int}{wr:List (List Int)}{r5 r6 r7 r8 r9 r10 r11 r12:Option U}
def InB(many:Int)(wr:List (List Int))(ps:List ((Int×Int)×Int)):Prop:=∀p∈ps,(0<=p.1.1/\p.1.1<many)/\0<=p.1.2/\p.1.2<wr.length/\(p.2=-1\/(p.2∈wr.getD p.1.2.toNat []/\p.2≠p.1.1))
theorem Cd{ps:List ((Int×Int)×Int)}(n1:jw≠lw)(n2:jh≠lw)(n3:jk≠lw)(n4:jw≠jk)(n5:jh≠jk)(m0:1<=many)(m1:many<=90)(w0:1<=wr.length)(wl1:wr.length<=90)
  (hh:Y[jh]?=some (.lst (os.map U.int))) (hw:Y[jw]?=some (.lst (wr.map rwU))) (hk:Y[jk]?=some (.dit (iO ps))) (wl:∃z,Y[lw]?=some (.lst [.int z])) (ho:os.length<=90) (hm:∀a,0<=a->a<many->a∈os) (hr:∀r∈wr,(∀z∈r,z∈os)/\r.length<=90/\r.Nodup) (hp:ps.length<=90) (ib:InB many wr ps) (nd:(ps.map (·.1)).Nodup) :
  ∃(ps':List ((Int×Int)×Int)) (Y':Sto) (r5' r6' r9' r10':Option U),dA cw dk (rT lw most many jh jw r5 r6 (some (.ref jk)) r8 r9 r10 r11 r12) Y=some (.nx,rT lw most many jh jw r5' r6' (some (.ref jk)) r8 r9' r10' r11 r12,Y')/\Y'[jk]?=some (.dit (iO ps'))/\Fw lw jk Y Y'/\InB many wr ps'/\(ps'.map (·.1)).Nodup/\ps'.length<=ps.length+1:=by
 obtain⟨a,Y1,e1,w1,l1,a0,a1⟩:=cB (m:=many) wl (by omega) (by omega)
 have hw1:Y1[jw]?=some (.lst (wr.map rwU)):=w1.get hw n1
 obtain⟨b,Y2,e2,w2,l2,b0,b1⟩:=cB (m:=(wr.length:Int)) w1.well (by omega) (by omega)
 have hw2:Y2[jw]?=some (.lst (wr.map rwU)):=w2.get hw1 n1
 have hb:b.toNat<wr.length:=by omega
 have hrow:wr.getD b.toNat []∈wr:=by rw[QV,Q7 hb];exact Z8 hb
 obtain⟨q1,q2,_⟩:=hr _ hrow
 obtain⟨G3,k3,e3,g3⟩:=Bn (lw:=lw) (most:=most) (many:=many) (jh:=jh) (r6:=r6) (r7:=some (.ref jk)) (r8:=r8) (a:=a) (r10:=r10) (r11:=r11) (r12:=r12) hw2 b0 b1 (by omega)
 obtain⟨rf,hrf⟩:∃rf,rf=(wr.getD b.toNat []).filter (fun c=>!decide (c=a)):=⟨_,rfl⟩
 rw[<-hrf]at g3
 have lrf:rf.length<=90:=by rw[hrf];exact Qy (List.length_filter_le ..) q2
 have hrm:∀c∈rf,c∈os:=fun c hc=>by rw[hrf]at hc;exact q1 c (ZL.mp hc).1
 have gr:(Y2++G3)[Y2.length+k3]?=some (.lst ((-1::rf).map U.int)):=by rw[ga];exact g3
 have hh2:(Y2++G3)[jh]?=some (.lst (os.map U.int)):=ah (w2.get (w1.get hh n2) n2)
 obtain⟨G4,k4,ef,e4,g4,hef⟩:=CH (lw:=lw) (most:=most) (many:=many) (jw:=jw) (r5:=some (.int b)) (r7:=some (.ref jk)) (r8:=r8) (a:=a) (r10:=r10) (r11:=r11) (r12:=r12) gr hh2 (hm a a0 a1) hrm (by omega) (by omega)
 have ge:(Y2++G3++G4)[(Y2++G3).length+k4]?=some (.lst ((-1::ef).map U.int)):=by rw[ga];exact g4
 have ll:lw<Y2.length:=by obtain⟨z,h⟩:=w2.well;exact(Q6.mp h).1
 have wl4:∃z,(Y2++G3++G4)[lw]?=some (.lst [.int z]):=by obtain⟨z,h⟩:=w2.well;exact⟨z,ah (ah h)⟩
 obtain⟨v,Y5,e5,w5,hv⟩:=A7 (most:=most) (many:=many) (jh:=jh) (jw:=jw) (r5:=some (.int b)) (r7:=some (.ref jk)) (r8:=r8) (r9:=some (.int a)) (r11:=r11) (r12:=r12) ge (ah gr) wl4 (by omega) (by omega) hef
 have W:Wl lw Y Y5:=((w1.trans w2).trans ((Wl.app w2.well G3).trans (.app (by obtain⟨z,h⟩:=w2.well;exact⟨z,ah h⟩) G4))).trans w5
 have hk5:Y5[jk]?=some (.dit (iO ps)):=W.get hk n3
 have lk5:jk<Y5.length:=(Q6.mp hk5).1
 have hlim:(iO ps).length<LIM/\[U.int a,U.int b].length<=LIM:=by unfold LIM iO;rw[QZ];exact⟨by omega,by simp⟩
 have htk:Bc [U.int a,U.int b]=some (kT (a,b)):=rfl
 refine⟨jG ps (a,b) v,Y5.set jk (.dit (iO (jG ps (a,b) v))),some (.int b),some (.ref (Y2.length+k3)),some (.int a),some (.ref ((Y2++G3).length+k4)),?_,by rw[Qp,if_pos rfl,if_pos lk5],(Fw.of W).trans (.set W.well n3 _),fun p hp=>?_,uD nd,qM ..⟩
 ·unfold dA
  refine(cx (ρ':=rT lw most many jh jw r5 r6 (some (.ref jk)) r8 (some (.int a)) r10 r11 r12) (S':=Y1) ?_).trans ?_
  ·rwa[rT,e1]
  refine(cx (ρ':=rT lw most many jh jw (some (.int b)) r6 (some (.ref jk)) r8 (some (.int a)) r10 r11 r12) (S':=Y2) ?_).trans ?_
  ·rwa[rT,hw1,QZ,e2]
  refine(cx (ρ':=rT lw most many jh jw (some (.int b)) (some (.ref (Y2.length+k3))) (some (.ref jk)) r8 (some (.int a)) r10 r11 r12) (S':=Y2++G3) ?_).trans ?_
  ·show bM 6 GQ _ _=_
   rw[fM,e3,Q0,kI];rfl
  refine(cx (ρ':=rT lw most many jh jw (some (.int b)) (some (.ref (Y2.length+k3))) (some (.ref jk)) r8 (some (.int a)) (some (.ref ((Y2++G3).length+k4))) r11 r12) (S':=Y2++G3++G4) ?_).trans ?_
  ·show bM 10 HK _ _=_
   rw[fM,e4,Q0,kI];rfl
  ·show gh (ae 7) (ab (ae 9) (ab (ae 5) ao)) FX _ _=_
   unfold gh
   rw[e5,Q0]
   have hc7:ae 7 (rT lw most many jh jw (some (.int b)) (some (.ref (Y2.length+k3))) (some (.ref jk)) r8 (some (.int a)) (some (.ref ((Y2++G3).length+k4))) r11 r12) Y5=some (.ref jk,Y5):=rfl
   have hca:ab (ae 9) (ab (ae 5) ao) (rT lw most many jh jw (some (.int b)) (some (.ref (Y2.length+k3))) (some (.ref jk)) r8 (some (.int a)) (some (.ref ((Y2++G3).length+k4))) r11 r12) Y5=some ([.int a,.int b],Y5):=rfl
   dsimp only
   rw[hc7,Q0]
   dsimp only
   rw[hca,Q0]
   dsimp only
   rw[hk5]
   dsimp only
   rw[htk,Q0,if_pos hlim,xO]
 ·rcases nr hp with h|h
  ·rw[h]
   refine⟨⟨a0,a1⟩,b0,b1,hv.imp id fun z=>?_⟩
   rw[hrf]at z
   obtain⟨z1,z2⟩:=ZL.mp z
   exact⟨z1,by simpa using z2⟩
  ·exact ib p h
theorem vm(n1:jw≠lw)(n2:jh≠lw)(n3:jk≠lw)(n4:jw≠jk)(n5:jh≠jk)(m0:1<=many)(m1:many<=90)(w0:1<=wr.length)(wl1:wr.length<=90)(ho:os.length<=90)(hm:∀a,0<=a->a<many->a∈os)(hr:∀r∈wr,(∀z∈r,z∈os)/\r.length<=90/\r.Nodup) :
  ∀(us:List U) (ps:List ((Int×Int)×Int)) (Y:Sto) (r5 r6 r8 r9 r10:Option U),Y[jh]?=some (.lst (os.map U.int))->Y[jw]?=some (.lst (wr.map rwU))->Y[jk]?=some (.dit (iO ps))->(∃z,Y[lw]?=some (.lst [.int z]))->ps.length+us.length<=90->InB many wr ps->(ps.map (·.1)).Nodup->
  ∃(ps':List ((Int×Int)×Int)) (Y':Sto) (r5' r6' r8' r9' r10':Option U),cU (fun _=>True) (gNm 8) (dA cw dk) us (rT lw most many jh jw r5 r6 (some (.ref jk)) r8 r9 r10 r11 r12) Y=some (.nx,rT lw most many jh jw r5' r6' (some (.ref jk)) r8' r9' r10' r11 r12,Y')/\Y'[jk]?=some (.dit (iO ps'))/\Fw lw jk Y Y'/\InB many wr ps'/\(ps'.map (·.1)).Nodup/\ps'.length<=ps.length+us.length
 |[],ps,Y,r5,r6,r8,r9,r10,h1,h2,h3,h4,_,h6,h7=>⟨ps,Y,r5,r6,r8,r9,r10,bV trivial,h3,.of (.refl h4),h6,h7,by simp⟩
 |u::us,ps,Y,r5,r6,r8,r9,r10,h1,h2,h3,h4,h5,h6,h7=>by
  rw[QB]at h5
  obtain⟨ps1,Y1,s5,s6,s9,s10,e,k1,k2,k3,k4,k5⟩:=Cd (most:=most) (r5:=r5) (r6:=r6) (r8:=some u) (r9:=r9) (r10:=r10) (r11:=r11) (r12:=r12) n1 n2 n3 n4 n5 m0 m1 w0 wl1 h1 h2 h3 h4 ho hm hr (by omega) h6 h7
  obtain⟨ps',Y',t5,t6,t8,t9,t10,ih,i1,i2,i3,i4,i5⟩:=vm n1 n2 n3 n4 n5 m0 m1 w0 wl1 ho hm hr us ps1 Y1 s5 s6 (some u) s9 s10 (k2.get h1 n2 n5) (k2.get h2 n1 n4) k1 k2.well (by omega) k3 k4
  exact⟨ps',Y',t5,t6,t8,t9,t10,(dg trivial rfl e).trans ih,i1,k2.trans i2,i3,i4,by rw[QB];omega⟩
end
section
variable{lw jw jh jk jt:Nat}{Y S:Sto}{most many a b:Int}{os:List Int}{wr:List (List Int)}{r5 r6 r7 r8 r9 r10 r11 r12:Option U}
def TmB(many:Int)(ts:List ((Int×Int)×Unit)):Prop:=∀p∈ts,(0<=p.1.1/\p.1.1<many)/\(0<=p.1.2/\p.1.2<many)/\p.1.1≠p.1.2
theorem Bb{ts:List ((Int×Int)×Unit)}(n2:jh≠lw)(n3:jt≠lw)(m0:1<=many)(m1:many<=90)
  (hh:Y[jh]?=some (.lst (os.map U.int))) (hk:Y[jt]?=some (.dit (oH ts))) (wl:∃z,Y[lw]?=some (.lst [.int z])) (ho:os.length<=90) (hm:∀a,0<=a->a<many->a∈os) (hp:ts.length<=90) (nd:(ts.map (·.1)).Nodup) (tb:TmB many ts) :
  ∃(ts':List ((Int×Int)×Unit)) (Y':Sto) (r9' r12':Option U),cF cw dk (rT lw most many jh jw r5 r6 r7 r8 r9 r10 (some (.ref jt)) r12) Y=some (.nx,rT lw most many jh jw r5 r6 r7 r8 r9' r10 (some (.ref jt)) r12',Y')/\Y'[jt]?=some (.dit (oH ts'))/\Fw lw jt Y Y'/\(ts'.map (·.1)).Nodup/\ts'.length<=ts.length+1/\TmB many ts':=by
 obtain⟨a,Y1,e1,w1,l1,a0,a1⟩:=cB (m:=many) wl (by omega) (by omega)
 obtain⟨b,Y2,e2,w2,l2,b0,b1⟩:=cB (m:=many) w1.well (by omega) (by omega)
 have W:=w1.trans w2
 have hh2:Y2[jh]?=some (.lst (os.map U.int)):=W.get hh n2
 have hk2:Y2[jt]?=some (.dit (oH ts)):=W.get hk n3
 have i1:aI (.ref jh) [.int a] Y2=some (.int (os.idxOf a:Nat),Y2):=du hh2 (hm a a0 a1) (by omega)
 have i2:aI (.ref jh) [.int b] Y2=some (.int (os.idxOf b:Nat),Y2):=du hh2 (hm b b0 b1) (by omega)
 have hput:a≠b->∀Y3,Wl lw Y Y3->∃(ts':List ((Int×Int)×Unit)) (Y':Sto),gh (ae 11) (ab (ae 9) (ab (ae 12) ao)) (cC (.bl true)) (rT lw most many jh jw r5 r6 r7 r8 (some (.int a)) r10 (some (.ref jt)) (some (.int b))) Y3=some (.nx,rT lw most many jh jw r5 r6 r7 r8 (some (.int a)) r10 (some (.ref jt)) (some (.int b)),Y')/\Y'[jt]?=some (.dit (oH ts'))/\Fw lw jt Y Y'/\(ts'.map (·.1)).Nodup/\ts'.length<=ts.length+1/\TmB many ts':=fun nab Y3 W3=>by
  have hk3:Y3[jt]?=some (.dit (oH ts)):=W3.get hk n3
  have lk3:jt<Y3.length:=(Q6.mp hk3).1
  have hlim:(oH ts).length<LIM/\[U.int a,U.int b].length<=LIM:=by unfold LIM oH;rw[QZ];exact⟨by omega,by simp⟩
  have htk:Bc [U.int a,U.int b]=some (kT (a,b)):=rfl
  refine⟨jG ts (a,b) (),Y3.set jt (.dit (oH (jG ts (a,b) ()))),?_,by rw[Qp,if_pos rfl,if_pos lk3],(Fw.of W3).trans (.set W3.well n3 _),uD nd,qM ..,fun p hp=>(nr hp).elim (fun e=>by rw[e];exact⟨⟨a0,a1⟩,⟨b0,b1⟩,nab⟩) (tb p)⟩
  unfold gh
  have hcv:cC (.bl true) (rT lw most many jh jw r5 r6 r7 r8 (some (.int a)) r10 (some (.ref jt)) (some (.int b))) Y3=some (.bl true,Y3):=rfl
  have hco:ae 11 (rT lw most many jh jw r5 r6 r7 r8 (some (.int a)) r10 (some (.ref jt)) (some (.int b))) Y3=some (.ref jt,Y3):=rfl
  have hca:ab (ae 9) (ab (ae 12) ao) (rT lw most many jh jw r5 r6 r7 r8 (some (.int a)) r10 (some (.ref jt)) (some (.int b))) Y3=some ([.int a,.int b],Y3):=rfl
  rw[hcv,Q0]
  dsimp only
  rw[hco,Q0]
  dsimp only
  rw[hca,Q0]
  dsimp only
  rw[hk3]
  dsimp only
  rw[htk,Q0,if_pos hlim,xN]
 have s1:bM 9 (cCB cw (ab (ae 0) (ab (ae 2) ao))) (rT lw most many jh jw r5 r6 r7 r8 r9 r10 (some (.ref jt)) r12) Y=some (.nx,rT lw most many jh jw r5 r6 r7 r8 (some (.int a)) r10 (some (.ref jt)) r12,Y1):=by
  rwa[rT,e1]
 have s2:bM 12 (cCB cw (ab (ae 0) (ab (ae 2) ao))) (rT lw most many jh jw r5 r6 r7 r8 (some (.int a)) r10 (some (.ref jt)) r12) Y1=some (.nx,rT lw most many jh jw r5 r6 r7 r8 (some (.int a)) r10 (some (.ref jt)) (some (.int b)),Y2):=by
  rwa[rT,e2]
 have fin:∀(bb:Bool) (Y3:Sto),(bb=true->a≠b)->Wl lw Y Y3->lH (aA (cOp fNe (ae 9) (ae 12))) (cOr (aA (cOp fLt (cBM aI (ae 3) (ab (ae 9) ao)) (cBM aI (ae 3) (ab (ae 12) ao)))) (aA (cOp fEq (cCB cw (ab (ae 0) (ab (cC (.int 6)) ao))) (cC (.int 0))))) (rT lw most many jh jw r5 r6 r7 r8 (some (.int a)) r10 (some (.ref jt)) (some (.int b))) Y2=some (bb,Y3)->
   ∃(ts':List ((Int×Int)×Unit)) (Y':Sto) (r9' r12':Option U),cF cw dk (rT lw most many jh jw r5 r6 r7 r8 r9 r10 (some (.ref jt)) r12) Y=some (.nx,rT lw most many jh jw r5 r6 r7 r8 r9' r10 (some (.ref jt)) r12',Y')/\Y'[jt]?=some (.dit (oH ts'))/\Fw lw jt Y Y'/\(ts'.map (·.1)).Nodup/\ts'.length<=ts.length+1/\TmB many ts':=fun bb Y3 nab W3 ht=>by
  unfold cF
  cases bb with
  |true=>
   obtain⟨ts',Y',e,k⟩:=hput (nab rfl) Y3 W3
   refine⟨ts',Y',some (.int a),some (.int b),?_,k⟩
   rw[cx s1,cx s2,eI,ht,Q0,jq]
   exact e
  |false=>
   refine⟨ts,Y3,some (.int a),some (.int b),?_,W3.get hk n3,.of W3,nd,by omega,tb⟩
   rw[cx s1,cx s2,eI,ht,Q0,pO]
   rfl
 by_cases h1:a=b
 ·have h1':decide (a=b)=true:=decide_eq_true h1
  refine fin false Y2 (fun z=>by cases z) W ?_
  rwa[rT,h1']
 ·have h1':decide (a=b)=false:=decide_eq_false h1
  cases h2:decide (((os.idxOf a:Nat):Int)<((os.idxOf b:Nat):Int))with
  |true=>
   refine fin true Y2 (fun _=>h1) W ?_
   rwa[rT,h1',hh2,i1,i2,h2]
  |false=>
   obtain⟨d,Y3,e3,w3,l3,_,_⟩:=cB (m:=6) w2.well (by omega) (by omega)
   refine fin (decide (d=0)) Y3 (fun _=>h1) (W.trans w3) ?_
   rwa[rT,h1',hh2,i1,i2,h2,e3]
theorem tV(n2:jh≠lw)(n3:jt≠lw)(n5:jh≠jt)(m0:1<=many)(m1:many<=90)(ho:os.length<=90)(hm:∀a,0<=a->a<many->a∈os) :
  ∀(us:List U) (ts:List ((Int×Int)×Unit)) (Y:Sto) (r8 r9 r12:Option U),Y[jh]?=some (.lst (os.map U.int))->Y[jt]?=some (.dit (oH ts))->(∃z,Y[lw]?=some (.lst [.int z]))->ts.length+us.length<=90->(ts.map (·.1)).Nodup->TmB many ts->
  ∃(ts':List ((Int×Int)×Unit)) (Y':Sto) (r8' r9' r12':Option U),cU (fun _=>True) (gNm 8) (cF cw dk) us (rT lw most many jh jw r5 r6 r7 r8 r9 r10 (some (.ref jt)) r12) Y=some (.nx,rT lw most many jh jw r5 r6 r7 r8' r9' r10 (some (.ref jt)) r12',Y')/\Y'[jt]?=some (.dit (oH ts'))/\Fw lw jt Y Y'/\(ts'.map (·.1)).Nodup/\ts'.length<=ts.length+us.length/\TmB many ts'
 |[],ts,Y,r8,r9,r12,h1,h3,h4,_,h7,h8=>⟨ts,Y,r8,r9,r12,bV trivial,h3,.of (.refl h4),h7,by simp,h8⟩
 |u::us,ts,Y,r8,r9,r12,h1,h3,h4,h5,h7,h8=>by
  rw[QB]at h5
  obtain⟨ts1,Y1,s9,s12,e,k1,k2,k4,k5,k6⟩:=Bb (most:=most) (jw:=jw) (r5:=r5) (r6:=r6) (r7:=r7) (r8:=some u) (r9:=r9) (r10:=r10) (r12:=r12) n2 n3 m0 m1 h1 h3 h4 ho hm (by omega) h7 h8
  obtain⟨ts',Y',t8,t9,t12,ih,i1,i2,i4,i5,i6⟩:=tV n2 n3 n5 m0 m1 ho hm us ts1 Y1 (some u) s9 s12 (k2.get h1 n2 n5) k1 k2.well (by omega) k4 k6
  exact⟨ts',Y',t8,t9,t12,(dg trivial rfl e).trans ih,i1,k2.trans i2,i4,by rw[QB];omega,i6⟩
def oV(p:(Int×Int)×Int):List Int:=[p.1.1,p.1.2,p.2]
def CW(p:(Int×Int)×Unit):List Int:=[p.1.1,p.1.2]
theorem kR:∀ts:List ((Int×Int)×Unit),rZ (oH ts)=some (ts.map CW)
 |[]=>rfl
 |p::ts=>by
  have ih:=kR ts
  unfold oH at ih ⊢
  rw[Qx,rZ,ih];rfl
theorem Bp{ts:List ((Int×Int)×Unit)}(h:(ts.map (·.1)).Nodup):(ts.map CW).Nodup:=by
 rw[Zn,ZC]at h ⊢
 refine h.imp fun{p q} hn e=>hn ?_
 unfold CW at e
 injection e with e1 e2
 injection e2 with e3 _
 exact Prod.ext e1 e3
theorem Bo{ps:List ((Int×Int)×Int)}(h:(ps.map (·.1)).Nodup):(ps.map oV).Nodup:=by
 rw[Zn,ZC]at h ⊢
 refine h.imp fun{p q} hn e=>hn ?_
 unfold oV at e
 injection e with e1 e2
 injection e2 with e3 _
 exact Prod.ext e1 e3
theorem gT{ps:List (List Int)}{r:List Int}(h:r∈fN ps):r∈ps:=by
 unfold fN at h
 split at h
 ·rename_i hx
  exact(hx.choose_spec.2 r).mp h
 ·cases h
theorem mY{ps:List (List Int)}:(fN ps).length<=ps.length:=by
 have nd:(fN ps).Nodup:=by
  unfold fN
  split
  ·rename_i hx
   exact hx.choose_spec.1.imp fun{a b} h e=>by subst e;rw[jJ]at h;cases h
  ·exact List.nodup_nil
 exact List.Nodup.length_le_of_subset nd fun r hr=>gT hr
theorem rW{ts:List ((Int×Int)×Unit)}(h:S[jt]?=some (.dit (oH ts)))(nd:(ts.map (·.1)).Nodup)(hl:ts.length<64):cP [.ref jt] S=some (.ref S.length,S++[.lst ((fN (ts.map CW)).map rwU)]):=by
 simp only[cP,h,kR,Q0]
 rw[if_pos ⟨fun p hp=>by obtain⟨q,_,rfl⟩:=Qa.mp hp;exact List.cons_ne_nil _ _,Bp nd,by rw[QZ];exact hl⟩]
theorem rX{ps:List ((Int×Int)×Int)}{l:Nat}(h:S[l]?=some (.lst ((ps.map oV).map rwU)))(nd:(ps.map (·.1)).Nodup)(hl:ps.length<64):cP [.ref l] S=some (.ref S.length,S++[.lst ((fN (ps.map oV)).map rwU)]):=by
 simp only[cP,h,ng,Q0]
 rw[if_pos ⟨fun p hp=>by obtain⟨q,_,rfl⟩:=Qa.mp hp;exact List.cons_ne_nil _ _,Bo nd,by rw[QZ];exact hl⟩]
def GK:CE:=rq (ae 7) (gNm 0) (cOp bE (ae 0) (ig (ab (cOp CB (ae 1) (ae 0)) ao))) 1 [7]
theorem A9{ps:List ((Int×Int)×Int)}{ρ:Rho}(h7:ρ[7]?=some (some (.ref jk)))(hk:S[jk]?=some (.dit (iO ps)))(nd:(ps.map (·.1)).Nodup)(hl:ps.length<=900):GK ρ S=some (.ref S.length,S++[.lst ((ps.map oV).map rwU)]):=by
 have hv:ae 7 ρ S=some (.ref jk,S):=by unfold ae;rw[h7]
 have lk:jk<S.length:=(Q6.mp hk).1
 unfold GK rq wj
 rw[hv,Q0]
 simp only[hk]
 refine DP fun ep=>?_
 have ek:∀X:Sto,(S.set jk (.fdt ep (iO ps))++X)[jk]?=some (.fdt ep (iO ps)):=fun X=>ah (by rw[Qp,if_pos rfl,if_pos lk])
 have key:=eE (S:=S.set jk (.fdt ep (iO ps))) (ok:=fun S'=>S'[jk]?=some (.fdt ep (iO ps))) (gg:=gNm 0) (ce:=cOp bE (ae 0) (ig (ab (cOp CB (ae 1) (ae 0)) ao))) (f:=fun p:(Int×Int)×Int=>.tup [.int p.1.1,.int p.1.2]) (v:=fun p=>rwU (oV p)) (Rel:=fun ρ=>∃r0,ρ=[r0,some (.ref jk)]) (fun ys G=>ek _) ps [] [] [none,some (.ref jk)] ⟨_,rfl⟩ (by simp;omega) (fun p hp ys G ρ hρ=>by
  obtain⟨r0,rfl⟩:=hρ
  refine⟨[some (.tup [.int p.1.1,.int p.1.2]),some (.ref jk)],⟨_,rfl⟩,rfl,?_⟩
  have hva:i7 (iO ps) (kT p.1)=some (.int p.2):=by
   have nd':((iO ps).map (·.1)).Nodup:=by
    unfold iO
    rw[Qc,Zn,ZC]
    rw[Zn,ZC]at nd
    exact nd.imp fun{a b} hn e=>hn (vy _ _ e)
   exact xy (p:=(kT p.1,.int p.2)) nd' (Qa.mpr ⟨p,hp,rfl⟩)
  have hx:CB (.ref jk) (.tup [.int p.1.1,.int p.1.2]) (S.set jk (.fdt ep (iO ps))++(.lst ys::G))=some (.int p.2,S.set jk (.fdt ep (iO ps))++(.lst ys::G)):=by
   have ht:Bc [U.int p.1.1,U.int p.1.2]=some (kT p.1):=rfl
   simp only[CB,ht,Q0,ek,hva]
  have ha:bE (.tup [.int p.1.1,.int p.1.2]) (.tup [.int p.2]) (S.set jk (.fdt ep (iO ps))++(.lst ys::G))=some (rwU (oV p),S.set jk (.fdt ep (iO ps))++(.lst ys::G)):=by
   unfold bE;simp only;rw[if_pos (by unfold LIM;simp)];rfl
  rwa[hx,ha])
 rw[List.length_set]at key
 have ef:(iO ps).map (fun q=>U.tup (q.1.map kU))=ps.map fun p:(Int×Int)×Int=>.tup [.int p.1.1,.int p.1.2]:=by unfold iO;rw[Qc];rfl
 have er:gJ 1 [7] ρ=[none,some (.ref jk)]:=by simp only[gJ,Zv,Qx,Zh,h7,Qi,ZZ,Qd]
 simp only[Qd]at key
 rw[ef,er,key,Q0]
 have em:(ps.map fun p=>rwU (oV p))=(ps.map oV).map rwU:=by rw[Qc];rfl
 have e2:(S.set jk (.fdt ep (iO ps))++[O.lst (ps.map fun p=>rwU (oV p))]).set jk (.dit (iO ps))=S++[.lst ((ps.map oV).map rwU)]:=by
  rw[List.set_append_left _ _ (by rw[List.length_set];exact lk),xH hk,em]
 simp only[ek,e2]
theorem HE{cr:CA}{ρ:Rho}{S S1:Sto}{n:Int}{g:CG}{b:CS}(h:cr ρ S=some ([.int n],S1))(n0:0<=n)(n1:n<=1000):iQ (aK cr) g b ρ S=cU (fun _=>True) g b (aX 0 n.toNat) ρ S1:=by
 have hb:-(2^62)<=n/\n<2^62:=by omega
 unfold iQ aK
 rw[h,Q0]
 simp only[hb,and_self,if_true,Q0]
def wL:Fn:=fnU 13 2 (dM cw dk)
structure fe(many:Int)(tms:List (Int×Int))(wr lk:List (List Int)):Prop where
 htm:∀p∈tms,(0<=p.1/\p.1<many)/\(0<=p.2/\p.2<many)/\p.1≠p.2
 htl:tms.length<=30
 hwr:∀r∈wr,(∀x∈r,0<=x/\x<many)/\r.Nodup
 hwl:1<=wr.length/\wr.length<=6
 hlk:∀r∈lk,∃a b v,r=[a,b,v]/\(0<=a/\a<many)/\(0<=b/\b<wr.length)/\(v=-1\/(v∈wr.getD b.toNat []/\v≠a))
 hll:lk.length<=60
theorem kQ:∀{rs:List (List Int)},(∀r∈rs,∃a b,r=[a,b])->∃ps:List (Int×Int),rs=ps.map fun p=>[p.1,p.2]
 |[],_=>⟨[],rfl⟩
 |r::rs,h=>by
  obtain⟨a,b,rfl⟩:=h r QK
  obtain⟨ps,e⟩:=kQ (rs:=rs) fun x hx=>h x (QU _ hx)
  exact⟨(a,b)::ps,by rw[e];rfl⟩
theorem xD(wl:∃z,Y[lw]?=some (.lst [.int z]))(m0:1<=most)(m1:most<=30):∃(many:Int) (tms:List (Int×Int)) (wr lk:List (List Int)) (Y':Sto),wL [.ref lw,.int most] Y=some (aF many (.tup (tms.map pP)) wr lk,Y')/\Wl lw Y Y'/\(1<=many/\many<=most)/\fe many tms wr lk:=by
 have hl0:lw<Y.length:=by obtain⟨z,h⟩:=wl;exact(Q6.mp h).1
 obtain⟨d,Y1,e1,w1,l1,d0,d1⟩:=cB (m:=most) wl (by omega) (by omega)
 obtain⟨many,hmany⟩:∃many:Int,many=1+d:=⟨_,rfl⟩
 obtain⟨os,Y2,jh,e2,h2,j2,w2,lo,on,mo⟩:=qH (many:=many) w1.well (by omega) (by omega)
 have ho:os.length<=90:=by omega
 have hm:∀a,0<=a->a<many->a∈os:=fun a a0 a1=>(mo a).mpr ⟨a0,a1⟩
 have lh:jh<Y2.length:=(Q6.mp h2).1
 have hl2:lw<Y2.length:=Qq (by omega) w2.len
 obtain⟨d3,Y3,e3,w3,l3,d30,d31⟩:=cB (T:=Y2++[.lst [],.lst [.int 3,.int 3,.int 6]]) (lw:=lw) (m:=3) (by obtain⟨z,h⟩:=w2.well;exact⟨z,ah h⟩) (by omega) (by omega)
 have g3:Y3[Y2.length+1]?=some (.lst [.int 3,.int 3,.int 6]):=w3.get (by rw[ga];rfl) (by omega)
 obtain⟨v,a3,v0,v1⟩:∃v:Int,atI [U.int 3,.int 3,.int 6] d3=some (.int v)/\0<v/\v<=6:=by
  have:d3=0\/d3=1\/d3=2:=by omega
  rcases this with rfl|rfl|rfl
  ·exact⟨3,rfl,by decide,by decide⟩
  ·exact⟨3,rfl,by decide,by decide⟩
  ·exact⟨6,rfl,by decide,by decide⟩
 obtain⟨d4,Y4,e4,w4,l4,d40,d41⟩:=cB (m:=v) w3.well v0 (by omega)
 have W4:Wl lw (Y2++[.lst [],.lst [.int 3,.int 3,.int 6]]) Y4:=w3.trans w4
 have h4:Y4[jh]?=some (.lst (os.map U.int)):=W4.get (ah h2) (by omega)
 have k4:Y4[Y2.length]?=some (.lst (([]:List (List Int)).map rwU)):=W4.get (by rw[ga0];rfl) (by omega)
 have nlen:(aX 0 (1+d4).toNat).length=(1+d4).toNat:=by simp[aX]
 obtain⟨wr,Y5,s5,s6,e5,k5,f5,c5,lw5⟩:=tj (lw:=lw) (jh:=jh) (jw:=Y2.length) (most:=most) (many:=many) (r7:=none) (r8:=none) (r9:=none) (r10:=none) (r11:=none) (r12:=none) (by omega) (by omega) (by omega) ho on (aX 0 (1+d4).toNat) [] Y4 none none h4 k4 W4.well (by rw[nlen];simp;omega) (fun r hr=>by cases hr)
 have wlen:wr.length=(1+d4).toNat:=by rw[lw5,nlen];simp
 have h5:Y5[jh]?=some (.lst (os.map U.int)):=f5.get h4 (by omega) (by omega)
 obtain⟨d6,Y6,e6,w6,l6,d60,d61⟩:=cB (T:=Y5++[.dit []]) (lw:=lw) (m:=2*many+1) (by obtain⟨z,h⟩:=f5.well;exact⟨z,ah h⟩) (by omega) (by omega)
 have l5:Y2.length<Y5.length:=(Q6.mp k5).1
 have l5h:jh<Y5.length:=(Q6.mp h5).1
 have hl5:lw<Y5.length:=by obtain⟨z,h⟩:=f5.well;exact(Q6.mp h).1
 have nl6:(aX 0 d6.toNat).length=d6.toNat:=by simp[aX]
 obtain⟨ps,Y7,t5,t6,t8,t9,t10,e7,k7,f7,ib,nd7,lp⟩:=vm (lw:=lw) (jh:=jh) (jw:=Y2.length) (jk:=Y5.length) (most:=most) (many:=many) (wr:=wr) (r11:=none) (r12:=none) (by omega) (by omega) (by omega) (by omega) (by omega) (by omega) (by omega) (by omega) (by omega) ho hm c5 (aX 0 d6.toNat) [] Y6 s5 s6 none none none (w6.get (ah h5) (by omega)) (w6.get (ah k5) (by omega)) (w6.get (by rw[ga0];rfl) (by omega)) w6.well (by rw[nl6];simp;omega) (fun p hp=>by cases hp) List.nodup_nil
 have hps:ps.length<64:=by rw[nl6]at lp;simp at lp;omega
 have h7:Y7[jh]?=some (.lst (os.map U.int)):=f7.get (w6.get (ah h5) (by omega)) (by omega) (by omega)
 have b7:Y7[Y2.length]?=some (.lst (wr.map rwU)):=f7.get (w6.get (ah k5) (by omega)) (by omega) (by omega)
 obtain⟨d8,Y8,e8,w8,l8,d80,d81⟩:=cB (T:=Y7++[.dit []]) (lw:=lw) (m:=many+1) (by obtain⟨z,h⟩:=f7.well;exact⟨z,ah h⟩) (by omega) (by omega)
 have l7:Y5.length<Y7.length:=(Q6.mp k7).1
 have nl8:(aX 0 d8.toNat).length=d8.toNat:=by simp[aX]
 obtain⟨ts,Y9,u8,u9,u12,e9,k9,f9,nd9,lt9,tb9⟩:=tV (lw:=lw) (jh:=jh) (jw:=Y2.length) (jt:=Y7.length) (most:=most) (many:=many) (r5:=t5) (r6:=t6) (r7:=some (.ref Y5.length)) (r10:=t10) (by omega) (by omega) (by omega) (by omega) (by omega) ho hm (aX 0 d8.toNat) [] Y8 t8 t9 none (w8.get (ah h7) (by omega)) (w8.get (by rw[ga0];rfl) (by omega)) w8.well (by rw[nl8];simp;omega) List.nodup_nil (fun p hp=>by cases hp)
 have hts:ts.length<64:=by rw[nl8]at lt9;simp at lt9;omega
 have b9:Y9[Y2.length]?=some (.lst (wr.map rwU)):=f9.get (w8.get (ah b7) (by omega)) (by omega) (by omega)
 have q9:Y9[Y5.length]?=some (.dit (iO ps)):=f9.get (w8.get (ah k7) (by omega)) (by omega) (by omega)
 obtain⟨tms,htms⟩:∃tms,tms=fN (ts.map CW):=⟨_,rfl⟩
 obtain⟨lk,hlk⟩:∃lk,lk=fN (ps.map oV):=⟨_,rfl⟩
 have x1:=rW (S:=Y9) k9 nd9 hts
 have x2:=A9 (S:=Y9++[.lst (tms.map rwU)]) (ρ:=rT lw most many jh Y2.length t5 t6 (some (.ref Y5.length)) u8 u9 t10 (some (.ref Y7.length)) u12) rfl (ah q9) nd7 (by omega)
 have x3:=rX (S:=Y9++[.lst (tms.map rwU)]++[.lst ((ps.map oV).map rwU)]) (l:=(Y9++[O.lst (tms.map rwU)]).length) (by rw[ga0];rfl) nd7 hps
 rw[<-htms]at x1
 rw[<-hlk]at x3
 have W9:Wl lw Y Y9:=by
  have A:Wl lw Y Y4:=((w1.trans w2).trans (Wl.app w2.well _)).trans W4
  have B:Wl lw Y Y5:=⟨Qy A.len f5.len,fun j hj n=>by rw[f5.keep j (Qq hj A.len) n (by have:=w1.len;have:=w2.len;omega),A.keep j hj n],f5.well⟩
  have C:Wl lw Y Y6:=(B.trans (.app f5.well _)).trans w6
  have D:Wl lw Y Y7:=⟨Qy C.len f7.len,fun j hj n=>by rw[f7.keep j (Qq hj C.len) n (by have:=B.len;omega),C.keep j hj n],f7.well⟩
  have E:Wl lw Y Y8:=(D.trans (.app f7.well _)).trans w8
  exact⟨Qy E.len f9.len,fun j hj n=>by rw[f9.keep j (Qq hj E.len) n (by have:=D.len;omega),E.keep j hj n],f9.well⟩
 obtain⟨pms,hpms⟩:=kQ (rs:=tms) fun r hr=>by
  rw[htms]at hr
  obtain⟨p,_,rfl⟩:=Qa.mp (gT hr)
  exact⟨_,_,rfl⟩
 have etm:tms.map rwU=pms.map pP:=by rw[hpms,Qc];rfl
 refine⟨many,pms,wr,lk,Y9++[.lst (tms.map rwU)]++[.lst ((ps.map oV).map rwU)]++[.lst (lk.map rwU)],?_,?_,⟨by omega,by omega⟩,⟨fun p hp=>?_,?_,fun r hr=>?_,⟨by omega,by omega⟩,fun r hr=>?_,?_⟩⟩
 ·rw[<-etm]
  unfold wL
  rw[pq]
  unfold dM
  have L2n:(Y2++[O.lst []]).length=Y2.length+1:=by rw[QQ];rfl
  have t2:∀S:Sto,jg (.int 2) (.int many) S=some (.int (2*many),S):=fun S=>lK (.inl (by decide))
  have nd0:List.length ([]:List U)=0:=rfl
  rw[cx (ρ':=[some (.ref lw),some (.int most),some (.int many),none,none,none,none,none,none,none,none,none,none]) (S':=Y1) (by rw[hmany];rwa[e1])]
  rw[cx (ρ':=[some (.ref lw),some (.int most),some (.int many),some (.ref jh),none,none,none,none,none,none,none,none,none]) (S':=Y2) (by rwa[e2])]
  rw[cx (ρ':=rT lw most many jh Y2.length none none none none none none none none) (S':=Y2++[.lst []]) rfl]
  have a4:ab (cOp bE (cC (.int 1)) (cCB cw (ab (ae 0) (ab (cOp fIx (bZ (ab (cC (.int 3)) (ab (cC (.int 3)) (ab (cC (.int 6)) ao)))) (cCB cw (ab (ae 0) (ab (cC (.int 3)) ao)))) ao)))) ao (rT lw most many jh Y2.length none none none none none none none none) (Y2++[.lst []])=some ([.int (1+d4)],Y4):=by
   rwa[rT,L2n,e3,g3,a3,e4]
  rw[cx ((HE a4 (by omega) (by omega)).trans e5)]
  rw[cx (ρ':=rT lw most many jh Y2.length s5 s6 (some (.ref Y5.length)) none none none none none) (S':=Y5++[.dit []]) rfl]
  have a6:ab (cCB cw (ab (ae 0) (ab (cOp bE (cOp jg (cC (.int 2)) (ae 2)) (cC (.int 1))) ao))) ao (rT lw most many jh Y2.length s5 s6 (some (.ref Y5.length)) none none none none none) (Y5++[.dit []])=some ([.int d6],Y6):=by
   rwa[rT,t2,e6]
  rw[cx ((HE a6 (by omega) (by omega)).trans e7)]
  rw[cx (ρ':=rT lw most many jh Y2.length t5 t6 (some (.ref Y5.length)) t8 t9 t10 (some (.ref Y7.length)) none) (S':=Y7++[.dit []]) rfl]
  have a8:ab (cCB cw (ab (ae 0) (ab (cOp bE (ae 2) (cC (.int 1))) ao))) ao (rT lw most many jh Y2.length t5 t6 (some (.ref Y5.length)) t8 t9 t10 (some (.ref Y7.length)) none) (Y7++[.dit []])=some ([.int d8],Y8):=by
   rwa[rT,e8]
  rw[cx ((HE a8 (by omega) (by omega)).trans e9)]
  show(ik (ig (ab (ae 2) (ab (cCB fb (ab (cCB cP (ab (ae 11) ao)) ao)) (ab (cCB fb (ab (ae 4) ao)) (ab (cCB fb (ab (cCB cP (ab GK ao)) ao)) ao))))) _ _).bind kFn=_
  have b9':(Y9++[O.lst (tms.map rwU)])[Y2.length]?=some (.lst (wr.map rwU)):=ah b9
  have c9:(Y9++[O.lst (tms.map rwU)])[Y9.length]?=some (.lst (tms.map rwU)):=by rw[ga0];rfl
  obtain⟨Z,hZ⟩:∃Z,Z=Y9++[O.lst (tms.map rwU)]++[.lst ((ps.map oV).map rwU)]:=⟨_,rfl⟩
  rw[<-hZ]at x2 x3 ⊢
  obtain⟨V,hV⟩:∃V,V=Z++[O.lst (lk.map rwU)]:=⟨_,rfl⟩
  rw[<-hV]at x3 ⊢
  have gV:V[Z.length]?=some (.lst (lk.map rwU)):=by rw[hV,ga0];rfl
  obtain⟨X,hX⟩:∃X,X=Y9++[O.lst (tms.map rwU)]:=⟨_,rfl⟩
  rw[<-hX]at x1 x2 x3 b9' c9
  simp only[rT]at x2
  rwa[rT,x1,c9,b9',x2,x3,gV,aF]
 ·have A:=W9.well
  refine((W9.trans (.app A _)).trans (.app ?_ _)).trans (.app ?_ _)
  ·obtain⟨z,h⟩:=A;exact⟨z,ah h⟩
  ·obtain⟨z,h⟩:=A;exact⟨z,ah (ah h)⟩
 ·have hm:[p.1,p.2]∈tms:=by rw[hpms];exact Qa.mpr ⟨p,hp,rfl⟩
  rw[htms]at hm
  obtain⟨q,hq,e⟩:=Qa.mp (gT hm)
  unfold CW at e
  injection e with e1 e2
  injection e2 with e3 _
  have:=tb9 q hq
  rw[e1,e3]at this
  exact this
 ·have h1:tms.length=pms.length:=by rw[hpms,QZ]
  have h2:tms.length<=ts.length:=by rw[htms];exact Qy mY (by rw[QZ];exact QJ _)
  rw[nl8]at lt9
  simp at lt9
  omega
 ·obtain⟨q1,_,q3⟩:=c5 r hr
  exact⟨fun x hx=>(mo x).mp (q1 x hx),q3⟩
 ·rw[hlk]at hr
  obtain⟨p,hp,rfl⟩:=Qa.mp (gT hr)
  obtain⟨p1,p2,p3,p4⟩:=ib p hp
  exact⟨p.1.1,p.1.2,p.2,rfl,p1,⟨p2,p3⟩,p4⟩
 ·have h2:lk.length<=ps.length:=by rw[hlk];exact Qy mY (by rw[QZ];exact QJ _)
  rw[nl6]at lp
  simp at lp
  omega
end
def qR(row:List Int)(v:Int):List Int:=if inR row v then row.drop (row.idxOf v+1)else row
def hdP(a:Int):List Int->List (Int×Int)
 |[]=>[]
 |l::_=>if l=a then[]else[(a,l)]
def qb(row:List Int)(a v:Int):List (Int×Int):=if inR row v then[(v,a)]else[]
def iM(row:List Int)(a v:Int):List (Int×Int):=qb row a v++hdP a (qR row v)
def hU(row:List Int):List (Int×Int):=row.zip (row.drop 1)
def mlk(wr:List (List Int))(r:List Int):List (Int×Int):=iM (wr.getD (r.getD 1 0).toNat []) (r.getD 0 0) (r.getD 2 0)
def mr(tms:List (Int×Int))(wr lk:List (List Int)):List (Int×Int):=tms++wr.flatMap hU++lk.flatMap (mlk wr)
theorem vL(a:Int)(l:List Int):(hdP a l).length<=1:=by
 cases l with
 |nil=>exact Qs _
 |cons x l=>
  show(if x=a then[]else[(a,x)]).length<=1
  split
  ·exact Qs _
  ·exact QJ _
theorem jI(row:List Int)(a v:Int):(iM row a v).length<=2:=by
 unfold iM qb
 rw[QQ]
 have:=vL a (qR row v)
 split<;>simp<;>omega
theorem mq(row:List Int):(hU row).length<=row.length:=by unfold hU;rw[List.length_zip];omega
structure Fzz(l:Nat)(Y Y':Sto):Prop where
 len:Y.length<=Y'.length
 keep:∀i,i<Y.length->i≠l->Y'[i]?=Y[i]?
section
variable{l:Nat}{Y Y' Y'':Sto}
theorem Fzz.refl:Fzz l Y Y:=⟨QJ _,fun _ _ _=>rfl⟩
theorem Fzz.trans(a:Fzz l Y Y')(b:Fzz l Y' Y''):Fzz l Y Y'':=⟨Qy a.len b.len,fun i hi n=>by rw[b.keep i (Qq hi a.len) n,a.keep i hi n]⟩
theorem Fzz.app(G:Sto):Fzz l Y (Y++G):=⟨by simp,fun i hi _=>QN hi⟩
theorem Fzz.set(o:O):Fzz l Y (Y.set l o):=⟨by simp,fun i _ n=>Qb n.symm⟩
theorem Fzz.get{i:Nat}{o:O}(a:Fzz l Y Y')(h:Y[i]?=some o)(n:i≠l):Y'[i]?=some o:=by rw[a.keep i (Q6.mp h).1 n];exact h
theorem Fzz.ext{Z:Sto}(a:Fzz l Y Y')(hl:Z.length<=l)(e:∃X,Y=Z++X):∃X,Y'=Z++X:=by
 obtain⟨X,e⟩:=e
 have zl:Z.length<=Y.length:=by rw[e];simp
 refine Ft (ls:=[]) (Qy zl a.len) fun i hi=>?_
 rw[a.keep i (by omega) (by omega),e,QN hi]
end
theorem nW{l b:Nat}{us vs:List U}{Y:Sto}(h1:Y[l]?=some (.lst us))(h2:Y[b]?=some (.lst vs))(hL:us.length+vs.length<=LIM):ej (.ref l) [.ref b] Y=some (.non,Y.set l (.lst (us++vs))):=by
 simp only[ej,h1,h2]
 rw[if_pos hL]
theorem ud{us:List U}{k l:Nat}{S:Sto}(hl:S[l]?=some (.lst us))(h:k<=us.length):fSl (.ref l) (some (k:Int)) none S=some (.ref S.length,S++[.lst (us.drop k)]):=by
 have e:HT.sIx us.length 0 (some (k:Int))=k:=by rw[HT.sIx_nat];omega
 simp only[fSl,hl,HT.sIx_none,e,lD]
 rw[Z4 (by simp)]
def wN:Fn:=fnU 5 3 bx
section
variable{S Y:Sto}{row:List Int}{a v:Int}{j3 j4:Nat}{x0 x2:Option U}
theorem ym{lt:List Int}{bl:List (Int×Int)}(h3:Y[j3]?=some (.lst (lt.map U.int)))(h4:Y[j4]?=some (.lst (bl.map pP)))(hb:bl.length<=900) :
  ∃Y',kG (lH (aA (cOp fGt (cCB eN (ab (ae 3) ao)) (cC (.int 0)))) (aA (cOp fNe (cOp fIx (ae 3) (cC (.int 0))) (ae 1)))) (eQ (cBM bY (ae 4) (ab (ig (ab (ae 1) (ab (cOp fIx (ae 3) (cC (.int 0))) ao))) ao))) et [x0,some (.int a),x2,some (.ref j3),some (.ref j4)] Y=some (.nx,[x0,some (.int a),x2,some (.ref j3),some (.ref j4)],Y')/\Y'[j4]?=some (.lst ((bl++hdP a lt).map pP))/\Fzz j4 Y Y':=by
 have lj:j4<Y.length:=(Q6.mp h4).1
 cases lt with
 |nil=>
  refine⟨Y,?_,by rw[hdP,QL];exact h4,.refl⟩
  have h3':Y[j3]?=some (.lst []):=h3
  have d0:decide ((0:Int)<((0:Nat):Int))=false:=by decide
  rwa[h3',d0]
 |cons x r=>
  obtain⟨lu,hlu⟩:∃lu,lu=(x::r).map U.int:=⟨_,rfl⟩
  have a0:atI lu 0=some (.int x):=by rw[hlu,Qx];exact at0
  have d0:decide ((0:Int)<(lu.length:Int))=true:=decide_eq_true (by rw[hlu];simp)
  rw[<-hlu]at h3
  by_cases e:x=a
  ·have de:decide (x=a)=true:=decide_eq_true e
   refine⟨Y,?_,by rw[hdP,if_pos e,QL];exact h4,.refl⟩
   rwa[h3,d0,a0,de]
  ·have de:decide (x=a)=false:=decide_eq_false e
   have hL:(bl.map pP).length<LIM:=by unfold LIM;rw[QZ];omega
   have em:bl.map pP++[.tup [.int a,.int x]]=(bl++hdP a (x::r)).map pP:=by rw[hdP,if_neg e,Qe];rfl
   refine⟨Y.set j4 (.lst ((bl++hdP a (x::r)).map pP)),?_,by rw[Qp,if_pos rfl,if_pos lj],.set _⟩
   rw[<-em]
   rwa[h3,d0,a0,de,h4,js hL]
theorem ET(hl:row.length<=900):∃G j,wN [.tup (row.map U.int),.int a,.int v] S=some (.ref j,S++G)/\(S++G)[j]?=some (.lst ((iM row a v).map pP))/\S.length<=j:=by
 unfold wN
 rw[j6]
 obtain⟨ru,hru⟩:∃ru,ru=row.map U.int:=⟨_,rfl⟩
 have e1:bM 3 (cCB hC (ab (ae 0) ao)) [some (.tup ru),some (.int a),some (.int v),none,none] S=some (.nx,[some (.tup ru),some (.int a),some (.int v),some (.ref S.length),none],S++[.lst ru]):=by rwa[]
 have l1:(S++[O.lst ru]).length=S.length+1:=by rw[QQ];rfl
 have e2:bM 4 (bZ ao) [some (.tup ru),some (.int a),some (.int v),some (.ref S.length),none] (S++[.lst ru])=some (.nx,[some (.tup ru),some (.int a),some (.int v),some (.ref S.length),some (.ref (S.length+1))],S++[.lst ru,.lst []]):=by
  rwa[l1]
 have hin:∀T:Sto,fIn false (.int v) (.tup ru) T=some (.bl (inR row v),T):=fun T=>by rw[hru];exact Fj
 have fin:∀(Y:Sto) (j3:Nat),(kG (aA (cOp (fIn false) (ae 2) (ae 0))) (bq (bM 3 (cSl (ae 3) (some (cOp bE (cBM aI (ae 3) (ab (ae 2) ao)) (cC (.int 1)))) none)) (eQ (cBM bY (ae 4) (ab (ig (ab (ae 2) (ab (ae 1) ao))) ao)))) et) [some (.tup ru),some (.int a),some (.int v),some (.ref S.length),some (.ref (S.length+1))] (S++[.lst ru,.lst []])=some (.nx,[some (.tup ru),some (.int a),some (.int v),some (.ref j3),some (.ref (S.length+1))],Y)->Y[j3]?=some (.lst ((qR row v).map U.int))->Y[S.length+1]?=some (.lst ((qb row a v).map pP))->(∃X,Y=S++X)->
   ∃G j,((bx [some (.tup ru),some (.int a),some (.int v),none,none] S).bind kFn)=some (.ref j,S++G)/\(S++G)[j]?=some (.lst ((iM row a v).map pP))/\S.length<=j:=fun Y j3 e3 g3 g4 ex=>by
  obtain⟨Y',e4,g5,f⟩:=ym (a:=a) (x0:=some (.tup ru)) (x2:=some (.int v)) g3 g4 (by unfold qb;split<;>simp)
  obtain⟨G,hG⟩:=f.ext (Z:=S) (by omega) ex
  refine⟨G,S.length+1,?_,by rw[<-hG];exact g5,by omega⟩
  unfold bx
  rw[cx e1,cx e2,cx e3,cx e4,hG]
  rfl
 rw[<-hru]
 cases hb:inR row v with
 |true=>
  have hm:v∈row:=of_decide_eq_true hb
  have ix:aI (.ref S.length) [.int v] (S++[.lst ru,.lst []])=some (.int (row.idxOf v:Nat),S++[.lst ru,.lst []]):=du (by rw[ga0,hru];rfl) hm hl
  have hk:row.idxOf v+1<=ru.length:=by rw[hru,QZ];exact List.idxOf_lt_length_of_mem hm
  have sl:=ud (S:=S++[.lst ru,.lst []]) (l:=S.length) (us:=ru) (k:=row.idxOf v+1) (by rw[ga0];rfl) hk
  have l2:(S++[O.lst ru,.lst []]).length=S.length+2:=by rw[QQ];rfl
  have el:ru.drop (row.idxOf v+1)=(qR row v).map U.int:=by unfold qR;rw[if_pos hb,hru,List.map_drop]
  have ec:(((row.idxOf v:Nat):Int)+1)=((row.idxOf v+1:Nat):Int):=by omega
  rw[l2,el]at sl
  obtain⟨lu,hlu⟩:∃lu,lu=(qR row v).map U.int:=⟨_,rfl⟩
  rw[<-hlu]at sl
  have cs:bM 3 (cSl (ae 3) (some (cOp bE (cBM aI (ae 3) (ab (ae 2) ao)) (cC (.int 1)))) none) [some (.tup ru),some (.int a),some (.int v),some (.ref S.length),some (.ref (S.length+1))] (S++[.lst ru,.lst []])=some (.nx,[some (.tup ru),some (.int a),some (.int v),some (.ref (S.length+2)),some (.ref (S.length+1))],S++[.lst ru,.lst [],.lst lu]):=by
   have hv:ae 3 [some (.tup ru),some (.int a),some (.int v),some (.ref S.length),some (.ref (S.length+1))] (S++[.lst ru,.lst []])=some (.ref S.length,S++[.lst ru,.lst []]):=rfl
   have hx:cOp bE (cBM aI (ae 3) (ab (ae 2) ao)) (cC (.int 1)) [some (.tup ru),some (.int a),some (.int v),some (.ref S.length),some (.ref (S.length+1))] (S++[.lst ru,.lst []])=some (.int ((row.idxOf v+1:Nat):Int),S++[.lst ru,.lst []]):=by
    rw[<-ec]
    rwa[ix]
   rw[fM]
   simp only[cSl,fC,hv,hx,Q0,sl,Q9]
   rfl
  refine fin (S++[.lst ru,.lst [.tup [.int v,.int a]],.lst lu]) (S.length+2) ?_ (by rw[ga,hlu];rfl) (by rw[ga];unfold qb;rw[if_pos hb];rfl) ⟨_,rfl⟩
  have g1:(S++[O.lst ru,.lst [],.lst lu])[S.length+1]?=some (.lst []):=by rw[ga];rfl
  have hL:([]:List U).length<LIM:=by unfold LIM;simp
  have tt:aA (cOp (fIn false) (ae 2) (ae 0)) [some (.tup ru),some (.int a),some (.int v),some (.ref S.length),some (.ref (S.length+1))] (S++[.lst ru,.lst []])=some (true,S++[.lst ru,.lst []]):=by
   have:=hin (S++[.lst ru,.lst []])
   rw[hb]at this
   rwa[this]
  rw[eI,tt,Q0,jq,cx cs]
  rwa[g1,js hL]
 |false=>
  refine fin (S++[.lst ru,.lst []]) S.length ?_ (by rw[ga0];unfold qR;rw[if_neg (by rw[hb];decide),hru];rfl) (by rw[ga];unfold qb;rw[if_neg (by rw[hb];decide)];rfl) ⟨_,rfl⟩
  have:=hin (S++[.lst ru,.lst []])
  rw[hb]at this
  rwa[this]
end
def kn:Fn:=fnU 4 1 (kd wN)
theorem xZ(row:List Int):jH (row.map U.int) ((row.drop 1).map U.int)=(hU row).map pP:=by
 unfold jH hU
 rw[List.zip_map,Qc]
 rfl
theorem Je(us:List U):lD us (some 1) none=us.drop 1:=by
 unfold lD
 have e:HT.sIx us.length 0 (some (1:Int))=min 1 us.length:=by
  have:=HT.sIx_nat (n:=us.length) (d:=0) (k:=1)
  rw[show((1:Nat):Int)=1 from rfl]at this
  exact this
 rw[e,HT.sIx_none]
 cases us with
 |nil=>rfl
 |cons u us=>
  have:min 1 (u::us).length=1:=by simp
  rw[this,Z4 (by simp)]
theorem jd:∀{wr:List (List Int)},(∀r∈wr,r.length<=30)->(wr.flatMap hU).length<=30*wr.length
 |[],_=>by simp
 |r::wr,h=>by
  rw[Zc,QQ,QB]
  have:=jd (wr:=wr) fun x hx=>h x (QU _ hx)
  have:=h r QK
  have:=mq r
  omega
theorem fe.row_len{many:Int}{tms:List (Int×Int)}{wr lk:List (List Int)}(T:fe many tms wr lk)(hm:many<=30){r:List Int}(hr:r∈wr):r.length<=30:=by
 obtain⟨h1,h2⟩:=T.hwr r hr
 have:=List.Nodup.length_le_of_subset h2 (l₂:=(Qj many.toNat).map fun i:Nat=>(i:Int)) fun b hb=>by
  obtain⟨z1,z2⟩:=h1 b hb
  exact Qa.mpr ⟨b.toNat,Qu.mpr (by omega),by omega⟩
 simp at this
 omega
theorem qG(wr:List (List Int)):∀lk:List (List Int),(lk.flatMap (mlk wr)).length<=2*lk.length
 |[]=>by simp
 |r::lk=>by
  rw[Zc,QQ,QB]
  have:=jI (wr.getD (r.getD 1 0).toNat []) (r.getD 0 0) (r.getD 2 0)
  have e:mlk wr r=iM (wr.getD (r.getD 1 0).toNat []) (r.getD 0 0) (r.getD 2 0):=rfl
  rw[e]
  have:=qG wr lk
  omega
theorem fe.all_len{many:Int}{tms:List (Int×Int)}{wr lk:List (List Int)}(T:fe many tms wr lk)(hm:many<=30):(mr tms wr lk).length<=1000:=by
 unfold mr
 have h1:=jd fun r hr=>T.row_len hm (r:=r) hr
 have h2:=qG wr lk
 have htl:=T.htl
 have hwl:=T.hwl
 have hll:=T.hll
 rw[QQ,QQ]
 omega
theorem Cq{row:List Int}{v:Int}(h:inR row v=true):v∈row:=by
 first|exact List.elem_iff.mp h|simpa [inR] using h
theorem yn{row:List Int}{a v:Int}{many:Int}(hr:∀x∈row,0<=x/\x<many)(ha:0<=a/\a<many):∀p∈iM row a v,(0<=p.1/\p.1<many)/\(0<=p.2/\p.2<many):=by
 intro p hp
 unfold iM at hp
 rcases Qt.mp hp with h|h
 ·unfold qb at h
  split at h
  ·rename_i hv
   rw[Qn.mp h]
   exact⟨hr v (Cq hv),ha⟩
  ·cases h
 ·have hs:∀x∈qR row v,x∈row:=fun x hx=>by
   unfold qR at hx
   split at hx
   ·exact List.mem_of_mem_drop hx
   ·exact hx
  generalize qR row v=l at h hs
  cases l with
  |nil=>cases h
  |cons x l=>
   have h':p∈(if x=a then[]else[(a,x)]):=h
   split at h'
   ·cases h'
   ·rw[Qn.mp h']
    exact⟨ha,hr x (hs x QK)⟩
theorem fe.all_in{many:Int}{tms:List (Int×Int)}{wr lk:List (List Int)}(T:fe many tms wr lk):∀p∈mr tms wr lk,(0<=p.1/\p.1<many)/\(0<=p.2/\p.2<many):=by
 intro p hp
 unfold mr at hp
 rcases Qt.mp hp with h|h
 ·rcases Qt.mp h with h|h
  ·have:=T.htm p h
   exact⟨this.1,this.2.1⟩
  ·obtain⟨r,hr,hp⟩:=List.mem_flatMap.mp h
   have z:=(T.hwr r hr).1
   unfold hU at hp
   obtain⟨p1,p2⟩:=p
   have q:=List.of_mem_zip hp
   exact⟨z _ q.1,z _ (List.mem_of_mem_drop q.2)⟩
 ·obtain⟨r,hr,hp⟩:=List.mem_flatMap.mp h
  obtain⟨a,b,v,rfl,h1,h2,h3⟩:=T.hlk r hr
  refine yn (fun x hx=>?_) h1 p hp
  have hb:b.toNat<wr.length:=by omega
  have e:wr.getD ([a,b,v].getD 1 0).toNat []=wr[b.toNat]:=by
   show wr.getD b.toNat []=_
   rw[QV,Q7 hb];rfl
  rw[e]at hx
  exact(T.hwr _ (Z8 hb)).1 x hx
def B49:List (Int×Int):=(Qj 7).flatMap fun i:Nat=>(Qj 7).map fun j:Nat=>((i:Int),(j:Int))
theorem fe.few{many:Int}{tms:List (Int×Int)}{wr lk:List (List Int)}(T:fe many tms wr lk)(hm:many<=7):∃B:List (Int×Int),B.length<64/\∀x∈mr tms wr lk,x∈B:=
 ⟨B49,by decide,fun x hx=>by
  obtain⟨h1,h2⟩:=T.all_in x hx
  refine List.mem_flatMap.mpr ⟨x.1.toNat,Qu.mpr (by omega),Qa.mpr ⟨x.2.toNat,Qu.mpr (by omega),?_⟩⟩
  obtain⟨a,b⟩:=x
  dsimp only at h1 h2 ⊢
  rw[Int.toNat_of_nonneg h1.1,Int.toNat_of_nonneg h2.1]⟩
section
variable{Y:Sto}{lf:Nat}{x0 r2 r3:Option U}{wr lk:List (List Int)}{many:Int}{tm:U}
theorem Ao{row:List Int}(hl:row.length<=900):hE (ae 2) (C2 (ae 2) (some (cC (.int 1))) none) [x0,some (.ref lf),some (.tup (row.map U.int)),r3] Y=some (.ref Y.length,Y++[.lst ((hU row).map pP)]):=by
 have hv:ae 2 [x0,some (.ref lf),some (.tup (row.map U.int)),r3] Y=some (.tup (row.map U.int),Y):=rfl
 have hs:C2 (ae 2) (some (cC (.int 1))) none [x0,some (.ref lf),some (.tup (row.map U.int)),r3] Y=some (.tup ((row.drop 1).map U.int),Y):=by
  have h1:cC (.int 1) [x0,some (.ref lf),some (.tup (row.map U.int)),r3] Y=some (.int 1,Y):=rfl
  simp only[C2,fC,hv,h1,Q0,Fu,Je,List.map_drop]
 unfold hE
 rw[hv,Q0]
 dsimp only
 rw[hs,Q0]
 simp only[sN,Q0]
 rw[if_pos (by rw[QZ];omega),xZ]
theorem nc:∀(rs:List (List Int)) (acc:List (Int×Int)) (Y:Sto) (r2:Option U),Y[lf]?=some (.lst (acc.map pP))->(∀r∈rs,r.length<=900)->acc.length+900*rs.length<=90000->
  ∃Y' r2',cU (fun _=>True) (gNm 2) (ki wN) (rs.map rwU) [x0,some (.ref lf),r2,r3] Y=some (.nx,[x0,some (.ref lf),r2',r3],Y')/\Y'[lf]?=some (.lst ((acc++rs.flatMap hU).map pP))/\Fzz lf Y Y'
 |[],acc,Y,r2,h,_,_=>⟨Y,r2,bV trivial,by rw[List.flatMap_nil,QL];exact h,.refl⟩
 |row::rs,acc,Y,r2,h,hr,hl=>by
  rw[QB]at hl
  have hr0:=hr row QK
  have ml:=mq row
  have lj:lf<Y.length:=(Q6.mp h).1
  have g1:(Y++[O.lst ((hU row).map pP)])[lf]?=some (.lst (acc.map pP)):=ah h
  have g2:(Y++[O.lst ((hU row).map pP)])[Y.length]?=some (.lst ((hU row).map pP)):=by rw[ga0];rfl
  have ex:=nW g1 g2 (by unfold LIM;rw[QZ,QZ];omega)
  rw[<-Qe]at ex
  obtain⟨Y',r2',ih,i1,i2⟩:=nc rs (acc++hU row) ((Y++[O.lst ((hU row).map pP)]).set lf (.lst ((acc++hU row).map pP))) (some (rwU row)) (by rw[Qp,if_pos rfl,if_pos (by rw[QQ];omega)]) (fun r h'=>hr r (QU _ h')) (by rw[QQ];omega)
  refine⟨Y',r2',(dg trivial rfl ?_).trans ih,by rw[Zc,<-Q9];exact i1,((Fzz.app _).trans (.set _)).trans i2⟩
  have z:=Ao (x0:=x0) (lf:=lf) (r3:=r3) (Y:=Y) hr0
  unfold ki
  show eQ _ [x0,some (.ref lf),some (.tup (row.map U.int)),r3] Y=_
  obtain⟨ru,hru⟩:∃ru,ru=row.map U.int:=⟨_,rfl⟩
  have er:some (rwU row)=some (U.tup ru):=by rw[hru];rfl
  rw[er]
  rw[<-hru]at z ⊢
  obtain⟨mu,hmu⟩:∃mu,mu=(hU row).map pP:=⟨_,rfl⟩
  rw[<-hmu]at z ex ⊢
  have a1:ab (hE (ae 2) (C2 (ae 2) (some (cC (.int 1))) none)) ao [x0,some (.ref lf),some (.tup ru),r3] Y=some ([.ref Y.length],Y++[.lst mu]):=by
   rw[aL,z,Q0];rfl
  have a0:ae 1 [x0,some (.ref lf),some (.tup ru),r3] Y=some (.ref lf,Y):=rfl
  rw[kK,AA,a0,Q0,oP,h,oO,a1,Q0,xg,ex]
  rfl
theorem qK(hw:∀r∈wr,r.length<=900):∀(ls:List (List Int)) (acc:List (Int×Int)) (Y:Sto) (r3:Option U),Y[lf]?=some (.lst (acc.map pP))->(∀r∈ls,∃a b v,r=[a,b,v]/\0<=b/\b<wr.length)->acc.length+2*ls.length<=90000->
  ∃Y' r3',cU (fun _=>True) (gNm 3) (kh wN) (ls.map rwU) [some (aF many tm wr lk),some (.ref lf),r2,r3] Y=some (.nx,[some (aF many tm wr lk),some (.ref lf),r2,r3'],Y')/\Y'[lf]?=some (.lst ((acc++ls.flatMap (mlk wr)).map pP))/\Fzz lf Y Y'
 |[],acc,Y,r3,h,_,_=>⟨Y,r3,bV trivial,by rw[List.flatMap_nil,QL];exact h,.refl⟩
 |look::ls,acc,Y,r3,h,hr,hl=>by
  rw[QB]at hl
  obtain⟨a,b,v,rfl,b0,b1⟩:=hr _ QK
  have hb:b.toNat<wr.length:=by omega
  have hrow:wr.getD b.toNat []∈wr:=by rw[QV,Q7 hb];exact Z8 hb
  obtain⟨G,j,e,g,lj⟩:=ET (S:=Y) (row:=wr.getD b.toNat []) (a:=a) (v:=v) (hw _ hrow)
  have em:mlk wr [a,b,v]=iM (wr.getD b.toNat []) a v:=rfl
  have ml:=jI (wr.getD b.toNat []) a v
  have lf1:lf<Y.length:=(Q6.mp h).1
  rw[<-em]at g ml
  have g1:(Y++G)[lf]?=some (.lst (acc.map pP)):=ah h
  have ex:=nW g1 g (by unfold LIM;rw[QZ,QZ];omega)
  rw[<-Qe]at ex
  obtain⟨Y',r3',ih,i1,i2⟩:=qK hw ls (acc++mlk wr [a,b,v]) ((Y++G).set lf (.lst ((acc++mlk wr [a,b,v]).map pP))) (some (rwU [a,b,v])) (by rw[Qp,if_pos rfl,if_pos (by rw[QQ];omega)]) (fun r h'=>hr r (QU _ h')) (by rw[QQ];omega)
  refine⟨Y',r3',(dg trivial rfl ?_).trans ih,by rw[Zc,<-Q9];exact i1,((Fzz.app _).trans (.set _)).trans i2⟩
  have ar:=wy (wr:=wr) b0 b1
  obtain⟨wu,hwu⟩:∃wu,wu=wr.map rwU:=⟨_,rfl⟩
  obtain⟨nu,hnu⟩:∃nu,nu=((acc++mlk wr [a,b,v]).map pP):=⟨_,rfl⟩
  obtain⟨lu,hlu⟩:∃lu,lu=lk.map rwU:=⟨_,rfl⟩
  obtain⟨ru,hru⟩:∃ru,ru=(wr.getD b.toNat []).map U.int:=⟨_,rfl⟩
  rw[<-hwu,<-hru]at ar
  rw[<-hru]at e
  rw[<-hnu]at ex ⊢
  unfold kh aF
  rw[<-hwu,<-hlu]
  show eQ _ [some (.tup [.int many,tm,.tup wu,.tup lu]),some (.ref lf),r2,some (.tup [.int a,.int b,.int v])] Y=some (.nx,[some (.tup [.int many,tm,.tup wu,.tup lu]),some (.ref lf),r2,some (.tup [.int a,.int b,.int v])],_)
  rwa[h,ar,e,ex]
theorem qF{tms:List (Int×Int)}{S:Sto}(T:fe many tms wr lk)(hm7:many<=7):∃G j,kn [aF many (.tup (tms.map pP)) wr lk] S=some (.ref j,S++G)/\(S++G)[j]?=some (.lst ((c7 (mr tms wr lk)).map pP))/\S.length<=j:=by
 have hm:many<=30:=Int.le_trans hm7 (by decide)
 unfold kn
 rw[CJ]
 have rl:∀r∈wr,r.length<=30:=fun r hr=>T.row_len hm hr
 have htl:=T.htl
 have hwl:=T.hwl
 have hll:=T.hll
 obtain⟨tu,htu⟩:∃tu,tu=tms.map pP:=⟨_,rfl⟩
 have s1:bM 1 (cCB hC (ab (cOp fIx (ae 0) (cC (.int 1))) ao)) [some (aF many (.tup tu) wr lk),none,none,none] S=some (.nx,[some (aF many (.tup tu) wr lk),some (.ref S.length),none,none],S++[.lst tu]):=by
  obtain⟨wu,hwu⟩:∃wu,wu=wr.map rwU:=⟨_,rfl⟩
  obtain⟨lu,hlu⟩:∃lu,lu=lk.map rwU:=⟨_,rfl⟩
  unfold aF
  rw[<-hwu,<-hlu]
  rwa[]
 obtain⟨Y1,q2,e1,g1,f1⟩:=nc (x0:=some (aF many (.tup tu) wr lk)) (lf:=S.length) (r3:=none) wr tms (S++[.lst tu]) none (by rw[ga0,htu];rfl) (fun r hr=>Qy (rl r hr) (by omega)) (by omega)
 obtain⟨Y2,q3,e2,g2,f2⟩:=qK (lf:=S.length) (many:=many) (tm:=.tup tu) (wr:=wr) (lk:=lk) (r2:=q2) (fun r hr=>Qy (rl r hr) (by omega)) lk (tms++wr.flatMap hU) Y1 none g1 (fun r hr=>by
  obtain⟨a,b,v,e,_,h2,_⟩:=T.hlk r hr
  exact⟨a,b,v,e,h2.1,h2.2⟩) (by have:=jd rl;rw[QQ];omega)
 have ml:=T.all_len hm
 have f:=f1.trans f2
 obtain⟨G,hG⟩:=f.ext (Z:=S) (QJ _) ⟨_,rfl⟩
 refine⟨G++[.lst ((c7 (mr tms wr lk)).map pP)],Y2.length,?_,?_,by rw[hG];simp⟩
 ·unfold kd
  rw[<-htu,cx s1]
  have i1:iTp (cOp fIx (ae 0) (cC (.int 2))) [some (aF many (.tup tu) wr lk),some (.ref S.length),none,none] (S++[.lst tu])=some (wr.map rwU,fun _=>True,S++[.lst tu]):=by
   obtain⟨wu,hwu⟩:∃wu,wu=wr.map rwU:=⟨_,rfl⟩
   obtain⟨lu,hlu⟩:∃lu,lu=lk.map rwU:=⟨_,rfl⟩
   unfold iTp aF
   rw[<-hwu,<-hlu]
   rwa[]
  have i2:iTp (cOp fIx (ae 0) (cC (.int 3))) [some (aF many (.tup tu) wr lk),some (.ref S.length),q2,none] Y1=some (lk.map rwU,fun _=>True,Y1):=by
   obtain⟨wu,hwu⟩:∃wu,wu=wr.map rwU:=⟨_,rfl⟩
   obtain⟨lu,hlu⟩:∃lu,lu=lk.map rwU:=⟨_,rfl⟩
   unfold iTp aF
   rw[<-hwu,<-hlu]
   rwa[]
  rw[cx (ρ':=[some (aF many (.tup tu) wr lk),some (.ref S.length),q2,none]) (S':=Y1) (by unfold iQ;rw[i1,Q0];exact e1)]
  rw[cx (ρ':=[some (aF many (.tup tu) wr lk),some (.ref S.length),q2,q3]) (S':=Y2) (by unfold iQ;rw[i2,Q0];exact e2)]
  have hv:ae 1 [some (aF many (.tup tu) wr lk),some (.ref S.length),q2,q3] Y2=some (.ref S.length,Y2):=rfl
  have hs:cM (ae 1) [some (aF many (.tup tu) wr lk),some (.ref S.length),q2,q3] Y2=some (.ref Y2.length,Y2++[.lst ((c7 (mr tms wr lk)).map pP)]):=by
   unfold cM
   rw[hv,Q0]
   simp only[g2,iH,Q0]
   have ml':(tms++wr.flatMap hU++lk.flatMap (mlk wr)).length<=1200:=Qy ml (by omega)
   rw[if_pos ⟨ml',T.few hm7⟩]
   rfl
  rw[kq,hs,hG,Q9]
  rfl
 ·rw[<-Q9,<-hG,ga0]
  rfl
end
def bW:Fn:=fnU 11 1 cW
theorem Cb(row:List Int):(Qj (row.length-1)).map (fun i=>pP (row.getD i 0,row.getD (i+1) 0))=(hU row).map pP:=by
 have:(Qj (row.length-1)).map (fun i=>(row.getD i 0,row.getD (i+1) 0))=hU row:=by
  unfold hU
  refine ZT fun i=>?_
  rw[Qv]
  by_cases h:i<row.length-1
  ·rw[List.getElem?_range h]
   symm
   show _=some (row.getD i 0,row.getD (i+1) 0)
   rw[Ql]
   refine⟨?_,?_⟩
   ·rw[Q7 (by omega),QV,Q7 (by omega)];rfl
   ·show _=some (row.getD (i+1) 0)
    rw[List.getElem?_drop,Nat.add_comm 1 i,Q7 (by omega),QV,Q7 (by omega)]
    rfl
  ·rw[Z9 (by simp;omega),Z9 (by simp;omega)]
   rfl
 rw[<-this,Qc]
 rfl
section
variable{Y:Sto}{lf:Nat}{x0 x1 x2 x3 x4 r6 r7 r8 r9 r10:Option U}{wr lk:List (List Int)}
theorem lA:∀(rs:List (List Int)) (acc:List (Int×Int)) (Y:Sto) (r6:Option U),Y[lf]?=some (.lst (acc.map pP))->(∀r∈rs,r.length<=900)->acc.length+900*rs.length<=90000->
  ∃Y' r6',cU (fun _=>True) (gNm 6) cR (rs.map rwU) [x0,x1,x2,x3,x4,some (.ref lf),r6,r7,r8,r9,r10] Y=some (.nx,[x0,x1,x2,x3,x4,some (.ref lf),r6',r7,r8,r9,r10],Y')/\Y'[lf]?=some (.lst ((acc++rs.flatMap hU).map pP))/\Fzz lf Y Y'
 |[],acc,Y,r6,h,_,_=>⟨Y,r6,bV trivial,by rw[List.flatMap_nil,QL];exact h,.refl⟩
 |row::rs,acc,Y,r6,h,hr,hl=>by
  rw[QB]at hl
  have hr0:=hr row QK
  have ml:=mq row
  have lj:lf<Y.length:=(Q6.mp h).1
  obtain⟨ru,hru⟩:∃ru,ru=row.map U.int:=⟨_,rfl⟩
  have lru:ru.length=row.length:=by rw[hru,QZ]
  have ix:∀k:Nat,k<row.length->atI ru (k:Int)=some (.int (row.getD k 0)):=fun k hk=>by
   have:=eB (xs:=ru) (j:=k) (v:=.int row[k]) (by rw[hru,Qv,Q7 hk];rfl)
   rw[this,QV,Q7 hk];rfl
  obtain⟨G,e1⟩:=mE (S:=Y) (ok:=fun _=>True) (gg:=gNm 0) (ce:=ig (ab (cOp fIx (ae 1) (ae 0)) (ab (cOp fIx (ae 1) (cOp bE (ae 0) (cC (.int 1)))) ao))) (f:=fun i:Nat=>U.int (0+(i:Nat))) (v:=fun i=>pP (row.getD i 0,row.getD (i+1) 0)) (Rel:=fun ρ=>∃r0,ρ=[r0,some (.tup ru)]) (fun _ _=>trivial) (Qj (row.length-1)) [] [] [none,some (.tup ru)] ⟨_,rfl⟩ (by simp;omega) (fun i hi ys G ρ hρ=>by
   obtain⟨r0,rfl⟩:=hρ
   have hi:=Qu.mp hi
   have a1:=ix i (by omega)
   have a2:=ix (i+1) (by omega)
   have ec:(((i+1:Nat)):Int)=0+(i:Int)+1:=by omega
   have e0:((i:Nat):Int)=0+(i:Int):=by omega
   rw[e0]at a1
   rw[ec]at a2
   refine⟨[some (.int (0+(i:Nat))),some (.tup ru)],[],⟨_,rfl⟩,rfl,?_⟩
   rwa[a1,a2,QL,pP])
  rw[Qd,Cb]at e1
  obtain⟨mu,hmu⟩:∃mu,mu=(hU row).map pP:=⟨_,rfl⟩
  have g1:(Y++(O.lst mu::([]++G)))[lf]?=some (.lst (acc.map pP)):=ah h
  have g2:(Y++(O.lst mu::([]++G)))[Y.length]?=some (.lst mu):=by rw[ga0];rfl
  have ex:=nW g1 g2 (by unfold LIM;rw[QZ,hmu,QZ];omega)
  have em:acc.map pP++mu=(acc++hU row).map pP:=by rw[hmu,Qe]
  rw[em]at ex
  rw[<-hmu]at e1
  obtain⟨Y',r6',ih,i1,i2⟩:=lA rs (acc++hU row) ((Y++(O.lst mu::([]++G))).set lf (.lst ((acc++hU row).map pP))) (some (rwU row)) (by rw[Qp,if_pos rfl,if_pos (by rw[QQ];omega)]) (fun r h'=>hr r (QU _ h')) (by rw[QQ];omega)
  refine⟨Y',r6',(dg trivial rfl ?_).trans ih,by rw[Zc,<-Q9];exact i1,((Fzz.app _).trans (.set _)).trans i2⟩
  have er:some (rwU row)=some (U.tup ru):=by rw[hru];rfl
  show cR [x0,x1,x2,x3,x4,some (.ref lf),some (rwU row),r7,r8,r9,r10] Y=_
  rw[er]
  have hn:((row.length:Int)-1).toNat=row.length-1:=by omega
  have hb:-(2^62)<=((row.length:Int)-1)/\((row.length:Int)-1)<2^62:=by omega
  have hi:aK (ab (cOp sD (cCB eN (ab (ae 6) ao)) (cC (.int 1))) ao) [x0,x1,x2,x3,x4,some (.ref lf),some (.tup ru),r7,r8,r9,r10] Y=some ((Qj (row.length-1)).map fun i:Nat=>U.int (0+(i:Nat)),fun _=>True,Y):=by
   have hc:ab (cOp sD (cCB eN (ab (ae 6) ao)) (cC (.int 1))) ao [x0,x1,x2,x3,x4,some (.ref lf),some (.tup ru),r7,r8,r9,r10] Y=some ([.int ((row.length:Int)-1)],Y):=by
    rw[<-lru]
    rwa[]
   unfold aK
   rw[hc,Q0]
   simp only[hb,and_self,if_true]
   unfold aX
   rw[hn]
  have hc:bR (aK (ab (cOp sD (cCB eN (ab (ae 6) ao)) (cC (.int 1))) ao)) (gNm 0) (ig (ab (cOp fIx (ae 1) (ae 0)) (ab (cOp fIx (ae 1) (cOp bE (ae 0) (cC (.int 1)))) ao))) 1 [6] [x0,x1,x2,x3,x4,some (.ref lf),some (.tup ru),r7,r8,r9,r10] Y=some (.ref Y.length,Y++(O.lst mu::([]++G))):=by
   unfold bR
   rw[hi,Q0]
   have hrho:gJ 1 [6] [x0,x1,x2,x3,x4,some (.ref lf),some (.tup ru),r7,r8,r9,r10]=[none,some (.tup ru)]:=rfl
   dsimp only
   rw[hrho,e1,Q0]
  have a1:ab (bR (aK (ab (cOp sD (cCB eN (ab (ae 6) ao)) (cC (.int 1))) ao)) (gNm 0) (ig (ab (cOp fIx (ae 1) (ae 0)) (ab (cOp fIx (ae 1) (cOp bE (ae 0) (cC (.int 1)))) ao))) 1 [6]) ao [x0,x1,x2,x3,x4,some (.ref lf),some (.tup ru),r7,r8,r9,r10] Y=some ([.ref Y.length],Y++(O.lst mu::([]++G))):=by
   rw[aL,hc,Q0];rfl
  have a0:ae 5 [x0,x1,x2,x3,x4,some (.ref lf),some (.tup ru),r7,r8,r9,r10] Y=some (.ref lf,Y):=rfl
  unfold cR
  rw[kK,AA,a0,Q0,oP,h,oO,a1,Q0,xg,ex]
  rfl
theorem vK(a:Int)(l:List Int):(((l.take 1).filter fun c=>!decide (c=a)).map fun c=>(a,c))=hdP a l:=by
 cases l with
 |nil=>rfl
 |cons x r=>
  rw[List.take_succ_cons,List.take_zero]
  unfold hdP
  by_cases e:x=a
  ·simp[e]
  ·simp[e]
theorem yu{acc:List (Int×Int)}{a b v:Int}(hw:∀r∈wr,(∀x∈r,0<=x)/\r.length<=900)(h:Y[lf]?=some (.lst (acc.map pP)))(b0:0<=b)(b1:b<wr.length)(hv:v=-1\/v∈wr.getD b.toNat [])(hl:acc.length<=80000) :
  ∃Y' r10',cQ [x0,x1,x2,some (.tup (wr.map rwU)),x4,some (.ref lf),r6,some (.int a),some (.int b),some (.int v),r10] Y=some (.nx,[x0,x1,x2,some (.tup (wr.map rwU)),x4,some (.ref lf),r6,some (.int a),some (.int b),some (.int v),r10'],Y')/\Y'[lf]?=some (.lst ((acc++iM (wr.getD b.toNat []) a v).map pP))/\Fzz lf Y Y':=by
 have hb:b.toNat<wr.length:=by omega
 have hrow:wr.getD b.toNat []∈wr:=by rw[QV,Q7 hb];exact Z8 hb
 obtain⟨w1,w2⟩:=hw _ hrow
 obtain⟨row,hrow'⟩:∃row,row=wr.getD b.toNat []:=⟨_,rfl⟩
 have ar:=wy (wr:=wr) b0 b1
 rw[<-hrow']at w1 w2 hv ar ⊢
 have lj:lf<Y.length:=(Q6.mp h).1
 have ge:inR row v=decide (0<=v):=by
  unfold inR
  rcases hv with e|e
  ·rw[e,decide_eq_false (fun z=>by have:=w1 _ z;omega)];rfl
  ·rw[decide_eq_true e,decide_eq_true (w1 v e)]
 obtain⟨wu,hwu⟩:∃wu,wu=wr.map rwU:=⟨_,rfl⟩
 obtain⟨ru,hru⟩:∃ru,ru=row.map U.int:=⟨_,rfl⟩
 rw[<-hwu,<-hru]at ar
 rw[<-hwu]
 obtain⟨Y1,e1,g1,f1⟩:∃Y1,kG (aA (cOp fGe (ae 9) (cC (.int 0)))) (eQ (cBM bY (ae 5) (ab (ig (ab (ae 9) (ab (ae 7) ao))) ao))) et [x0,x1,x2,some (.tup wu),x4,some (.ref lf),r6,some (.int a),some (.int b),some (.int v),r10] Y=some (.nx,[x0,x1,x2,some (.tup wu),x4,some (.ref lf),r6,some (.int a),some (.int b),some (.int v),r10],Y1)/\Y1[lf]?=some (.lst ((acc++qb row a v).map pP))/\Fzz lf Y Y1:=by
  unfold qb
  cases hd:decide (0<=v)with
  |true=>
   have hL:(acc.map pP).length<LIM:=by unfold LIM;rw[QZ];omega
   have em:acc.map pP++[.tup [.int v,.int a]]=(acc++[(v,a)]).map pP:=by rw[Qe];rfl
   refine⟨Y.set lf (.lst ((acc++[(v,a)]).map pP)),?_,by rw[ge,hd,if_pos rfl,Qp,if_pos rfl,if_pos lj],.set _⟩
   rw[<-em]
   rwa[hd,h,js hL]
  |false=>
   refine⟨Y,?_,by rw[ge,hd,if_neg (by decide),QL];exact h,.refl⟩
   rwa[hd]
 have s2:bM 10 (cCB hC (ab (cOp fIx (ae 3) (ae 8)) ao)) [x0,x1,x2,some (.tup wu),x4,some (.ref lf),r6,some (.int a),some (.int b),some (.int v),r10] Y1=some (.nx,[x0,x1,x2,some (.tup wu),x4,some (.ref lf),r6,some (.int a),some (.int b),some (.int v),some (.ref Y1.length)],Y1++[.lst ru]):=by
  rwa[ar]
 have l1:lf<Y1.length:=Qq lj f1.len
 obtain⟨G3,j3,e3,g3⟩:∃G3 j3,kG (aA (cOp fGe (ae 9) (cC (.int 0)))) (bM 10 (cSl (ae 10) (some (cOp bE (cBM aI (ae 10) (ab (ae 9) ao)) (cC (.int 1)))) none)) et [x0,x1,x2,some (.tup wu),x4,some (.ref lf),r6,some (.int a),some (.int b),some (.int v),some (.ref Y1.length)] (Y1++[.lst ru])=some (.nx,[x0,x1,x2,some (.tup wu),x4,some (.ref lf),r6,some (.int a),some (.int b),some (.int v),some (.ref j3)],Y1++G3)/\(Y1++G3)[j3]?=some (.lst ((qR row v).map U.int)):=by
  unfold qR
  cases hd:decide (0<=v)with
  |true=>
   have hm:v∈row:=of_decide_eq_true (by have:=ge;rw[hd]at this;exact this)
   have ix:aI (.ref Y1.length) [.int v] (Y1++[.lst ru])=some (.int (row.idxOf v:Nat),Y1++[.lst ru]):=du (by rw[ga0,hru];rfl) hm w2
   have hk:row.idxOf v+1<=ru.length:=by rw[hru,QZ];exact List.idxOf_lt_length_of_mem hm
   have sl:=ud (S:=Y1++[.lst ru]) (l:=Y1.length) (us:=ru) (k:=row.idxOf v+1) (by rw[ga0];rfl) hk
   have l2:(Y1++[O.lst ru]).length=Y1.length+1:=by rw[QQ];rfl
   have ec:(((row.idxOf v:Nat):Int)+1)=((row.idxOf v+1:Nat):Int):=by omega
   rw[l2]at sl
   refine⟨[.lst ru,.lst (ru.drop (row.idxOf v+1))],Y1.length+1,?_,by rw[ga,ge,hd,if_pos rfl,hru,List.map_drop];rfl⟩
   have tt:aA (cOp fGe (ae 9) (cC (.int 0))) [x0,x1,x2,some (.tup wu),x4,some (.ref lf),r6,some (.int a),some (.int b),some (.int v),some (.ref Y1.length)] (Y1++[.lst ru])=some (true,Y1++[.lst ru]):=by rwa[hd]
   have hv':ae 10 [x0,x1,x2,some (.tup wu),x4,some (.ref lf),r6,some (.int a),some (.int b),some (.int v),some (.ref Y1.length)] (Y1++[.lst ru])=some (.ref Y1.length,Y1++[.lst ru]):=rfl
   have hx:cOp bE (cBM aI (ae 10) (ab (ae 9) ao)) (cC (.int 1)) [x0,x1,x2,some (.tup wu),x4,some (.ref lf),r6,some (.int a),some (.int b),some (.int v),some (.ref Y1.length)] (Y1++[.lst ru])=some (.int ((row.idxOf v+1:Nat):Int),Y1++[.lst ru]):=by
    rw[<-ec]
    rwa[ix]
   rw[eI,tt,Q0,jq,fM]
   simp only[cSl,fC,hv',hx,Q0,sl,Q9]
   rfl
  |false=>
   refine⟨[.lst ru],Y1.length,?_,by rw[ga0,ge,hd,if_neg (by decide),hru];rfl⟩
   rwa[hd]
 obtain⟨lt,hlt⟩:∃lt,lt=qR row v:=⟨_,rfl⟩
 rw[<-hlt]at g3
 have llt:lt.length<=900:=by
  rw[hlt]
  unfold qR
  split
  ·rw[ZE];omega
  ·exact w2
 obtain⟨Y3,hY3⟩:∃Y3,Y3=Y1++G3:=⟨_,rfl⟩
 rw[<-hY3]at e3 g3
 have s1:fSl (.ref j3) none (some 1) Y3=some (.ref Y3.length,Y3++[.lst ((lt.take 1).map U.int)]):=by
  have e:HT.sIx (lt.map U.int).length (lt.map U.int).length (some (1:Int))=min 1 (lt.map U.int).length:=by
   have:=HT.sIx_nat (n:=(lt.map U.int).length) (d:=(lt.map U.int).length) (k:=1)
   rw[show((1:Nat):Int)=1 from rfl]at this
   exact this
  simp only[fSl,g3,HT.sIx_none,e,lD,List.drop_zero,Nat.sub_zero]
  rw[List.map_take]
  congr 5
  cases lt<;>simp
 obtain⟨G4,e4⟩:=bQ (S:=Y3++[.lst ((lt.take 1).map U.int)]) (ok:=fun S=>S[Y3.length]?=some (.lst ((lt.take 1).map U.int))) (gg:=gNm 0) (ct:=aA (cOp fNe (ae 0) (ae 1))) (ce:=ig (ab (ae 1) (ab (ae 0) ao))) (f:=U.int) (p:=fun c=>!decide (c=a)) (v:=fun c=>pP (a,c)) (Rel:=fun ρ=>∃r0,ρ=[r0,some (.int a)]) (fun ys G=>by rw[Q9,ga0];rfl) (lt.take 1) [] [] [none,some (.int a)] ⟨_,rfl⟩ (by simp;omega) (fun c hc ys G ρ hρ=>by
  obtain⟨r0,rfl⟩:=hρ
  refine⟨[some (.int c),some (.int a)],[],⟨_,rfl⟩,rfl,?_,fun _=>⟨[],?_⟩⟩
  ·rwa[QL]
  ·rwa[QL,pP])
 have eh:(((lt.take 1).filter fun c=>!decide (c=a)).map fun c=>pP (a,c))=(hdP a lt).map pP:=by rw[<-vK a lt,Qc];rfl
 rw[Qd,eh]at e4
 obtain⟨Y4,hY4⟩:∃Y4,Y4=Y3++[O.lst ((lt.take 1).map U.int)]++(O.lst ((hdP a lt).map pP)::([]++G4)):=⟨_,rfl⟩
 rw[<-hY4]at e4
 have ln:(Y3++[O.lst ((lt.take 1).map U.int)]).length=Y3.length+1:=by rw[QQ];rfl
 have hc:aG (iTp (cSl (ae 10) none (some (cC (.int 1))))) (gNm 0) (aA (cOp fNe (ae 0) (ae 1))) (ig (ab (ae 1) (ab (ae 0) ao))) 1 [7] [x0,x1,x2,some (.tup wu),x4,some (.ref lf),r6,some (.int a),some (.int b),some (.int v),some (.ref j3)] Y3=some (.ref (Y3.length+1),Y4):=by
  have hv':ae 10 [x0,x1,x2,some (.tup wu),x4,some (.ref lf),r6,some (.int a),some (.int b),some (.int v),some (.ref j3)] Y3=some (.ref j3,Y3):=rfl
  have h1:cC (.int 1) [x0,x1,x2,some (.tup wu),x4,some (.ref lf),r6,some (.int a),some (.int b),some (.int v),some (.ref j3)] Y3=some (.int 1,Y3):=rfl
  have hs:cSl (ae 10) none (some (cC (.int 1))) [x0,x1,x2,some (.tup wu),x4,some (.ref lf),r6,some (.int a),some (.int b),some (.int v),some (.ref j3)] Y3=some (.ref Y3.length,Y3++[.lst ((lt.take 1).map U.int)]):=by
   simp only[cSl,fC,hv',h1,Q0,s1]
  have gz:(Y3++[O.lst ((lt.take 1).map U.int)])[Y3.length]?=some (.lst ((lt.take 1).map U.int)):=by rw[ga0];rfl
  unfold aG iTp
  rw[hs,Q0]
  simp only[gz,Q0]
  have hrho:gJ 1 [7] [x0,x1,x2,some (.tup wu),x4,some (.ref lf),r6,some (.int a),some (.int b),some (.int v),some (.ref j3)]=[none,some (.int a)]:=rfl
  rw[hrho,e4,Q0,ln]
 have g4:Y4[Y3.length+1]?=some (.lst ((hdP a lt).map pP)):=by rw[hY4,<-ln,ga0];rfl
 have gf3:Y3[lf]?=some (.lst ((acc++qb row a v).map pP)):=by rw[hY3];exact ah g1
 have gf4:Y4[lf]?=some (.lst ((acc++qb row a v).map pP)):=by rw[hY4];exact ah (ah gf3)
 have lh:=vL a lt
 have ls:(qb row a v).length<=1:=by unfold qb;split<;>simp
 have ex:=nW gf4 g4 (by unfold LIM;rw[QZ,QZ,QQ];omega)
 rw[<-Qe,Q9]at ex
 have eM:qb row a v++hdP a lt=iM row a v:=by rw[hlt];rfl
 rw[eM]at ex
 have l4:lf<Y4.length:=(Q6.mp gf4).1
 refine⟨Y4.set lf (.lst ((acc++iM row a v).map pP)),some (.ref j3),?_,by rw[Qp,if_pos rfl,if_pos l4],?_⟩
 ·unfold cQ
  rw[cx e1,cx s2,cx e3]
  have a1:ab (aG (iTp (cSl (ae 10) none (some (cC (.int 1))))) (gNm 0) (aA (cOp fNe (ae 0) (ae 1))) (ig (ab (ae 1) (ab (ae 0) ao))) 1 [7]) ao [x0,x1,x2,some (.tup wu),x4,some (.ref lf),r6,some (.int a),some (.int b),some (.int v),some (.ref j3)] Y3=some ([.ref (Y3.length+1)],Y4):=by
   rw[aL,hc,Q0];rfl
  have a0:ae 5 [x0,x1,x2,some (.tup wu),x4,some (.ref lf),r6,some (.int a),some (.int b),some (.int v),some (.ref j3)] Y3=some (.ref lf,Y3):=rfl
  rw[kK,AA,a0,Q0,oP,gf3,oO,a1,Q0,xg,ex]
  rfl
 ·refine f1.trans (Fzz.trans ?_ (.set _))
  rw[hY4,hY3]
  exact((Fzz.app G3).trans (.app _)).trans (.app _)
theorem nI(hw:∀r∈wr,(∀x∈r,0<=x)/\r.length<=900):∀(ls:List (List Int)) (acc:List (Int×Int)) (Y:Sto) (r7 r8 r9 r10:Option U),Y[lf]?=some (.lst (acc.map pP))->(∀r∈ls,∃a b v,r=[a,b,v]/\(0<=b/\b<wr.length)/\(v=-1\/v∈wr.getD b.toNat []))->acc.length+2*ls.length<=80000->
  ∃Y' r7' r8' r9' r10',cU (fun _=>True) (gTp [7,8,9]) cQ (ls.map rwU) [x0,x1,x2,some (.tup (wr.map rwU)),x4,some (.ref lf),r6,r7,r8,r9,r10] Y=some (.nx,[x0,x1,x2,some (.tup (wr.map rwU)),x4,some (.ref lf),r6,r7',r8',r9',r10'],Y')/\Y'[lf]?=some (.lst ((acc++ls.flatMap (mlk wr)).map pP))/\Fzz lf Y Y'
 |[],acc,Y,r7,r8,r9,r10,h,_,_=>⟨Y,r7,r8,r9,r10,bV trivial,by rw[List.flatMap_nil,QL];exact h,.refl⟩
 |look::ls,acc,Y,r7,r8,r9,r10,h,hr,hl=>by
  rw[QB]at hl
  obtain⟨a,b,v,rfl,⟨b0,b1⟩,hv⟩:=hr _ QK
  obtain⟨Y1,q10,e1,g1,f1⟩:=yu (x0:=x0) (x1:=x1) (x2:=x2) (x4:=x4) (r6:=r6) (r10:=r10) (a:=a) hw h b0 b1 hv (by omega)
  have em:mlk wr [a,b,v]=iM (wr.getD b.toNat []) a v:=rfl
  have ml:=jI (wr.getD b.toNat []) a v
  rw[<-em]at g1 ml
  obtain⟨Y',s7,s8,s9,s10,ih,i1,i2⟩:=nI hw ls (acc++mlk wr [a,b,v]) Y1 (some (.int a)) (some (.int b)) (some (.int v)) q10 g1 (fun r h'=>hr r (QU _ h')) (by rw[QQ];omega)
  exact⟨Y',s7,s8,s9,s10,(dg trivial rfl e1).trans ih,by rw[Zc,<-Q9];exact i1,f1.trans i2⟩
theorem jK{many:Int}{tms:List (Int×Int)}{S:Sto}(T:fe many tms wr lk)(hm7:many<=7):∃G j,bW [aF many (.tup (tms.map pP)) wr lk] S=some (.ref j,S++G)/\(S++G)[j]?=some (.lst ((c7 (mr tms wr lk)).map pP))/\S.length<=j:=by
 have hm:many<=30:=Int.le_trans hm7 (by decide)
 unfold bW
 rw[nX]
 have rl:∀r∈wr,r.length<=30:=fun r hr=>T.row_len hm hr
 have htl:=T.htl
 have hwl:=T.hwl
 have hll:=T.hll
 obtain⟨tu,htu⟩:∃tu,tu=tms.map pP:=⟨_,rfl⟩
 obtain⟨wu,hwu⟩:∃wu,wu=wr.map rwU:=⟨_,rfl⟩
 obtain⟨lu,hlu⟩:∃lu,lu=lk.map rwU:=⟨_,rfl⟩
 have s0:C3 (ae 0) (gTp [1,2,3,4]) [some (aF many (.tup tu) wr lk),none,none,none,none,none,none,none,none,none,none] S=some (.nx,[some (aF many (.tup tu) wr lk),some (.int many),some (.tup tu),some (.tup wu),some (.tup lu),none,none,none,none,none,none],S):=by
  unfold aF
  rw[<-hwu,<-hlu]
  rwa[]
 have s1:bM 5 (cCB hC (ab (ae 2) ao)) [some (aF many (.tup tu) wr lk),some (.int many),some (.tup tu),some (.tup wu),some (.tup lu),none,none,none,none,none,none] S=some (.nx,[some (aF many (.tup tu) wr lk),some (.int many),some (.tup tu),some (.tup wu),some (.tup lu),some (.ref S.length),none,none,none,none,none],S++[.lst tu]):=by
  rwa[]
 obtain⟨Y1,q6,e1,g1,f1⟩:=lA (x0:=some (aF many (.tup tu) wr lk)) (x1:=some (.int many)) (x2:=some (.tup tu)) (x3:=some (.tup wu)) (x4:=some (.tup lu)) (lf:=S.length) (r7:=none) (r8:=none) (r9:=none) (r10:=none) wr tms (S++[.lst tu]) none (by rw[ga0,htu];rfl) (fun r hr=>Qy (rl r hr) (by omega)) (by omega)
 obtain⟨Y2,q7,q8,q9,q10,e2,g2,f2⟩:=nI (x0:=some (aF many (.tup tu) wr lk)) (x1:=some (.int many)) (x2:=some (.tup tu)) (x4:=some (.tup lu)) (lf:=S.length) (wr:=wr) (r6:=q6) (fun r hr=>⟨fun x hx=>((T.hwr r hr).1 x hx).1,Qy (rl r hr) (by omega)⟩) lk (tms++wr.flatMap hU) Y1 none none none none g1 (fun r hr=>by
  obtain⟨a,b,v,e,_,h2,h3⟩:=T.hlk r hr
  exact⟨a,b,v,e,h2,h3.imp id fun z=>z.1⟩) (by have:=jd rl;rw[QQ];omega)
 have ml:=T.all_len hm
 have f:=f1.trans f2
 obtain⟨G,hG⟩:=f.ext (Z:=S) (QJ _) ⟨_,rfl⟩
 refine⟨G++[.lst ((c7 (mr tms wr lk)).map pP)],Y2.length,?_,?_,by rw[hG];simp⟩
 ·unfold cW
  rw[<-htu,cx s0,cx s1]
  have i1:iTp (ae 3) [some (aF many (.tup tu) wr lk),some (.int many),some (.tup tu),some (.tup wu),some (.tup lu),some (.ref S.length),none,none,none,none,none] (S++[.lst tu])=some (wu,fun _=>True,S++[.lst tu]):=by
   unfold iTp
   rwa[]
  have i2:iTp (ae 4) [some (aF many (.tup tu) wr lk),some (.int many),some (.tup tu),some (.tup wu),some (.tup lu),some (.ref S.length),q6,none,none,none,none] Y1=some (lu,fun _=>True,Y1):=by
   unfold iTp
   rwa[]
  rw[<-hwu]at e1 e2
  rw[<-hlu]at e2
  rw[cx (ρ':=[some (aF many (.tup tu) wr lk),some (.int many),some (.tup tu),some (.tup wu),some (.tup lu),some (.ref S.length),q6,none,none,none,none]) (S':=Y1) (by unfold iQ;rw[i1,Q0];exact e1)]
  rw[cx (ρ':=[some (aF many (.tup tu) wr lk),some (.int many),some (.tup tu),some (.tup wu),some (.tup lu),some (.ref S.length),q6,q7,q8,q9,q10]) (S':=Y2) (by unfold iQ;rw[i2,Q0];exact e2)]
  have hv:ae 5 [some (aF many (.tup tu) wr lk),some (.int many),some (.tup tu),some (.tup wu),some (.tup lu),some (.ref S.length),q6,q7,q8,q9,q10] Y2=some (.ref S.length,Y2):=rfl
  have hs:cM (ae 5) [some (aF many (.tup tu) wr lk),some (.int many),some (.tup tu),some (.tup wu),some (.tup lu),some (.ref S.length),q6,q7,q8,q9,q10] Y2=some (.ref Y2.length,Y2++[.lst ((c7 (mr tms wr lk)).map pP)]):=by
   unfold cM
   rw[hv,Q0]
   simp only[g2,iH,Q0]
   have ml':(tms++wr.flatMap hU++lk.flatMap (mlk wr)).length<=1200:=Qy ml (by omega)
   rw[if_pos ⟨ml',T.few hm7⟩]
   rfl
  rw[kq,hs,hG,Q9]
  rfl
 ·rw[<-Q9,<-hG,ga0]
  rfl
end
theorem lT{ps:List (Int×Int)}:(c7 ps).length<=ps.length:=by
 unfold c7
 split
 ·rename_i hx
  obtain⟨h1,h2⟩:=hx.choose_spec
  exact List.Nodup.length_le_of_subset (h1.imp fun{a b} h e=>by subst e;rw[mw]at h;cases h) fun p hp=>(h2 p).mp hp
 ·exact Qs _
theorem D6{ca cb:CS}{ρ ρ':Rho}{S S':Sto}{u:U}(h:ca ρ S=some (.rt u,ρ',S')):bq ca cb ρ S=some (.rt u,ρ',S'):=by rw[rJ,h];rfl
def gA(many:Int):List Int:=(Qj many.toNat).map fun i:Nat=>(i:Int)
def EJ(M:List (Int×Int))(xs:List Int):Bool:=M.all fun p=>decide ((xs.idxOf p.1:Int)<(xs.idxOf p.2:Int))
def vD(many:Int)(M:List (Int×Int))(xs:List Int):Bool:=if dW xs=gA many then EJ M xs else false
theorem CM(us:List U)(k:Nat):lD us (some (k:Int)) none=us.drop k:=by
 unfold lD
 rw[HT.sIx_nat,HT.sIx_none]
 by_cases h:k<=us.length
 ·rw[Nat.min_eq_left h,Z4 (by simp)]
 ·rw[Nat.min_eq_right (by omega),List.drop_eq_nil_of_le (by omega),List.drop_eq_nil_of_le (by omega),List.take_nil]
theorem HN(us:List U)(k:Nat):lD us none (some (k:Int))=us.take k:=by
 unfold lD
 rw[HT.sIx_nat,HT.sIx_none,List.drop_zero,Nat.sub_zero]
 by_cases h:k<=us.length
 ·rw[Nat.min_eq_left h]
 ·rw[Nat.min_eq_right (by omega),Z4 (by omega),Z4 (by omega)]
theorem slF{xs:List Int}{l:Nat}{S:Sto}(k:Nat)(hl:S[l]?=some (.lst (xs.map U.int))):fSl (.ref l) (some (k:Int)) none S=some (.ref S.length,S++[.lst ((xs.drop k).map U.int)]):=by
 simp only[fSl,hl,CM,List.map_drop]
theorem slT{xs:List Int}{l:Nat}{S:Sto}(k:Nat)(hl:S[l]?=some (.lst (xs.map U.int))):fSl (.ref l) none (some (k:Int)) S=some (.ref S.length,S++[.lst ((xs.take k).map U.int)]):=by
 simp only[fSl,hl,HN,List.map_take]
section
variable{S:Sto}{lx:Nat}{xs:List Int}{M:List (Int×Int)}{f:Fn}{tu:U}{many:Int}
theorem nC(hf:∃G j,f [tu] S=some (.ref j,S++G)/\(S++G)[j]?=some (.lst (M.map pP))/\S.length<=j)(hx:S[lx]?=some (.lst (xs.map U.int)))(hl:xs.length<=900)(hin:∀p∈M,p.1∈xs/\p.2∈xs)(hM:M.length<=1000) :
  ∃G,cCB jW (ab (bR (iTp (cCB f (ab (ae 0) ao))) (gTp [0,1]) (cOp fLt (cBM aI (ae 2) (ab (ae 0) ao)) (cBM aI (ae 2) (ab (ae 1) ao))) 2 [1]) ao) [some tu,some (.ref lx)] S=some (.bl (EJ M xs),S++G):=by
 obtain⟨G1,j,e1,g1,lj⟩:=hf
 obtain⟨Y,hY⟩:∃Y,Y=S++G1:=⟨_,rfl⟩
 rw[<-hY]at e1 g1
 have hx1:Y[lx]?=some (.lst (xs.map U.int)):=by rw[hY];exact ah hx
 obtain⟨G2,e2⟩:=mE (S:=Y) (ok:=fun S=>S[j]?=some (.lst (M.map pP))) (gg:=gTp [0,1]) (ce:=cOp fLt (cBM aI (ae 2) (ab (ae 0) ao)) (cBM aI (ae 2) (ab (ae 1) ao))) (f:=pP) (v:=fun p=>.bl (decide ((xs.idxOf p.1:Int)<(xs.idxOf p.2:Int)))) (Rel:=fun ρ=>∃r0 r1,ρ=[r0,r1,some (.ref lx)]) (fun ys G=>ah g1) M [] [] [none,none,some (.ref lx)] ⟨_,_,rfl⟩ (by simp;omega) (fun p hp ys G ρ hρ=>by
  obtain⟨r0,r1,rfl⟩:=hρ
  refine⟨[some (.int p.1),some (.int p.2),some (.ref lx)],[],⟨_,_,rfl⟩,rfl,?_⟩
  have i1:=du (S:=Y++(.lst ys::G)) (ah hx1) (hin p hp).1 hl
  have i2:=du (S:=Y++(.lst ys::G)) (ah hx1) (hin p hp).2 hl
  have gx:(Y++(.lst ys::G))[lx]?=some (.lst (xs.map U.int)):=ah hx1
  rwa[gx,i1,i2,QL])
 simp only[Qd]at e2
 obtain⟨Y2,hY2⟩:∃Y2,Y2=Y++(.lst (M.map fun p=>U.bl (decide ((xs.idxOf p.1:Int)<(xs.idxOf p.2:Int))))::G2):=⟨_,rfl⟩
 rw[<-hY2]at e2
 have hcomp:bR (iTp (cCB f (ab (ae 0) ao))) (gTp [0,1]) (cOp fLt (cBM aI (ae 2) (ab (ae 0) ao)) (cBM aI (ae 2) (ab (ae 1) ao))) 2 [1] [some tu,some (.ref lx)] S=some (.ref Y.length,Y2):=by
  have hi:cCB f (ab (ae 0) ao) [some tu,some (.ref lx)] S=some (.ref j,Y):=by rwa[e1]
  have hr:gJ 2 [1] [some tu,some (.ref lx)]=[none,none,some (.ref lx)]:=rfl
  unfold bR iTp
  rw[hi,Q0]
  simp only[g1,Q0,hr,e2]
 have hall:jW [.ref Y.length] Y2=some (.bl (EJ M xs),Y2):=by
  have em:(M.map fun p=>U.bl (decide ((xs.idxOf p.1:Int)<(xs.idxOf p.2:Int))))=(M.map fun p=>decide ((xs.idxOf p.1:Int)<(xs.idxOf p.2:Int))).map U.bl:=by rw[Qc];rfl
  have ea:(M.map fun p=>decide ((xs.idxOf p.1:Int)<(xs.idxOf p.2:Int))).all id=EJ M xs:=by unfold EJ;rw[List.all_map];rfl
  rw[hY2]
  simp only[jW,ga0,Z2,em,ji,Q0,ea]
 refine⟨G1++(.lst (M.map fun p=>U.bl (decide ((xs.idxOf p.1:Int)<(xs.idxOf p.2:Int))))::G2),?_⟩
 rw[<-Q9,<-hY,<-hY2]
 have a1:ab (bR (iTp (cCB f (ab (ae 0) ao))) (gTp [0,1]) (cOp fLt (cBM aI (ae 2) (ab (ae 0) ao)) (cBM aI (ae 2) (ab (ae 1) ao))) 2 [1]) ao [some tu,some (.ref lx)] S=some ([.ref Y.length],Y2):=by
  rw[aL,hcomp,Q0];rfl
 rw[oN,a1,Q0,mO,hall]
theorem qe{wr lk:List (List Int)}{tm:U}(hx:S[lx]?=some (.lst (xs.map U.int)))(hl:xs.length<64)(m0:0<=many)(m1:many<=1000) :
  aA (cOp (fJ true) (cCB fA (ab (ae 1) ao)) (ck (ab (cOp fIx (ae 0) (cC (.int 0))) ao))) [some (aF many tm wr lk),some (.ref lx)] S=some (!decide (dW xs=gA many),S++[.lst ((dW xs).map U.int),.lst ((gA many).map U.int)]):=by
 obtain⟨wu,hwu⟩:∃wu,wu=wr.map rwU:=⟨_,rfl⟩
 obtain⟨lu,hlu⟩:∃lu,lu=lk.map rwU:=⟨_,rfl⟩
 unfold aF
 rw[<-hwu,<-hlu]
 have hs:fA [.ref lx] S=some (.ref S.length,S++[.lst ((dW xs).map U.int)]):=by
  simp only[fA,hx,fv,Q0,if_pos hl]
 have er:aX 0 many.toNat=(gA many).map U.int:=by unfold gA;rw[dH,Qc]
 have hr:∀ρ (Y:Sto),cOp fIx (ae 0) (cC (.int 0)) ρ Y=some (.int many,Y)->ck (ab (cOp fIx (ae 0) (cC (.int 0))) ao) ρ Y=some (.ref Y.length,Y++[.lst ((gA many).map U.int)]):=fun ρ Y h=>by
  have ha:ab (cOp fIx (ae 0) (cC (.int 0))) ao ρ Y=some ([.int many],Y):=by rw[aL,h,Q0];rfl
  unfold ck
  rw[ha,Q0]
  simp only[m0,m1,and_self,if_true,er]
 obtain⟨Y1,hY1⟩:∃Y1,Y1=S++[.lst ((dW xs).map U.int)]:=⟨_,rfl⟩
 have hr':=hr [some (.tup [.int many,tm,.tup wu,.tup lu]),some (.ref lx)] Y1 (by rwa[])
 have he:fJ true (.ref S.length) (.ref Y1.length) (Y1++[.lst ((gA many).map U.int)])=some (.bl (!decide (dW xs=gA many)),Y1++[.lst ((gA many).map U.int)]):=
  qY true (ah (by rw[hY1,ga0];rfl)) (by rw[ga0];rfl)
 rw[<-hY1]at hs
 have ha:cCB fA (ab (ae 1) ao) [some (.tup [.int many,tm,.tup wu,.tup lu]),some (.ref lx)] S=some (.ref S.length,Y1):=by rwa[hs]
 have e2:S++[.lst ((dW xs).map U.int),.lst ((gA many).map U.int)]=Y1++[.lst ((gA many).map U.int)]:=by rw[hY1,Q9];rfl
 rw[e2,dD,iA,ha,Q0,cI,hr',Q0,cH,he]
 rfl
theorem fF{xs:List Int}(h:dW xs=gA many){a:Int}(h0:0<=a)(h1:a<many):a∈xs:=by
 have:a∈dW xs:=by
  rw[h];unfold gA
  exact Qa.mpr ⟨a.toNat,Qu.mpr (by omega),by omega⟩
 exact(kL xs).mem_iff.mp this
theorem mR{ρ:Rho}(hv:ae 1 ρ S=some (.ref lx,S))(hr:gJ 1 [] ρ=[none])(hx:S[lx]?=some (.lst (xs.map U.int)))(hl:xs.length<=900):∃G,aA (cCB jW (ab (bR (iTp (ae 1)) (gNm 0) (cCB fD (ab (ae 0) ao)) 1 []) ao)) ρ S=some (true,S++G):=by
 have e1:=eE (S:=S) (ok:=fun S=>S[lx]?=some (.lst (xs.map U.int))) (gg:=gNm 0) (ce:=cCB fD (ab (ae 0) ao)) (f:=U.int) (v:=fun _=>.bl true) (Rel:=fun ρ=>∃r0,ρ=[r0]) (fun ys G=>ah hx) xs [] [] [none] ⟨_,rfl⟩ (by simp;omega) (fun a ha ys G ρ hρ=>by
  obtain⟨r0,rfl⟩:=hρ
  refine⟨[some (.int a)],⟨_,rfl⟩,rfl,?_⟩
  rwa[xv])
 simp only[Qd]at e1
 refine⟨[.lst (xs.map fun _=>U.bl true)],?_⟩
 have hcomp:bR (iTp (ae 1)) (gNm 0) (cCB fD (ab (ae 0) ao)) 1 [] ρ S=some (.ref S.length,S++[.lst (xs.map fun _=>U.bl true)]):=by
  unfold bR iTp
  rw[hv,Q0]
  simp only[hx,Q0,hr,e1]
 have hall:jW [.ref S.length] (S++[.lst (xs.map fun _=>U.bl true)])=some (.bl true,S++[.lst (xs.map fun _=>U.bl true)]):=by
  have em:(xs.map fun _=>U.bl true)=(xs.map fun _=>true).map U.bl:=by rw[Qc];rfl
  have ea:((xs.map fun _=>true).all id)=true:=by simp
  simp only[jW,ga0,Z2,em,ji,Q0,ea]
 have a1:ab (bR (iTp (ae 1)) (gNm 0) (cCB fD (ab (ae 0) ao)) 1 []) ao ρ S=some ([.ref S.length],S++[.lst (xs.map fun _=>U.bl true)]):=by
  rw[aL,hcomp,Q0];rfl
 rw[dD,oN,a1,Q0,mO,hall]
 rfl
end
def wK:Fn:=fnU 2 2 (bK fD kn)
def lJ:Fn:=fnU 2 2 (bL bW)
section
variable{S:Sto}{lx:Nat}{xs:List Int}{tms:List (Int×Int)}{wr lk:List (List Int)}{many:Int}
theorem qf{ps:List (Int×Int)}{p:Int×Int}(h:p∈c7 ps):p∈ps:=u7.mp h
theorem Cc(T:fe many tms wr lk)(m0:1<=many)(hm:many<=7)(hx:S[lx]?=some (.lst (xs.map U.int)))(hl:xs.length<64) :
  ∃G,lJ [aF many (.tup (tms.map pP)) wr lk,.ref lx] S=some (.bl (vD many (c7 (mr tms wr lk)) xs),S++G):=by
 unfold lJ
 rw[j8]
 obtain⟨Y,hY⟩:∃Y,Y=S++[O.lst ((dW xs).map U.int),.lst ((gA many).map U.int)]:=⟨_,rfl⟩
 have t1:=qe (tm:=.tup (tms.map pP)) (wr:=wr) (lk:=lk) (many:=many) hx hl (by omega) (by omega)
 rw[<-hY]at t1
 have hx1:Y[lx]?=some (.lst (xs.map U.int)):=by rw[hY];exact ah hx
 unfold bL vD
 by_cases hs:dW xs=gA many
 ·obtain⟨G,e2⟩:=nC (f:=bW) (M:=c7 (mr tms wr lk)) (S:=Y) (tu:=aF many (.tup (tms.map pP)) wr lk) (jK T hm) hx1 (by omega) (fun p hp=>by
   obtain⟨h1,h2⟩:=T.all_in p (qf hp)
   exact⟨fF hs h1.1 h1.2,fF hs h2.1 h2.2⟩) (by
   have:=T.all_len (Int.le_trans hm (by decide))
   exact Qy lT this)
  rw[decide_eq_true hs]at t1
  rw[if_pos hs]
  refine⟨[O.lst ((dW xs).map U.int),.lst ((gA many).map U.int)]++G,?_⟩
  rw[<-Q9,<-hY]
  rw[cx (ρ':=[some (aF many (.tup (tms.map pP)) wr lk),some (.ref lx)]) (S':=Y) (by rw[eI,t1];rfl)]
  rw[kq,e2]
  rfl
 ·rw[decide_eq_false hs]at t1
  rw[if_neg hs]
  refine⟨[O.lst ((dW xs).map U.int),.lst ((gA many).map U.int)],?_⟩
  rw[<-hY]
  rw[D6 (ρ':=[some (aF many (.tup (tms.map pP)) wr lk),some (.ref lx)]) (S':=Y) (u:=.bl false) (by rw[eI,t1];rfl)]
  rfl
end
section
variable{S:Sto}{lx:Nat}{xs:List Int}{tms:List (Int×Int)}{wr lk:List (List Int)}{many:Int}
theorem Ba(T:fe many tms wr lk)(m0:1<=many)(hm:many<=7)(hx:S[lx]?=some (.lst (xs.map U.int)))(hl:xs.length<64) :
  ∃G,wK [aF many (.tup (tms.map pP)) wr lk,.ref lx] S=some (.bl (vD many (c7 (mr tms wr lk)) xs),S++G):=by
 unfold wK
 rw[j7]
 obtain⟨G0,w0⟩:=mR (ρ:=[some (aF many (.tup (tms.map pP)) wr lk),some (.ref lx)]) (S:=S) rfl rfl hx (by omega)
 obtain⟨Z,hZ⟩:∃Z,Z=S++G0:=⟨_,rfl⟩
 rw[<-hZ]at w0
 have hxz:Z[lx]?=some (.lst (xs.map U.int)):=by rw[hZ];exact ah hx
 obtain⟨Y,hY⟩:∃Y,Y=Z++[O.lst ((dW xs).map U.int),.lst ((gA many).map U.int)]:=⟨_,rfl⟩
 have t1:=qe (tm:=.tup (tms.map pP)) (wr:=wr) (lk:=lk) (many:=many) hxz hl (by omega) (by omega)
 rw[<-hY]at t1
 have hx1:Y[lx]?=some (.lst (xs.map U.int)):=by rw[hY];exact ah hxz
 unfold bK vD
 by_cases hs:dW xs=gA many
 ·obtain⟨G,e2⟩:=nC (f:=kn) (M:=c7 (mr tms wr lk)) (S:=Y) (tu:=aF many (.tup (tms.map pP)) wr lk) (qF T hm) hx1 (by omega) (fun p hp=>by
   obtain⟨h1,h2⟩:=T.all_in p (qf hp)
   exact⟨fF hs h1.1 h1.2,fF hs h2.1 h2.2⟩) (by
   have:=T.all_len (Int.le_trans hm (by decide))
   exact Qy lT this)
  rw[decide_eq_true hs]at t1
  rw[if_pos hs]
  refine⟨G0++([O.lst ((dW xs).map U.int),.lst ((gA many).map U.int)]++G),?_⟩
  rw[<-Q9,<-hZ,<-Q9,<-hY]
  rw[cx (ρ':=[some (aF many (.tup (tms.map pP)) wr lk),some (.ref lx)]) (S':=Y) (by rw[eI,As,rK,w0,Q0,kJ,Q0,Zr,oJ,t1];rfl)]
  rw[kq,e2]
  rfl
 ·rw[decide_eq_false hs]at t1
  rw[if_neg hs]
  refine⟨G0++[O.lst ((dW xs).map U.int),.lst ((gA many).map U.int)],?_⟩
  rw[<-Q9,<-hZ,<-hY]
  rw[D6 (ρ':=[some (aF many (.tup (tms.map pP)) wr lk),some (.ref lx)]) (S':=Y) (u:=.bl false) (by rw[eI,As,rK,w0,Q0,kJ,Q0,Zr,oJ,t1];rfl)]
  rfl
def pDt(p:Int×Int):PyData:=.tuple [.int p.1,.int p.2]
theorem zy(p:Int×Int):(pDt p).canLay0=true:=by simp[pDt,PyData.canLay0,PyData.canLayAll0]
theorem uT:∀ts:List (Int×Int),PyData.canLayAll0 (ts.map pDt)=true
 |[]=>by simp[PyData.canLayAll0]
 |p::ts=>by rw[Qx];unfold PyData.canLayAll0;rw[zy,uT ts];rfl
theorem zA{S:Sto}:∀ts:List (Int×Int),DtL S (ts.map pP) (ts.map pDt)
 |[]=>.nil
 |p::ts=>.cons (.tup (.cons (.int _) (.cons (.int _) .nil))) (zA ts)
theorem BW(p q:Int×Int):(pDt q).eqv (pDt p)=decide (q=p):=by
 have e:(pDt q).eqv (pDt p)=((q.1 == p.1)&&((q.2 == p.2)&&true)):=rfl
 rw[e,ZY]
 obtain⟨a,b⟩:=p
 obtain⟨c,d⟩:=q
 simp
theorem zN{l:Nat}{ts:List (Int×Int)}{p:Int×Int}(h:S[l]?=some (.lst (ts.map pP))):pf false (pP p) (.ref l) S=some (.bl (decide (p∈ts)),S):=by
 have e:((ts.map pDt).any fun z=>z.eqv (pDt p))=decide (p∈ts):=by
  rw[ZY,List.any_map,List.any_eq_true]
  simp only[Function.comp,BW,decide_eq_true_eq]
  exact⟨fun⟨x,h1,h2⟩=>h2▸h1,fun h=>⟨p,h,rfl⟩⟩
 have:=CC (x:=pP p) (y:=.ref l) (S:=S) (b:=(ts.map pDt).any fun z=>z.eqv (pDt p)) false ⟨pDt p,ts.map pDt,.tup (.cons (.int _) (.cons (.int _) .nil)),.inl (.lst h (zA ts)),⟨zy p,by simp[pDt,PyData.depth,PyData.depthAll]⟩,uT ts,rfl⟩
 rw[e]at this
 exact this
def cyc(xs:List Int):List (Int×Int):=xs.zip (xs.drop 1++xs.take 1)
def F7(xs:List Int):List (Int×Int):=(Qj xs.length).map fun k=>(xs.getD (if k=0 then xs.length-1 else k-1) 0,xs.getD k 0)
theorem yT(xs:List Int)(p:Int×Int):p∈cyc xs↔p∈F7 xs:=by
 have len:(xs.drop 1++xs.take 1).length=xs.length:=by
  rw[QQ,ZE,Zx];omega
 have gd:∀i (h:i<xs.length),xs.getD i 0=xs[i]:=fun i h=>by rw[QV,Q7 h];rfl
 have g2:∀i (h:i<xs.length),(xs.drop 1++xs.take 1)[i]?=some (xs.getD (if i+1=xs.length then 0 else i+1) 0):=fun i h=>by
  by_cases hi:i+1=xs.length
  ·rw[if_pos hi,Qz (by rw[ZE];omega),ZE,show i-(xs.length-1)=0 by omega,List.getElem?_take_of_lt (by omega),Q7 (by omega),gd 0 (by omega)]
  ·rw[if_neg hi,QN (by rw[ZE];omega),List.getElem?_drop,show 1+i=i+1 by omega,Q7 (by omega),gd (i+1) (by omega)]
 constructor
 ·intro h
  obtain⟨i,hi⟩:=List.mem_iff_getElem?.mp h
  unfold cyc at hi
  rw[Ql]at hi
  obtain⟨h1,h2⟩:=hi
  have lt:=(Q6.mp h1).1
  rw[g2 i lt]at h2
  have e1:p.1=xs.getD i 0:=by rw[gd i lt];rw[Q7 lt]at h1;exact(Option.some.inj h1).symm
  have e2:=Option.some.inj h2
  unfold F7
  refine Qa.mpr ⟨if i+1=xs.length then 0 else i+1,Qu.mpr (by split<;>omega),?_⟩
  obtain⟨a,b⟩:=p
  refine Prod.ext ?_ e2
  show xs.getD _ 0=a
  rw[show a=xs.getD i 0 from e1]
  congr 1
  split<;>split<;>omega
 ·intro h
  unfold F7 at h
  obtain⟨k,hk,rfl⟩:=Qa.mp h
  have hk':=Qu.mp hk
  refine List.mem_iff_getElem?.mpr ⟨if k=0 then xs.length-1 else k-1,?_⟩
  have lt:(if k=0 then xs.length-1 else k-1)<xs.length:=by split<;>omega
  unfold cyc
  rw[Ql]
  refine⟨?_,?_⟩
  ·rw[Q7 lt,<-gd _ lt]
  ·rw[g2 _ lt]
   congr 2
   split<;>split<;>omega
theorem y8{α:Type}{l l':List α}(f:α->Bool)(h:∀p,p∈l↔p∈l'):l.all f=l'.all f:=by
 rw[ZY,List.all_eq_true,List.all_eq_true]
 exact⟨fun z x hx=>z x ((h x).mpr hx),fun z x hx=>z x ((h x).mp hx)⟩
def FL(xs:List Int):Bool:=decide ((xs.length:Int)<2)||!decide ((yS xs:Int)=(xs.length:Int))
def nN(M:List (Int×Int))(xs:List Int):Bool:=if FL xs then false else(cyc xs).all fun p=>decide (p∈M)
theorem qp{ρ:Rho}(hv:ae 1 ρ S=some (.ref lx,S))(hx:S[lx]?=some (.lst (xs.map U.int)))(hl:xs.length<=900) :
  cOr (aA (cOp fLt (cCB eN (ab (ae 1) ao)) (cC (.int 2)))) (aA (cOp fNe (gj (ae 1)) (cCB eN (ab (ae 1) ao)))) ρ S=some (FL xs,S):=by
 have hlen:cCB eN (ab (ae 1) ao) ρ S=some (.int (xs.length:Int),S):=by
  rw[oN,aL,hv,Q0]
  show eN [.ref lx] S=_
  rw[sX,hx,sY,QZ]
 have hset:gj (ae 1) ρ S=some (.int (yS xs:Nat),S):=by
  unfold gj
  rw[hv,Q0]
  simp only[hx,fv,Q0]
  rw[if_pos (by omega)]
 have h1:aA (cOp fLt (cCB eN (ab (ae 1) ao)) (cC (.int 2))) ρ S=some (decide ((xs.length:Int)<2),S):=by
  rw[dD,iA,hlen,Q0,cI,x_c,Q0,cH,FW,Q0,jn]
 have h2:aA (cOp fNe (gj (ae 1)) (cCB eN (ab (ae 1) ao))) ρ S=some (!decide ((yS xs:Int)=(xs.length:Int)),S):=by
  rw[dD,iA,hset,Q0,cI,hlen,Q0,cH,Ds,Q0,jn]
 unfold FL
 rw[As,h1,Q0]
 by_cases hb:(xs.length:Int)<2
 ·rw[decide_eq_true hb,Dq];rfl
 ·rw[decide_eq_false hb,oJ,h2,Bool.false_or]
end
theorem FJ{cr:CA}{ρ:Rho}{S S1:Sto}{n:Int}{g:CG}{ce:CE}{k:Nat}{caps:List Nat}(h:cr ρ S=some ([.int n],S1))(n0:0<=n)(n1:n<=1000):bR (aK cr) g ce k caps ρ S=(fO (fun _=>True) g ce S1.length (aX 0 n.toNat) (gJ k caps ρ) (S1++[.lst []])).bind fun S'=>some (.ref S1.length,S'):=by
 have hb:-(2^62)<=n/\n<2^62:=by omega
 unfold bR aK
 rw[h,Q0]
 simp only[hb,and_self,if_true,Q0]
theorem yX{cr:CA}{ρ:Rho}{S S1:Sto}{n:Int}{g:CG}{ct:CT}{ce:CE}{k:Nat}{caps:List Nat}(h:cr ρ S=some ([.int n],S1))(n0:0<=n)(n1:n<=1000):aG (aK cr) g ct ce k caps ρ S=(bB (fun _=>True) g ct ce S1.length (aX 0 n.toNat) (gJ k caps ρ) (S1++[.lst []])).bind fun S'=>some (.ref S1.length,S'):=by
 have hb:-(2^62)<=n/\n<2^62:=by omega
 unfold aG aK
 rw[h,Q0]
 simp only[hb,and_self,if_true,Q0]
theorem Ab{xs:List Int}{k:Nat}(h:k<xs.length):atI (xs.map U.int) (k:Int)=some (.int (xs.getD k 0)):=by
 refine eB ?_
 rw[Qv,Q7 h,QV,Q7 h]
 rfl
theorem FN{xs:List Int}(h:xs≠[]):atI (xs.map U.int) (-1)=some (.int (xs.getD (xs.length-1) 0)):=by
 have hl:0<xs.length:=List.length_pos_iff.mpr h
 unfold atI ixN
 rw[if_neg (by omega),if_pos (by rw[QZ];omega),Q0,QZ,show((-1:Int)+(xs.length:Int)).toNat=xs.length-1 by omega]
 rw[Qv,Q7 (by omega),QV,Q7 (by omega)]
 rfl
def wM:Fn:=fnU 3 2 (fB fD kn)
def iR:Fn:=fnU 3 2 (bT bW)
section
variable{S:Sto}{lx lm:Nat}{xs:List Int}{M:List (Int×Int)}{tms:List (Int×Int)}{wr lk:List (List Int)}{many:Int}{tu:U}
theorem HQ{bs:List Bool}{S:Sto}{l:Nat}(h:S[l]?=some (.lst (bs.map U.bl))):jW [.ref l] S=some (.bl (bs.all id),S):=by
 simp only[jW,h,ji,Q0]
theorem Br(hx:S[lx]?=some (.lst (xs.map U.int)))(hm:S[lm]?=some (.lst (M.map pP)))(hl:xs.length<=900) :
  ∃G,cCB jW (ab (bR (C1 (ae 1) (cOp bE (cSl (ae 1) (some (cC (.int 1))) none) (cSl (ae 1) none (some (cC (.int 1)))))) (gNm 0) (cOp (pf false) (ae 0) (ae 1)) 1 [2]) ao) [some tu,some (.ref lx),some (.ref lm)] S=some (.bl ((cyc xs).all fun p=>decide (p∈M)),S++G):=by
 obtain⟨ρ,hρ⟩:∃ρ:Rho,ρ=[some tu,some (.ref lx),some (.ref lm)]:=⟨_,rfl⟩
 have hv:∀Y,ae 1 ρ Y=some (.ref lx,Y):=fun Y=>by rw[hρ];rfl
 have hr:gJ 1 [2] ρ=[none,some (.ref lm)]:=by rw[hρ];rfl
 obtain⟨Y1,hY1⟩:∃Y1,Y1=S++[O.lst ((xs.drop 1).map U.int)]:=⟨_,rfl⟩
 obtain⟨Y2,hY2⟩:∃Y2,Y2=Y1++[O.lst ((xs.take 1).map U.int)]:=⟨_,rfl⟩
 obtain⟨Y3,hY3⟩:∃Y3,Y3=Y2++[O.lst ((xs.drop 1++xs.take 1).map U.int)]:=⟨_,rfl⟩
 have hx1:Y1[lx]?=some (.lst (xs.map U.int)):=by rw[hY1];exact ah hx
 have hx3:Y3[lx]?=some (.lst (xs.map U.int)):=by rw[hY3];exact ah (by rw[hY2];exact ah hx1)
 have hm3:Y3[lm]?=some (.lst (M.map pP)):=by rw[hY3,hY2,hY1];exact ah (ah (ah hm))
 have s1:fSl (.ref lx) (some 1) none S=some (.ref S.length,Y1):=by rw[hY1];exact slF 1 hx
 have s2:fSl (.ref lx) none (some 1) Y1=some (.ref Y1.length,Y2):=by rw[hY2];exact slT 1 hx1
 have s3:bE (.ref S.length) (.ref Y1.length) Y2=some (.ref Y2.length,Y3):=by
  have g1:Y2[S.length]?=some (.lst ((xs.drop 1).map U.int)):=by rw[hY2];exact ah (by rw[hY1,ga0];rfl)
  have g2:Y2[Y1.length]?=some (.lst ((xs.take 1).map U.int)):=by rw[hY2,ga0];rfl
  have ec:bE (.ref S.length) (.ref Y1.length) Y2=dh (.ref S.length) (.ref Y1.length) Y2:=by simp only[bE]
  rw[ec]
  simp only[dh,g1,g2]
  rw[if_pos (by unfold LIM;simp;omega),hY3,Qe]
 have hcat:cOp bE (cSl (ae 1) (some (cC (.int 1))) none) (cSl (ae 1) none (some (cC (.int 1)))) ρ S=some (.ref Y2.length,Y3):=by
  have h1:∀Y,cC (.int 1) ρ Y=some (.int 1,Y):=fun Y=>rfl
  have a1:cSl (ae 1) (some (cC (.int 1))) none ρ S=some (.ref S.length,Y1):=by
   simp only[cSl,fC,hv,h1,Q0,s1]
  have a2:cSl (ae 1) none (some (cC (.int 1))) ρ Y1=some (.ref Y1.length,Y2):=by
   simp only[cSl,fC,hv,h1,Q0,s2]
  rw[iA,a1,Q0,cI,a2,Q0,cH,s3]
 have hp:jH (xs.map U.int) ((xs.drop 1++xs.take 1).map U.int)=(cyc xs).map pP:=by
  unfold jH cyc
  rw[List.zip_map,Qc]
  rfl
 have g3:Y3[Y2.length]?=some (.lst ((xs.drop 1++xs.take 1).map U.int)):=by rw[hY3,ga0];rfl
 have lc:(cyc xs).length<=900:=by unfold cyc;rw[List.length_zip];omega
 have e2:=eE (S:=Y3) (ok:=fun S=>S[lx]?=some (.lst (xs.map U.int))/\S[Y2.length]?=some (.lst ((xs.drop 1++xs.take 1).map U.int))) (gg:=gNm 0) (ce:=cOp (pf false) (ae 0) (ae 1)) (f:=pP) (v:=fun p=>.bl (decide (p∈M))) (Rel:=fun ρ=>∃r0,ρ=[r0,some (.ref lm)]) (fun ys G=>⟨ah hx3,ah g3⟩) (cyc xs) [] [] [none,some (.ref lm)] ⟨_,rfl⟩ (by simp;omega) (fun p hp ys G ρ hρ=>by
  obtain⟨r0,rfl⟩:=hρ
  refine⟨[some (pP p),some (.ref lm)],⟨_,rfl⟩,rfl,?_⟩
  have i1:=zN (S:=Y3++(.lst ys::G)) (p:=p) (ah hm3)
  rwa[i1])
 simp only[Qd]at e2
 obtain⟨Y4,hY4⟩:∃Y4,Y4=Y3++[O.lst ((cyc xs).map fun p=>U.bl (decide (p∈M)))]:=⟨_,rfl⟩
 rw[<-hY4]at e2
 have hcomp:bR (C1 (ae 1) (cOp bE (cSl (ae 1) (some (cC (.int 1))) none) (cSl (ae 1) none (some (cC (.int 1)))))) (gNm 0) (cOp (pf false) (ae 0) (ae 1)) 1 [2] ρ S=some (.ref Y3.length,Y4):=by
  unfold bR C1
  rw[hv,Q0]
  dsimp only
  rw[hcat,Q0]
  simp only[sN,hx3,g3,Q0,hp,hr,e2]
 have hall:jW [.ref Y3.length] Y4=some (.bl ((cyc xs).all fun p=>decide (p∈M)),Y4):=by
  have h:=HQ (bs:=(cyc xs).map fun p=>decide (p∈M)) (S:=Y4) (l:=Y3.length) (by rw[hY4,ga0,Qc];rfl)
  rw[h,List.all_map]
  rfl
 refine⟨[O.lst ((xs.drop 1).map U.int)]++([O.lst ((xs.take 1).map U.int)]++([O.lst ((xs.drop 1++xs.take 1).map U.int)]++[O.lst ((cyc xs).map fun p=>U.bl (decide (p∈M)))])),?_⟩
 rw[<-Q9,<-hY1,<-Q9,<-hY2,<-Q9,<-hY3,<-hY4,<-hρ]
 have a1:ab (bR (C1 (ae 1) (cOp bE (cSl (ae 1) (some (cC (.int 1))) none) (cSl (ae 1) none (some (cC (.int 1)))))) (gNm 0) (cOp (pf false) (ae 0) (ae 1)) 1 [2]) ao ρ S=some ([.ref Y3.length],Y4):=by
  rw[aL,hcomp,Q0];rfl
 rw[oN,a1,Q0,mO,hall]
theorem yq(hx:S[lx]?=some (.lst (xs.map U.int)))(hm:S[lm]?=some (.lst (M.map pP)))(hl:xs.length<=900) :
  ∃G,cCB jW (ab (bR (aK (ab (cCB eN (ab (ae 1) ao)) ao)) (gNm 0) (cOp (pf false) (ig (ab (cOp fIx (ae 2) (cOp sD (ae 0) (cC (.int 1)))) (ab (cOp fIx (ae 2) (ae 0)) ao))) (ae 1)) 1 [2,1]) ao) [some tu,some (.ref lx),some (.ref lm)] S=some (.bl ((cyc xs).all fun p=>decide (p∈M)),S++G):=by
 obtain⟨ρ,hρ⟩:∃ρ:Rho,ρ=[some tu,some (.ref lx),some (.ref lm)]:=⟨_,rfl⟩
 have hv:∀Y,ae 1 ρ Y=some (.ref lx,Y):=fun Y=>by rw[hρ];rfl
 have hr:gJ 1 [2,1] ρ=[none,some (.ref lm),some (.ref lx)]:=by rw[hρ];rfl
 have hlen:ab (cCB eN (ab (ae 1) ao)) ao ρ S=some ([.int (xs.length:Int)],S):=by
  have:cCB eN (ab (ae 1) ao) ρ S=some (.int (xs.length:Int),S):=by
   rw[oN,aL,hv,Q0]
   show eN [.ref lx] S=_
   rw[sX,hx,sY,QZ]
  rw[aL,this,Q0];rfl
 have e2:=eE (S:=S) (ok:=fun _=>True) (gg:=gNm 0) (ce:=cOp (pf false) (ig (ab (cOp fIx (ae 2) (cOp sD (ae 0) (cC (.int 1)))) (ab (cOp fIx (ae 2) (ae 0)) ao))) (ae 1)) (f:=fun k:Nat=>U.int (k:Int)) (v:=fun k:Nat=>.bl (decide ((xs.getD (if k=0 then xs.length-1 else k-1) 0,xs.getD k 0)∈M))) (Rel:=fun ρ=>∃r0,ρ=[r0,some (.ref lm),some (.ref lx)]) (fun ys G=>trivial) (Qj xs.length) [] [] [none,some (.ref lm),some (.ref lx)] ⟨_,rfl⟩ (by simp;omega) (fun k hk ys G ρ hρ=>by
  obtain⟨r0,rfl⟩:=hρ
  refine⟨[some (.int (k:Int)),some (.ref lm),some (.ref lx)],⟨_,rfl⟩,rfl,?_⟩
  have hk':=Qu.mp hk
  have i1:=zN (S:=S++(.lst ys::G)) (p:=(xs.getD (if k=0 then xs.length-1 else k-1) 0,xs.getD k 0)) (ah hm)
  have gx:(S++(.lst ys::G))[lx]?=some (.lst (xs.map U.int)):=ah hx
  have a1:atI (xs.map U.int) ((k:Int)-1)=some (.int (xs.getD (if k=0 then xs.length-1 else k-1) 0)):=by
   by_cases h0:k=0
   ·subst h0
    rw[if_pos rfl]
    exact FN (fun e=>by rw[e]at hk';simp at hk')
   ·rw[if_neg h0,show(k:Int)-1=((k-1:Nat):Int)by omega]
    exact Ab (by omega)
  have a2:=Ab hk'
  have ep:pP (xs.getD (if k=0 then xs.length-1 else k-1) 0,xs.getD k 0)=.tup [.int (xs.getD (if k=0 then xs.length-1 else k-1) 0),.int (xs.getD k 0)]:=rfl
  rw[ep]at i1
  rwa[gx,a1,a2,i1])
 simp only[Qd]at e2
 obtain⟨Y4,hY4⟩:∃Y4,Y4=S++[O.lst ((Qj xs.length).map fun k:Nat=>U.bl (decide ((xs.getD (if k=0 then xs.length-1 else k-1) 0,xs.getD k 0)∈M)))]:=⟨_,rfl⟩
 rw[<-hY4]at e2
 have er:aX 0 ((xs.length:Int)).toNat=(Qj xs.length).map fun k:Nat=>U.int (k:Int):=by
  rw[Z3,dH,Qc];rfl
 have hcomp:bR (aK (ab (cCB eN (ab (ae 1) ao)) ao)) (gNm 0) (cOp (pf false) (ig (ab (cOp fIx (ae 2) (cOp sD (ae 0) (cC (.int 1)))) (ab (cOp fIx (ae 2) (ae 0)) ao))) (ae 1)) 1 [2,1] ρ S=some (.ref S.length,Y4):=by
  rw[FJ hlen (by omega) (by omega),hr,er,e2]
  rfl
 have hall:jW [.ref S.length] Y4=some (.bl ((cyc xs).all fun p=>decide (p∈M)),Y4):=by
  have h:=HQ (bs:=(Qj xs.length).map fun k:Nat=>decide ((xs.getD (if k=0 then xs.length-1 else k-1) 0,xs.getD k 0)∈M)) (S:=Y4) (l:=S.length) (by rw[hY4,ga0,Qc];rfl)
  rw[h,List.all_map,y8 _ (yT xs)]
  unfold F7
  rw[List.all_map]
  rfl
 refine⟨[O.lst ((Qj xs.length).map fun k:Nat=>U.bl (decide ((xs.getD (if k=0 then xs.length-1 else k-1) 0,xs.getD k 0)∈M)))],?_⟩
 rw[<-hY4,<-hρ]
 have a1:ab (bR (aK (ab (cCB eN (ab (ae 1) ao)) ao)) (gNm 0) (cOp (pf false) (ig (ab (cOp fIx (ae 2) (cOp sD (ae 0) (cC (.int 1)))) (ab (cOp fIx (ae 2) (ae 0)) ao))) (ae 1)) 1 [2,1]) ao ρ S=some ([.ref S.length],Y4):=by
  rw[aL,hcomp,Q0];rfl
 rw[oN,a1,Q0,mO,hall]
theorem Bq(T:fe many tms wr lk)(hm:many<=7)(hx:S[lx]?=some (.lst (xs.map U.int)))(hl:xs.length<64) :
  ∃G,wM [aF many (.tup (tms.map pP)) wr lk,.ref lx] S=some (.bl (nN (c7 (mr tms wr lk)) xs),S++G):=by
 unfold wM
 rw[vU]
 obtain⟨tu,htu⟩:∃tu,tu=aF many (.tup (tms.map pP)) wr lk:=⟨_,rfl⟩
 obtain⟨G0,w0⟩:=mR (ρ:=[some tu,some (.ref lx),none]) (S:=S) rfl rfl hx (by omega)
 obtain⟨Z,hZ⟩:∃Z,Z=S++G0:=⟨_,rfl⟩
 rw[<-hZ]at w0
 have hxz:Z[lx]?=some (.lst (xs.map U.int)):=by rw[hZ];exact ah hx
 have c1:=qp (ρ:=[some tu,some (.ref lx),none]) (S:=Z) rfl hxz (by omega)
 unfold fB nN
 rw[<-htu]
 cases hb:FL xs with
 |true=>
  rw[hb]at c1
  refine⟨G0,?_⟩
  rw[<-hZ,D6 (ρ':=[some tu,some (.ref lx),none]) (S':=Z) (u:=.bl false) (by rw[eI,As,rK,w0,Q0,kJ,Q0,Zr,oJ,c1];rfl)]
  rfl
 |false=>
  rw[hb]at c1
  obtain⟨G1,j,e1,g1,lj⟩:=qF (S:=Z) T hm
  rw[<-htu]at e1
  obtain⟨Y,hY⟩:∃Y,Y=Z++G1:=⟨_,rfl⟩
  rw[<-hY]at e1 g1
  obtain⟨G2,e2⟩:=Br (tu:=tu) (S:=Y) (by rw[hY];exact ah hxz) g1 (by omega)
  refine⟨G0++(G1++G2),?_⟩
  rw[<-Q9,<-hZ,<-Q9,<-hY]
  rw[cx (ρ':=[some tu,some (.ref lx),none]) (S':=Z) (by rw[eI,As,rK,w0,Q0,kJ,Q0,Zr,oJ,c1];rfl)]
  rw[cx (ρ':=[some tu,some (.ref lx),some (.ref j)]) (S':=Y) (by rwa[e1])]
  rw[kq,e2]
  rfl
theorem yp(T:fe many tms wr lk)(hm:many<=7)(hx:S[lx]?=some (.lst (xs.map U.int)))(hl:xs.length<64) :
  ∃G,iR [aF many (.tup (tms.map pP)) wr lk,.ref lx] S=some (.bl (nN (c7 (mr tms wr lk)) xs),S++G):=by
 unfold iR
 rw[kF]
 obtain⟨tu,htu⟩:∃tu,tu=aF many (.tup (tms.map pP)) wr lk:=⟨_,rfl⟩
 obtain⟨G1,j,e1,g1,lj⟩:=jK (S:=S) T hm
 rw[<-htu]at e1
 obtain⟨Y,hY⟩:∃Y,Y=S++G1:=⟨_,rfl⟩
 rw[<-hY]at e1 g1
 have hxz:Y[lx]?=some (.lst (xs.map U.int)):=by rw[hY];exact ah hx
 have c1:=qp (ρ:=[some tu,some (.ref lx),some (.ref j)]) (S:=Y) rfl hxz (by omega)
 unfold bT nN
 rw[<-htu]
 rw[cx (ρ':=[some tu,some (.ref lx),some (.ref j)]) (S':=Y) (by rwa[e1])]
 cases hb:FL xs with
 |true=>
  rw[hb]at c1
  refine⟨G1,?_⟩
  rw[<-hY,D6 (ρ':=[some tu,some (.ref lx),some (.ref j)]) (S':=Y) (u:=.bl false) (by rw[eI,c1];rfl)]
  rfl
 |false=>
  rw[hb]at c1
  obtain⟨G2,e2⟩:=yq (tu:=tu) (S:=Y) hxz g1 (by omega)
  refine⟨G1++G2,?_⟩
  rw[<-Q9,<-hY]
  rw[cx (ρ':=[some tu,some (.ref lx),some (.ref j)]) (S':=Y) (by rw[eI,c1];rfl)]
  rw[kq,e2]
  rfl
end
theorem q0{S:Sto}{l:Nat}{xs:List Int}{a:Int}(neg:Bool)(h:S[l]?=some (.lst (xs.map U.int))):fIn neg (.int a) (.ref l) S=some (.bl (if neg then !inR xs a else inR xs a),S):=by
 have t:=Fj (b:=a) (row:=xs) (S:=S)
 simp only[fIn]at t
 rw[if_pos flI]at t
 have e:inU (.int a) (xs.map U.int)=inR xs a:=by
  have:=Option.some.inj t
  simpa using this
 simp only[fIn,h]
 rw[if_pos flI,e]
def bD(many:Int)(os:List Int):List Int:=(gA many).filter fun a=>!inR os a
def gZ(left:List Int)(a:Int)(p:Int×Int):Bool:=decide (p.2=a)&&inR left p.1
def d9(M:List (Int×Int))(left:List Int)(a:Int):List (Int×Int):=M.filter (gZ left a)
def cg(M:List (Int×Int))(left:List Int):List Int:=left.filter fun a=>decide (d9 M left a=[])
def rV(many:Int)(M:List (Int×Int))(os:List Int):List Int:=os++(cg M (bD many os)).take 1
structure wO(many:Int)(os:List Int):Prop where
 nd:os.Nodup
 sub:∀a∈os,a∈gA many
theorem qI{many:Int}{os:List Int}{a:Int}:a∈bD many os↔a∈gA many/\a∉os:=by
 unfold bD inR
 rw[ZL]
 simp
theorem wO.step{many:Int}{os:List Int}(M:List (Int×Int))(h:wO many os):wO many (rV many M os):=by
 unfold rV
 cases hf:cg M (bD many os)with
 |nil=>simpa using h
 |cons a r=>
  have ha:a∈bD many os:=by
   have:a∈cg M (bD many os):=by rw[hf];exact QK
   unfold cg at this
   exact(ZL.mp this).1
  obtain⟨h1,h2⟩:=qI.mp ha
  show wO many (os++[a])
  refine⟨List.nodup_append.mpr ⟨h.nd,by simp,fun x hx y hy e=>?_⟩,fun x hx=>?_⟩
  ·rw[Qn.mp hy]at e
   exact h2 (e▸hx)
  ·rcases Qt.mp hx with z|z
   ·exact h.sub x z
   ·rw[Qn.mp z];exact h1
theorem oW(many:Int):(gA many).length=many.toNat:=by unfold gA;simp
theorem wO.len{many:Int}{os:List Int}(h:wO many os):os.length<=many.toNat:=by
 have:=List.Nodup.length_le_of_subset h.nd h.sub
 rwa[oW]at this
theorem yx{many:Int}{os:List Int}(h:wO many os)(hl:many.toNat<=os.length):bD many os=[]:=by
 refine List.eq_nil_iff_forall_not_mem.mpr fun a ha=>?_
 obtain⟨h1,h2⟩:=qI.mp ha
 have h3:wO many (a::os):=⟨ZV.mpr ⟨h2,h.nd⟩,fun x hx=>by
  rcases QM.mp hx with rfl|z
  ·exact h1
  ·exact h.sub x z⟩
 have:=h3.len
 rw[QB]at this
 omega
theorem xE{many:Int}{M:List (Int×Int)}{os:List Int}{k:Nat}(h:k<=os.length\/cg M (bD many os)=[]):k+1<=(rV many M os).length\/cg M (bD many (rV many M os))=[]:=by
 unfold rV
 cases hf:cg M (bD many os)with
 |nil=>
  right
  simp only[List.take_nil,QL]
  exact hf
 |cons a r=>
  left
  rcases h with h|h
  ·rw[QQ];simp;omega
  ·rw[h]at hf;cases hf
theorem qN{many:Int}{os:List Int}:(bD many os).length<=many.toNat:=by
 unfold bD
 have:=List.length_filter_le (fun a=>!inR os a) (gA many)
 rw[oW]at this
 exact this
theorem Cr{M:List (Int×Int)}{left:List Int}(h:cg M left=[]){a:Int}(ha:a∈left):∃p r,d9 M left a=p::r/\p.1∈left:=by
 cases hp:d9 M left a with
 |nil=>
  have:a∈cg M left:=by unfold cg;exact ZL.mpr ⟨ha,decide_eq_true hp⟩
  rw[h]at this;cases this
 |cons p r=>
  refine⟨p,r,rfl,?_⟩
  have:p∈d9 M left a:=by rw[hp];exact QK
  unfold d9 gZ inR at this
  have:=(ZL.mp this).2
  simp at this
  exact this.2
section
variable{Y:Sto}{jk jo:Nat}{os:List Int}{M:List (Int×Int)}{many:Int}{tm:U}{wr lk:List (List Int)}{r3 r4 r5 r6:Option U}
theorem qO(ho:Y[jo]?=some (.lst (os.map U.int)))(m0:0<=many)(m1:many<=900) :
  ∃G,aG (aK (ab (cOp fIx (ae 0) (cC (.int 0))) ao)) (gNm 0) (aA (cOp (fIn true) (ae 0) (ae 1))) (ae 0) 1 [2] [some (aF many tm wr lk),some (.ref jk),some (.ref jo),r3,r4,r5,r6] Y=some (.ref Y.length,Y++(.lst ((bD many os).map U.int)::G)):=by
 obtain⟨G,e⟩:=bQ (S:=Y) (ok:=fun _=>True) (gg:=gNm 0) (ct:=aA (cOp (fIn true) (ae 0) (ae 1))) (ce:=ae 0) (f:=U.int) (p:=fun a=>!inR os a) (v:=U.int) (Rel:=fun ρ=>∃r0,ρ=[r0,some (.ref jo)]) (fun ys G=>trivial) (gA many) [] [] [none,some (.ref jo)] ⟨_,rfl⟩ (by rw[oW];simp;omega) (fun a ha ys G ρ hρ=>by
  obtain⟨r0,rfl⟩:=hρ
  refine⟨[some (.int a),some (.ref jo)],[],⟨_,rfl⟩,rfl,?_,fun _=>⟨[],?_⟩⟩
  ·have i1:=q0 (S:=Y++(.lst ys::G)) (a:=a) true (ah ho)
   rwa[i1,QL,if_true]
  ·rwa[QL])
 refine⟨G,?_⟩
 have ha:ab (cOp fIx (ae 0) (cC (.int 0))) ao [some (aF many tm wr lk),some (.ref jk),some (.ref jo),r3,r4,r5,r6] Y=some ([.int many],Y):=by
  obtain⟨wu,hwu⟩:∃wu,wu=wr.map rwU:=⟨_,rfl⟩
  obtain⟨lu,hlu⟩:∃lu,lu=lk.map rwU:=⟨_,rfl⟩
  unfold aF
  rw[<-hwu,<-hlu]
  rwa[]
 have er:aX 0 many.toNat=(gA many).map U.int:=by unfold gA;rw[dH]
 have hr:gJ 1 [2] [some (aF many tm wr lk),some (.ref jk),some (.ref jo),r3,r4,r5,r6]=[none,some (.ref jo)]:=rfl
 rw[yX ha m0 (by omega),hr,er,e]
 rfl
theorem BE{left:List Int}{jl:Nat}{a:Int}(hk:Y[jk]?=some (.lst (M.map pP)))(hl:Y[jl]?=some (.lst (left.map U.int)))(hM:M.length<=1000) :
  ∃G,aA (cOp (fJ false) (aG (iTp (ae 1)) (gNm 0) (lH (aA (cOp fEq (cOp fIx (ae 0) (cC (.int 1))) (ae 1))) (aA (cOp (fIn false) (cOp fIx (ae 0) (cC (.int 0))) (ae 2)))) (ae 0) 1 [0,2]) (bZ ao)) [some (.int a),some (.ref jk),some (.ref jl)] Y=some (decide (d9 M left a=[]),Y++G):=by
 obtain⟨G,e⟩:=bQ (S:=Y) (ok:=fun S=>S[jk]?=some (.lst (M.map pP))) (gg:=gNm 0) (ct:=lH (aA (cOp fEq (cOp fIx (ae 0) (cC (.int 1))) (ae 1))) (aA (cOp (fIn false) (cOp fIx (ae 0) (cC (.int 0))) (ae 2)))) (ce:=ae 0) (f:=pP) (p:=gZ left a) (v:=pP) (Rel:=fun ρ=>∃r0,ρ=[r0,some (.int a),some (.ref jl)]) (fun ys G=>ah hk) M [] [] [none,some (.int a),some (.ref jl)] ⟨_,rfl⟩ (by simp;omega) (fun p hp ys G ρ hρ=>by
  obtain⟨r0,rfl⟩:=hρ
  refine⟨[some (pP p),some (.int a),some (.ref jl)],[],⟨_,rfl⟩,rfl,?_,fun _=>⟨[],?_⟩⟩
  ·have i1:=q0 (S:=Y++(.lst ys::G)) (a:=p.1) false (ah hl)
   unfold gZ
   by_cases he:p.2=a
   ·have de:decide (p.2=a)=true:=decide_eq_true he
    rwa[pP,de,i1,QL,if_false,Qk,Bool.true_and]
   ·have de:decide (p.2=a)=false:=decide_eq_false he
    rwa[pP,de,i1,QL,Bool.false_and]
  ·rwa[QL])
 simp only[Qd]at e
 obtain⟨Y1,hY1⟩:∃Y1,Y1=Y++(.lst ((M.filter (gZ left a)).map pP)::G):=⟨_,rfl⟩
 rw[<-hY1]at e
 have hcomp:aG (iTp (ae 1)) (gNm 0) (lH (aA (cOp fEq (cOp fIx (ae 0) (cC (.int 1))) (ae 1))) (aA (cOp (fIn false) (cOp fIx (ae 0) (cC (.int 0))) (ae 2)))) (ae 0) 1 [0,2] [some (.int a),some (.ref jk),some (.ref jl)] Y=some (.ref Y.length,Y1):=by
  have hi:ae 1 [some (.int a),some (.ref jk),some (.ref jl)] Y=some (.ref jk,Y):=rfl
  have hr:gJ 1 [0,2] [some (.int a),some (.ref jk),some (.ref jl)]=[none,some (.int a),some (.ref jl)]:=rfl
  unfold aG iTp
  rw[hi,Q0]
  simp only[hk,Q0,hr,e]
 have h1:(Y1++[O.lst []])[Y.length]?=some (.lst ((M.filter (gZ left a)).map pP)):=ah (by rw[hY1,ga0];rfl)
 have h2:(Y1++[O.lst []])[Y1.length]?=some (.lst []):=by rw[ga0];rfl
 have he:=nG false h1 h2
 have ed:decide ((M.filter (gZ left a)).map pP=[])=decide (d9 M left a=[]):=by
  unfold d9
  congr 1
  exact propext List.map_eq_nil_iff
 rw[ed]at he
 refine⟨(.lst ((M.filter (gZ left a)).map pP)::G)++[.lst []],?_⟩
 rw[<-Q9,<-hY1,dD,iA,hcomp,Q0,cI]
 have hn:bZ ao [some (.int a),some (.ref jk),some (.ref jl)] Y1=some (.ref Y1.length,Y1++[.lst []]):=rfl
 rw[hn,Q0,cH,he]
 rfl
theorem yN{left:List Int}{jl:Nat}(hk:Y[jk]?=some (.lst (M.map pP)))(hl:Y[jl]?=some (.lst (left.map U.int)))(hM:M.length<=1000)(hL:left.length<=900) :
  ∃G,aG (iTp (ae 4)) (gNm 0) (aA (cOp (fJ false) (aG (iTp (ae 1)) (gNm 0) (lH (aA (cOp fEq (cOp fIx (ae 0) (cC (.int 1))) (ae 1))) (aA (cOp (fIn false) (cOp fIx (ae 0) (cC (.int 0))) (ae 2)))) (ae 0) 1 [0,2]) (bZ ao))) (ae 0) 1 [1,4] [some (aF many tm wr lk),some (.ref jk),some (.ref jo),r3,some (.ref jl),r5,r6] Y=some (.ref Y.length,Y++(.lst ((cg M left).map U.int)::G)):=by
 obtain⟨G,e⟩:=bQ (S:=Y) (ok:=fun S=>S[jl]?=some (.lst (left.map U.int))) (gg:=gNm 0) (ct:=aA (cOp (fJ false) (aG (iTp (ae 1)) (gNm 0) (lH (aA (cOp fEq (cOp fIx (ae 0) (cC (.int 1))) (ae 1))) (aA (cOp (fIn false) (cOp fIx (ae 0) (cC (.int 0))) (ae 2)))) (ae 0) 1 [0,2]) (bZ ao))) (ce:=ae 0) (f:=U.int) (p:=fun a=>decide (d9 M left a=[])) (v:=U.int) (Rel:=fun ρ=>∃r0,ρ=[r0,some (.ref jk),some (.ref jl)]) (fun ys G=>ah hl) left [] [] [none,some (.ref jk),some (.ref jl)] ⟨_,rfl⟩ (by simp;omega) (fun a ha ys G ρ hρ=>by
  obtain⟨r0,rfl⟩:=hρ
  obtain⟨G1,e1⟩:=BE (Y:=Y++(.lst ys::G)) (jk:=jk) (jl:=jl) (a:=a) (ah hk) (ah hl) hM
  refine⟨[some (.int a),some (.ref jk),some (.ref jl)],G1,⟨_,rfl⟩,rfl,?_,fun _=>⟨[],?_⟩⟩
  ·rw[e1,Q9];rfl
  ·rwa[QL])
 refine⟨G,?_⟩
 have hi:ae 4 [some (aF many tm wr lk),some (.ref jk),some (.ref jo),r3,some (.ref jl),r5,r6] Y=some (.ref jl,Y):=rfl
 have hr:gJ 1 [1,4] [some (aF many tm wr lk),some (.ref jk),some (.ref jo),r3,some (.ref jl),r5,r6]=[none,some (.ref jk),some (.ref jl)]:=rfl
 unfold aG iTp
 rw[hi,Q0]
 simp only[hl,Q0]
 unfold aG iTp at e
 rw[hr,e]
 rfl
theorem A8(ok:wO many os)(hk:Y[jk]?=some (.lst (M.map pP)))(ho:Y[jo]?=some (.lst (os.map U.int)))(nk:jk≠jo)(hM:M.length<=1000)(m0:0<=many)(m1:many<=7) :
  ∃Y' r4' r5',bU bW 100 [some (aF many tm wr lk),some (.ref jk),some (.ref jo),r3,r4,r5,r6] Y=some (.nx,[some (aF many tm wr lk),some (.ref jk),some (.ref jo),r3,r4',r5',r6],Y')/\Y'[jo]?=some (.lst ((rV many M os).map U.int))/\Fzz jo Y Y':=by
 have lo:jo<Y.length:=(Q6.mp ho).1
 obtain⟨G1,e1⟩:=qO (jk:=jk) (tm:=tm) (wr:=wr) (lk:=lk) (r3:=r3) (r4:=r4) (r5:=r5) (r6:=r6) ho m0 (by omega)
 obtain⟨Y1,hY1⟩:∃Y1,Y1=Y++(.lst ((bD many os).map U.int)::G1):=⟨_,rfl⟩
 rw[<-hY1]at e1
 have ll:=qN (many:=many) (os:=os)
 obtain⟨G2,e2⟩:=yN (Y:=Y1) (jo:=jo) (many:=many) (tm:=tm) (wr:=wr) (lk:=lk) (r3:=r3) (r5:=r5) (r6:=r6) (jl:=Y.length) (left:=bD many os) (by rw[hY1];exact ah hk) (by rw[hY1,ga0];rfl) hM (by omega)
 obtain⟨Y2,hY2⟩:∃Y2,Y2=Y1++(.lst ((cg M (bD many os)).map U.int)::G2):=⟨_,rfl⟩
 rw[<-hY2]at e2
 have s1:fSl (.ref Y1.length) none (some 1) Y2=some (.ref Y2.length,Y2++[.lst (((cg M (bD many os)).take 1).map U.int)]):=slT 1 (by rw[hY2,ga0];rfl)
 obtain⟨Y3,hY3⟩:∃Y3,Y3=Y2++[O.lst (((cg M (bD many os)).take 1).map U.int)]:=⟨_,rfl⟩
 rw[<-hY3]at s1
 have f3:Fzz jo Y Y3:=by
  rw[hY3,hY2,hY1]
  exact((Fzz.app _).trans (.app _)).trans (.app _)
 have ho3:Y3[jo]?=some (.lst (os.map U.int)):=by
  rw[hY3,hY2,hY1];exact ah (ah (ah ho))
 have ol:=ok.len
 have x1:=nW (l:=jo) (b:=Y2.length) (us:=os.map U.int) (vs:=((cg M (bD many os)).take 1).map U.int) (Y:=Y3) ho3 (by rw[hY3,ga0];rfl) (by unfold LIM;simp;omega)
 rw[<-Qe]at x1
 refine⟨Y3.set jo (.lst ((os++(cg M (bD many os)).take 1).map U.int)),some (.ref Y.length),some (.ref Y1.length),?_,?_,f3.trans (.set _)⟩
 ·unfold bU
  rw[cx (ρ':=[some (aF many tm wr lk),some (.ref jk),some (.ref jo),r3,some (.ref Y.length),r5,r6]) (S':=Y1) (by rw[fM,e1];rfl)]
  rw[cx (ρ':=[some (aF many tm wr lk),some (.ref jk),some (.ref jo),r3,some (.ref Y.length),some (.ref Y1.length),r6]) (S':=Y2) (by rw[fM,e2];rfl)]
  have a1:cSl (ae 5) none (some (cC (.int 1))) [some (aF many tm wr lk),some (.ref jk),some (.ref jo),r3,some (.ref Y.length),some (.ref Y1.length),r6] Y2=some (.ref Y2.length,Y3):=by
   have hv:ae 5 [some (aF many tm wr lk),some (.ref jk),some (.ref jo),r3,some (.ref Y.length),some (.ref Y1.length),r6] Y2=some (.ref Y1.length,Y2):=rfl
   have h1:∀ρ Y,cC (.int 1) ρ Y=some (.int 1,Y):=fun ρ Y=>rfl
   simp only[cSl,fC,hv,h1,Q0,s1]
  have ho2:Y2[jo]?=some (.lst (os.map U.int)):=by rw[hY2,hY1];exact ah (ah ho)
  rwa[ho2,a1,x1]
 ·have:jo<Y3.length:=Qq lo f3.len
  rw[Qp,if_pos rfl,if_pos this]
  rfl
theorem pX(hM:M.length<=1000)(m0:0<=many)(m1:many<=7)(nk:jk≠jo):∀(us:List U) (k:Nat) (os:List Int) (Y:Sto) (r3 r4 r5:Option U),wO many os->(k<=os.length\/cg M (bD many os)=[])->Y[jk]?=some (.lst (M.map pP))->Y[jo]?=some (.lst (os.map U.int))->
  ∃Y' os' r3' r4' r5',cU (fun _=>True) (gNm 3) (bU bW 100) us [some (aF many tm wr lk),some (.ref jk),some (.ref jo),r3,r4,r5,r6] Y=some (.nx,[some (aF many tm wr lk),some (.ref jk),some (.ref jo),r3',r4',r5',r6],Y')/\Y'[jo]?=some (.lst (os'.map U.int))/\Fzz jo Y Y'/\wO many os'/\(k+us.length<=os'.length\/cg M (bD many os')=[])
 |[],k,os,Y,r3,r4,r5,ok,h,hk,ho=>⟨Y,os,r3,r4,r5,bV trivial,ho,.refl,ok,h⟩
 |u::us,k,os,Y,r3,r4,r5,ok,h,hk,ho=>by
  obtain⟨Y1,s4,s5,e1,g1,f1⟩:=A8 (tm:=tm) (wr:=wr) (lk:=lk) (r3:=some u) (r4:=r4) (r5:=r5) (r6:=r6) ok hk ho nk hM m0 m1
  obtain⟨Y',os',q3,q4,q5,e2,g2,f2,ok2,h2⟩:=pX hM m0 m1 nk us (k+1) _ Y1 (some u) s4 s5 (ok.step M) (xE h) (f1.get hk nk) g1
  refine⟨Y',os',q3,q4,q5,(dg trivial rfl e1).trans e2,g2,f1.trans f2,ok2,?_⟩
  rw[QB]
  rcases h2 with h2|h2
  ·left;omega
  ·exact .inr h2
end
theorem FH(us:List U)(u:U):lD (us++[u]) none (some (-1))=us:=by
 unfold lD
 have e:HT.sIx (us++[u]).length (us++[u]).length (some (-1))=us.length:=by
  simp only[HT.sIx]
  rw[if_pos (by omega),QQ,Z0]
  omega
 rw[e,HT.sIx_none,List.drop_zero,Nat.sub_zero,List.take_left]
section
variable{Y:Sto}{jk jo jl jw:Nat}{os left vs:List Int}{c:Int}{M:List (Int×Int)}{x0 x2 r3 r5:Option U}
theorem A4(hw:Y[jw]?=some (.lst ((vs++[c]).map U.int))) :
  lH (aA (cOp (fJ true) (ae 6) (bZ ao))) (aA (cOp (fIn true) (cOp fIx (ae 6) (fc (cC (.int 1)))) (cSl (ae 6) none (some (fc (cC (.int 1))))))) [x0,some (.ref jk),x2,r3,some (.ref jl),r5,some (.ref jw)] Y=some (!inR vs c,Y++[.lst [],.lst (vs.map U.int)]):=by
 obtain⟨ρ,hρ⟩:∃ρ:Rho,ρ=[x0,some (.ref jk),x2,r3,some (.ref jl),r5,some (.ref jw)]:=⟨_,rfl⟩
 have hv:∀Y,ae 6 ρ Y=some (.ref jw,Y):=fun Y=>by rw[hρ];rfl
 obtain⟨Y1,hY1⟩:∃Y1,Y1=Y++[O.lst []]:=⟨_,rfl⟩
 have hw1:Y1[jw]?=some (.lst ((vs++[c]).map U.int)):=by rw[hY1];exact ah hw
 have n1:fJ true (.ref jw) (.ref Y.length) Y1=some (.bl true,Y1):=by
  have:=nG true hw1 (show Y1[Y.length]?=some (.lst [])by rw[hY1,ga0];rfl)
  rw[this,decide_eq_false (by simp)]
  rfl
 have t1:aA (cOp (fJ true) (ae 6) (bZ ao)) ρ Y=some (true,Y1):=by
  have hn:bZ ao ρ Y=some (.ref Y.length,Y1):=by rw[hY1];rfl
  rw[dD,iA,hv,Q0,cI,hn,Q0,cH,n1]
  rfl
 have hneg:∀Y,fc (cC (.int 1)) ρ Y=some (.int (-1),Y):=fun Y=>by rw[kr,x_c,Q0,fQ]
 have hix:cOp fIx (ae 6) (fc (cC (.int 1))) ρ Y1=some (.int c,Y1):=by
  rw[iA,hv,Q0,cI,hneg,Q0,cH,oK,hw1,oM,Qe]
  rw[show[c].map U.int=[U.int c]from rfl,mJ]
  rfl
 have hsl:cSl (ae 6) none (some (fc (cC (.int 1)))) ρ Y1=some (.ref Y1.length,Y1++[.lst (vs.map U.int)]):=by
  have e:lD ((vs++[c]).map U.int) none (some (-1))=vs.map U.int:=by rw[Qe];exact FH _ _
  simp only[cSl,fC,hv,hneg,Q0,fSl,hw1,e]
 have hin:=q0 (S:=Y1++[O.lst (vs.map U.int)]) (l:=Y1.length) (xs:=vs) (a:=c) true (by rw[ga0];rfl)
 have e2:Y++[.lst [],.lst (vs.map U.int)]=Y1++[.lst (vs.map U.int)]:=by rw[hY1,Q9];rfl
 rw[<-hρ,e2,AE,t1,Q0,zg,dD,iA,hix,Q0,cI,hsl,Q0,cH,hin]
 rfl
theorem A5{p:Int×Int}{rs:List (Int×Int)}(hk:Y[jk]?=some (.lst (M.map pP)))(hl:Y[jl]?=some (.lst (left.map U.int)))(hw:Y[jw]?=some (.lst ((vs++[c]).map U.int)))(hM:M.length<=1000)(hp:d9 M left c=p::rs)(hv:vs.length<=900) :
  ∃G,cS bW 100 [x0,some (.ref jk),x2,r3,some (.ref jl),r5,some (.ref jw)] Y=some (.nx,[x0,some (.ref jk),x2,r3,some (.ref jl),r5,some (.ref jw)],(Y++G).set jw (.lst ((vs++[c]++[p.1]).map U.int))):=by
 have hcl:atI ((vs++[c]).map U.int) (-1)=some (.int c):=by
  rw[Qe];exact mJ
 obtain⟨wu,hwu⟩:∃wu,wu=(vs++[c]).map U.int:=⟨_,rfl⟩
 rw[<-hwu]at hcl hw
 obtain⟨G,e⟩:=bQ (S:=Y) (ok:=fun S=>S[jk]?=some (.lst (M.map pP))) (gg:=gNm 0) (ct:=lH (aA (cOp fEq (cOp fIx (ae 0) (cC (.int 1))) (cOp fIx (ae 2) (fc (cC (.int 1)))))) (aA (cOp (fIn false) (cOp fIx (ae 0) (cC (.int 0))) (ae 1)))) (ce:=cOp fIx (ae 0) (cC (.int 0))) (f:=pP) (p:=gZ left c) (v:=fun p=>.int p.1) (Rel:=fun ρ=>∃r0,ρ=[r0,some (.ref jl),some (.ref jw)]) (fun ys G=>ah hk) M [] [] [none,some (.ref jl),some (.ref jw)] ⟨_,rfl⟩ (by simp;omega) (fun p hp ys G ρ hρ=>by
  obtain⟨r0,rfl⟩:=hρ
  refine⟨[some (pP p),some (.ref jl),some (.ref jw)],[],⟨_,rfl⟩,rfl,?_,fun _=>⟨[],?_⟩⟩
  ·have i1:=q0 (S:=Y++(.lst ys::G)) (a:=p.1) false (ah hl)
   have gw:(Y++(.lst ys::G))[jw]?=some (.lst wu):=ah hw
   have a1:=hcl
   unfold gZ
   by_cases he:p.2=c
   ·have de:decide (p.2=c)=true:=decide_eq_true he
    rwa[pP,gw,a1,kr,fQ,de,i1,QL,if_false,Qk,Bool.true_and]
   ·have de:decide (p.2=c)=false:=decide_eq_false he
    rwa[pP,gw,a1,kr,fQ,de,i1,QL,Bool.false_and]
  ·rwa[pP,QL])
 simp only[Qd]at e
 obtain⟨Y1,hY1⟩:∃Y1,Y1=Y++(.lst ((M.filter (gZ left c)).map fun p=>U.int p.1)::G):=⟨_,rfl⟩
 rw[<-hY1]at e
 have ef:(M.filter (gZ left c)).map (fun p=>U.int p.1)=.int p.1::rs.map fun p=>U.int p.1:=by
  have:M.filter (gZ left c)=p::rs:=hp
  rw[this];rfl
 refine⟨.lst ((M.filter (gZ left c)).map fun p=>U.int p.1)::G,?_⟩
 rw[<-hY1]
 have hcomp:aG (iTp (ae 1)) (gNm 0) (lH (aA (cOp fEq (cOp fIx (ae 0) (cC (.int 1))) (cOp fIx (ae 2) (fc (cC (.int 1)))))) (aA (cOp (fIn false) (cOp fIx (ae 0) (cC (.int 0))) (ae 1)))) (cOp fIx (ae 0) (cC (.int 0))) 1 [4,6] [x0,some (.ref jk),x2,r3,some (.ref jl),r5,some (.ref jw)] Y=some (.ref Y.length,Y1):=by
  have hi:ae 1 [x0,some (.ref jk),x2,r3,some (.ref jl),r5,some (.ref jw)] Y=some (.ref jk,Y):=rfl
  have hr:gJ 1 [4,6] [x0,some (.ref jk),x2,r3,some (.ref jl),r5,some (.ref jw)]=[none,some (.ref jl),some (.ref jw)]:=rfl
  unfold aG iTp
  rw[hi,Q0]
  simp only[hk,Q0,hr,e]
 have h1:Y1[Y.length]?=some (.lst (.int p.1::rs.map fun p=>U.int p.1)):=by rw[hY1,ga0,ef];rfl
 have hw1:Y1[jw]?=some (.lst wu):=by rw[hY1];exact ah hw
 have hA:wu.length<LIM:=by rw[hwu];unfold LIM;simp;omega
 have hx:cOp fIx (aG (iTp (ae 1)) (gNm 0) (lH (aA (cOp fEq (cOp fIx (ae 0) (cC (.int 1))) (cOp fIx (ae 2) (fc (cC (.int 1)))))) (aA (cOp (fIn false) (cOp fIx (ae 0) (cC (.int 0))) (ae 1)))) (cOp fIx (ae 0) (cC (.int 0))) 1 [4,6]) (cC (.int 0)) [x0,some (.ref jk),x2,r3,some (.ref jl),r5,some (.ref jw)] Y=some (.int p.1,Y1):=by
  rw[iA,hcomp,Q0,cI,x_c,Q0,cH,oK,h1,oM,at0]
  rfl
 have hv6:ae 6 [x0,some (.ref jk),x2,r3,some (.ref jl),r5,some (.ref jw)] Y=some (.ref jw,Y):=rfl
 unfold cS
 rw[kK,AA,hv6,Q0,oP,hw,oO,aL,hx,Q0]
 have e3:(vs++[c]++[p.1]).map U.int=wu++[.int p.1]:=by rw[hwu,Qe];rfl
 rw[e3]
 rwa[hw1,js hA]
theorem tN(hM:M.length<=1000)(hf:cg M left=[])(hll:left.length<=7)(nk:jk≠jw)(nl:jl≠jw):∀(n:Nat) (vs:List Int) (c:Int) (Y:Sto),left.length<vs.length+n->vs.length<=left.length->vs.Nodup->(∀a∈vs,a∈left)->c∈left->Y[jk]?=some (.lst (M.map pP))->Y[jl]?=some (.lst (left.map U.int))->Y[jw]?=some (.lst ((vs++[c]).map U.int))->
  ∃Y' vs' c',dn (lH (aA (cOp (fJ true) (ae 6) (bZ ao))) (aA (cOp (fIn true) (cOp fIx (ae 6) (fc (cC (.int 1)))) (cSl (ae 6) none (some (fc (cC (.int 1)))))))) (cS bW 100) n [x0,some (.ref jk),x2,r3,some (.ref jl),r5,some (.ref jw)] Y=some (.nx,[x0,some (.ref jk),x2,r3,some (.ref jl),r5,some (.ref jw)],Y')/\Y'[jw]?=some (.lst ((vs'++[c']).map U.int))/\vs'.length<=7/\Fzz jw Y Y'
 |0,vs,c,Y,hn,hvl,_,_,_,_,_,_=>by omega
 |n+1,vs,c,Y,hn,hvl,nd,hs,hc,hk,hl,hw=>by
  have lw:jw<Y.length:=(Q6.mp hw).1
  have t:=A4 (jk:=jk) (jl:=jl) (x0:=x0) (x2:=x2) (r3:=r3) (r5:=r5) hw
  obtain⟨Y1,hY1⟩:∃Y1,Y1=Y++[O.lst [],.lst (vs.map U.int)]:=⟨_,rfl⟩
  rw[<-hY1]at t
  have f1:Fzz jw Y Y1:=by rw[hY1];exact .app _
  by_cases hi:c∈vs
  ·have:inR vs c=true:=decide_eq_true hi
   rw[this]at t
   refine⟨Y1,vs,c,ju t,?_,by omega,f1⟩
   rw[hY1];exact ah hw
  ·have:inR vs c=false:=decide_eq_false hi
   rw[this]at t
   have nd2:(vs++[c]).Nodup:=List.nodup_append.mpr ⟨nd,by simp,fun x hx y hy e=>by
    rw[Qn.mp hy]at e
    exact hi (e▸hx)⟩
   have hs2:∀a∈vs++[c],a∈left:=fun a ha=>by
    rcases Qt.mp ha with z|z
    ·exact hs a z
    ·rw[Qn.mp z];exact hc
   have l2:=List.Nodup.length_le_of_subset nd2 hs2
   obtain⟨p,rs,hp,hpl⟩:=Cr hf hc
   obtain⟨G,e⟩:=A5 (Y:=Y1) (x0:=x0) (x2:=x2) (r3:=r3) (r5:=r5) (f1.get hk nk) (f1.get hl nl) (by rw[hY1];exact ah hw) hM hp (by omega)
   have f2:Fzz jw Y1 ((Y1++G).set jw (.lst ((vs++[c]++[p.1]).map U.int))):=(Fzz.app G).trans (.set _)
   have f12:=f1.trans f2
   have gw:((Y1++G).set jw (.lst ((vs++[c]++[p.1]).map U.int)))[jw]?=some (.lst ((vs++[c]++[p.1]).map U.int)):=by
    have:jw<(Y1++G).length:=by rw[QQ];have:=f1.len;omega
    rw[Qp,if_pos rfl,if_pos this]
   obtain⟨Y',vs',c',e2,g2,l2',f3⟩:=tN hM hf hll nk nl n (vs++[c]) p.1 _ (by rw[QQ];simp;omega) l2 nd2 hs2 hpl (f12.get hk nk) (f12.get hl nl) gw
   exact⟨Y',vs',c',(pV t e).trans e2,g2,l2',f12.trans f3⟩
end
def pJ:Fn:=fnU 7 1 (cY bW 100)
section
variable{S:Sto}{tms:List (Int×Int)}{wr lk:List (List Int)}{many:Int}
theorem yO(T:fe many tms wr lk)(m0:1<=many)(hm:many<=7) :
  ∃G ja jb as bs,pJ [aF many (.tup (tms.map pP)) wr lk] S=some (.tup [.ref ja,.ref jb],S++G)/\(S++G)[ja]?=some (.lst ((as:List Int).map U.int))/\(S++G)[jb]?=some (.lst ((bs:List Int).map U.int))/\as.length<=20/\bs.length<=20/\S.length<=ja/\S.length<=jb:=by
 unfold pJ
 rw[nZ]
 obtain⟨tm,htm⟩:∃tm,tm=U.tup (tms.map pP):=⟨_,rfl⟩
 obtain⟨G1,jk,e1,g1,lj⟩:=jK (S:=S) T hm
 obtain⟨M,hMd⟩:∃M,M=c7 (mr tms wr lk):=⟨_,rfl⟩
 have hM:M.length<=1000:=by
  rw[hMd]
  exact Qy lT (T.all_len (Int.le_trans hm (by decide)))
 rw[<-hMd]at g1
 rw[<-htm]at e1 ⊢
 obtain⟨Y1,hY1⟩:∃Y1,Y1=S++G1:=⟨_,rfl⟩
 rw[<-hY1]at e1 g1
 have lk1:jk<Y1.length:=(Q6.mp g1).1
 have ls1:S.length<=Y1.length:=by rw[hY1];simp
 obtain⟨Y2,hY2⟩:∃Y2,Y2=Y1++[O.lst []]:=⟨_,rfl⟩
 have hk2:Y2[jk]?=some (.lst (M.map pP)):=by rw[hY2];exact ah g1
 have nko:jk≠Y1.length:=by omega
 obtain⟨Y3,os,q3,q4,q5,e3,g3,f3,ok3,h3⟩:=pX (jk:=jk) (jo:=Y1.length) (tm:=tm) (wr:=wr) (lk:=lk) (r6:=none) hM (by omega) hm nko (aX 0 many.toNat) 0 [] Y2 none none none ⟨.nil,fun a ha=>(by cases ha)⟩ (.inl (Qs _)) hk2 (by rw[hY2,ga0];rfl)
 have hf:cg M (bD many os)=[]:=by
  rcases h3 with h|h
  ·have lr:(aX 0 many.toNat).length=many.toNat:=by rw[dH];simp
   rw[yx ok3 (by rw[lr]at h;omega)]
   rfl
  ·exact h
 have hk3:=f3.get hk2 nko
 obtain⟨G4,e4⟩:=qO (Y:=Y3) (jk:=jk) (jo:=Y1.length) (tm:=tm) (wr:=wr) (lk:=lk) (many:=many) (r3:=q3) (r4:=q4) (r5:=q5) (r6:=none) g3 (by omega) (by omega)
 obtain⟨left,hleft⟩:∃left,left=bD many os:=⟨_,rfl⟩
 have hll:left.length<=7:=by
  have:=qN (many:=many) (os:=os)
  rw[<-hleft]at this;omega
 rw[<-hleft]at hf e4
 obtain⟨Y4,hY4⟩:∃Y4,Y4=Y3++(.lst (left.map U.int)::G4):=⟨_,rfl⟩
 rw[<-hY4]at e4
 have hl4:Y4[Y3.length]?=some (.lst (left.map U.int)):=by rw[hY4,ga0];rfl
 have s5:fSl (.ref Y3.length) none (some 1) Y4=some (.ref Y4.length,Y4++[.lst ((left.take 1).map U.int)]):=slT 1 hl4
 obtain⟨Y5,hY5⟩:∃Y5,Y5=Y4++[O.lst ((left.take 1).map U.int)]:=⟨_,rfl⟩
 rw[<-hY5]at s5
 have lo3:Y1.length<Y3.length:=(Q6.mp g3).1
 have l34:Y3.length<Y4.length:=(Q6.mp hl4).1
 have hl5:Y5[Y3.length]?=some (.lst (left.map U.int)):=by rw[hY5];exact ah hl4
 have ho5:Y5[Y1.length]?=some (.lst (os.map U.int)):=by rw[hY5,hY4];exact ah (ah g3)
 have hk5:Y5[jk]?=some (.lst (M.map pP)):=by rw[hY5,hY4];exact ah (ah hk3)
 obtain⟨tu,htu⟩:∃tu,tu=aF many tm wr lk:=⟨_,rfl⟩
 have fo:Fzz Y1.length Y2 Y5:=f3.trans (by rw[hY5,hY4];exact(Fzz.app _).trans (.app _))
 obtain⟨X5,hX5⟩:=fo.ext (Z:=S) ls1 ⟨G1++[.lst []],by rw[hY2,hY1,Q9]⟩
 have head:∀(rest:CS),(bq (bM 1 (cCB bW (ab (ae 0) ao))) (bq (bM 2 (bZ ao)) (bq (iQ (aK (ab (cOp fIx (ae 0) (cC (.int 0))) ao)) (gNm 3) (bU bW 100)) (bq (bM 4 (aG (aK (ab (cOp fIx (ae 0) (cC (.int 0))) ao)) (gNm 0) (aA (cOp (fIn true) (ae 0) (ae 1))) (ae 0) 1 [2])) (bq (bM 6 (cSl (ae 4) none (some (cC (.int 1))))) rest))))) [some tu,none,none,none,none,none,none] S=rest [some tu,some (.ref jk),some (.ref Y1.length),q3,some (.ref Y3.length),q5,some (.ref Y4.length)] Y5:=fun rest=>by
  have ia:aK (ab (cOp fIx (ae 0) (cC (.int 0))) ao) [some tu,some (.ref jk),some (.ref Y1.length),none,none,none,none] Y2=some (aX 0 many.toNat,fun _=>True,Y2):=by
   have ha:ab (cOp fIx (ae 0) (cC (.int 0))) ao [some tu,some (.ref jk),some (.ref Y1.length),none,none,none,none] Y2=some ([.int many],Y2):=by
    obtain⟨wu,hwu⟩:∃wu,wu=wr.map rwU:=⟨_,rfl⟩
    obtain⟨lu,hlu⟩:∃lu,lu=lk.map rwU:=⟨_,rfl⟩
    rw[htu]
    unfold aF
    rw[<-hwu,<-hlu]
    rwa[]
   have hb:-(2^62)<=many/\many<2^62:=by omega
   unfold aK
   rw[ha,Q0]
   simp only[hb,and_self,if_true]
  rw[htu]at ia ⊢
  rw[cx (ρ':=[some (aF many tm wr lk),some (.ref jk),none,none,none,none,none]) (S':=Y1) (by rwa[e1])]
  rw[cx (ρ':=[some (aF many tm wr lk),some (.ref jk),some (.ref Y1.length),none,none,none,none]) (S':=Y2) (by rw[hY2];rfl)]
  rw[cx (ρ':=[some (aF many tm wr lk),some (.ref jk),some (.ref Y1.length),q3,q4,q5,none]) (S':=Y3) (by unfold iQ;rw[ia,Q0];exact e3)]
  rw[cx (ρ':=[some (aF many tm wr lk),some (.ref jk),some (.ref Y1.length),q3,some (.ref Y3.length),q5,none]) (S':=Y4) (by rw[fM,e4];rfl)]
  have a1:cSl (ae 4) none (some (cC (.int 1))) [some (aF many tm wr lk),some (.ref jk),some (.ref Y1.length),q3,some (.ref Y3.length),q5,none] Y4=some (.ref Y4.length,Y5):=by
   have hv:ae 4 [some (aF many tm wr lk),some (.ref jk),some (.ref Y1.length),q3,some (.ref Y3.length),q5,none] Y4=some (.ref Y3.length,Y4):=rfl
   have h1:∀ρ Y,cC (.int 1) ρ Y=some (.int 1,Y):=fun ρ Y=>rfl
   simp only[cSl,fC,hv,h1,Q0,s5]
  rw[cx (ρ':=[some (aF many tm wr lk),some (.ref jk),some (.ref Y1.length),q3,some (.ref Y3.length),q5,some (.ref Y4.length)]) (S':=Y5) (by rw[fM,a1];rfl)]
 obtain⟨ρ,hρ⟩:∃ρ:Rho,ρ=[some tu,some (.ref jk),some (.ref Y1.length),q3,some (.ref Y3.length),q5,some (.ref Y4.length)]:=⟨_,rfl⟩
 have hv6:∀Y,ae 6 ρ Y=some (.ref Y4.length,Y):=fun Y=>by rw[hρ];rfl
 have hv2:∀Y,ae 2 ρ Y=some (.ref Y1.length,Y):=fun Y=>by rw[hρ];rfl
 have hv4:∀Y,ae 4 ρ Y=some (.ref Y3.length,Y):=fun Y=>by rw[hρ];rfl
 have hnil:∀Y:Sto,bZ ao ρ Y=some (.ref Y.length,Y++[.lst []]):=fun Y=>rfl
 unfold cY
 rw[<-htu,head,<-hρ]
 have ol:=ok3.len
 cases hlf:left with
 |nil=>
  have hw:Y5[Y4.length]?=some (.lst []):=by rw[hY5,ga0,hlf];rfl
  have tst:∀(neg:Bool) (Y:Sto),Y[Y4.length]?=some (.lst [])->aA (cOp (fJ neg) (ae 6) (bZ ao)) ρ Y=some (!neg,Y++[.lst []]):=fun neg Y h=>by
   have n1:=nG neg (ah (r:=[O.lst []]) h) (show(Y++[O.lst []])[Y.length]?=some (.lst [])by rw[ga0];rfl)
   rw[dD,iA,hv6,Q0,cI,hnil,Q0,cH,n1]
   cases neg<;>rfl
  have t1:=tst true Y5 hw
  have t2:=tst false (Y5++[O.lst []]) (ah hw)
  have w1:lH (aA (cOp (fJ true) (ae 6) (bZ ao))) (aA (cOp (fIn true) (cOp fIx (ae 6) (fc (cC (.int 1)))) (cSl (ae 6) none (some (fc (cC (.int 1))))))) ρ Y5=some (false,Y5++[.lst []]):=by
   rw[AE,t1];rfl
  refine⟨X5++([.lst []]++([.lst []]++[.lst []])),Y1.length,(Y5++[O.lst []]++[O.lst []]).length,os,[],?_,?_,?_,by omega,by simp,ls1,by rw[hX5];simp⟩
  ·rw[<-Q9,<-hX5,cx (ju w1),D6 (ρ':=ρ) (S':=Y5++[O.lst []]++[O.lst []]++[O.lst []]) (u:=.tup [.ref Y1.length,.ref (Y5++[O.lst []]++[O.lst []]).length]) (by
    rw[eI,t2,Q0,Bool.not_false,jq,kq,Aq,aL,hv2]
    rfl)]
   simp only[Q9]
   rfl
  ·rw[<-Q9,<-hX5];exact ah ho5
  ·rw[<-Q9,<-hX5,<-Q9,<-Q9,ga0];rfl
 |cons c r=>
  have hw:Y5[Y4.length]?=some (.lst (([]++[c]).map U.int)):=by rw[hY5,ga0,hlf];rfl
  obtain⟨Y6,vs,d,e6,g6,l6,f6⟩:=tN (x0:=some tu) (x2:=some (.ref Y1.length)) (r3:=q3) (r5:=q5) (jk:=jk) (jl:=Y3.length) (jw:=Y4.length) (left:=left) hM hf hll (by omega) (by omega) 100 [] c Y5 (by simp;omega) (Qs _) .nil (fun a ha=>(by cases ha)) (by rw[hlf];exact QK) hk5 hl5 hw
  rw[<-hρ]at e6
  have ho6:=f6.get ho5 (by omega)
  have hl6:=f6.get hl5 (by omega)
  obtain⟨X6,hX6⟩:=f6.ext (Z:=S) (by have:=f3.len;rw[hY2]at this;simp at this;omega) ⟨X5,hX5⟩
  obtain⟨Y7,hY7⟩:∃Y7,Y7=Y6++[O.lst []]:=⟨_,rfl⟩
  have g7:Y7[Y4.length]?=some (.lst ((vs++[d]).map U.int)):=by rw[hY7];exact ah g6
  have n1:=nG false g7 (show Y7[Y6.length]?=some (.lst [])by rw[hY7,ga0];rfl)
  have t2:aA (cOp (fJ false) (ae 6) (bZ ao)) ρ Y6=some (false,Y7):=by
   rw[dD,iA,hv6,Q0,cI,hnil,<-hY7,Q0,cH,n1,decide_eq_false (by simp)]
   rfl
  obtain⟨Y8,hY8⟩:∃Y8,Y8=Y7++[O.lst ((os++left).map U.int)]:=⟨_,rfl⟩
  have a8:cOp bE (ae 2) (ae 4) ρ Y7=some (.ref Y7.length,Y8):=by
   have h1:Y7[Y1.length]?=some (.lst (os.map U.int)):=by rw[hY7];exact ah ho6
   have h2:Y7[Y3.length]?=some (.lst (left.map U.int)):=by rw[hY7];exact ah hl6
   have ec:bE (.ref Y1.length) (.ref Y3.length) Y7=dh (.ref Y1.length) (.ref Y3.length) Y7:=by simp only[bE]
   rw[iA,hv2,Q0,cI,hv4,Q0,cH,ec]
   simp only[dh,h1,h2]
   rw[if_pos (by unfold LIM;simp;omega),hY8,Qe]
  have g8:Y8[Y4.length]?=some (.lst ((vs++[d]).map U.int)):=by rw[hY8];exact ah g7
  have hneg:∀Y,fc (cC (.int 1)) ρ Y=some (.int (-1),Y):=fun Y=>by rw[kr,x_c,Q0,fQ]
  have hix:cOp fIx (ae 6) (fc (cC (.int 1))) ρ Y8=some (.int d,Y8):=by
   rw[iA,hv6,Q0,cI,hneg,Q0,cH,oK,g8,oM,Qe]
   rw[show[d].map U.int=[U.int d]from rfl,mJ]
   rfl
  have hidx:=du (S:=Y8) (a:=d) g8 (by simp) (by simp;omega)
  have hI:cBM aI (ae 6) (ab (cOp fIx (ae 6) (fc (cC (.int 1)))) ao) ρ Y8=some (.int ((vs++[d]).idxOf d:Nat),Y8):=by
   rw[AA,hv6,Q0,oP,g8,oO,aL,hix,Q0]
   show aI (.ref Y4.length) [.int d] Y8=_
   exact hidx
  obtain⟨bs,hbs⟩:∃bs,bs=((vs++[d]).drop ((vs++[d]).idxOf d+1)).reverse:=⟨_,rfl⟩
  have hB:F8 (ae 6) (cBM aI (ae 6) (ab (cOp fIx (ae 6) (fc (cC (.int 1)))) ao)) (fc (cC (.int 1))) ρ Y8=some (.ref Y8.length,Y8++[.lst (bs.map U.int)]):=by
   unfold F8
   rw[hv6,Q0]
   dsimp only
   rw[hI,Q0]
   dsimp only
   rw[hneg,Q0]
   simp only[HH,g8]
   rw[if_pos ⟨by omega,by trivial⟩,Z3,hbs,List.map_reverse,List.map_drop]
  have lb:bs.length<=20:=by rw[hbs];simp;omega
  refine⟨X6++([.lst []]++([.lst ((os++left).map U.int)]++[.lst (bs.map U.int)])),Y7.length,Y8.length,os++left,bs,?_,?_,?_,by rw[QQ];omega,lb,by rw[hY7,hX6];simp,by rw[hY8,hY7,hX6];simp⟩
  ·rw[<-Q9,<-hX6,<-Q9,<-hY7,<-Q9,<-hY8,cx e6,cx (ρ':=ρ) (S':=Y7) (by rw[eI,t2];rfl),kq,Aq,aL,a8,Q0,bz,aL,hB]
   rfl
  ·rw[<-Q9,<-hX6,<-Q9,<-hY7,<-Q9,<-hY8]
   exact ah (by rw[hY8,ga0];rfl)
  ·rw[<-Q9,<-hX6,<-Q9,<-hY7,<-Q9,<-hY8,ga0];rfl
end
def IL(lw B:Nat)(Y:Sto)(u:U):Prop:=∃(l:Nat) (ys:List Int),u=.ref l/\l≠lw/\Y[l]?=some (.lst (ys.map U.int))/\ys.length<=B
theorem IL.app{lw B:Nat}{Y:Sto}{u:U}(h:IL lw B Y u)(X:Sto):IL lw B (Y++X) u:=by
 obtain⟨l,ys,e,n,g,b⟩:=h
 exact⟨l,ys,e,n,ah g,b⟩
theorem IL.le{lw B C:Nat}{Y:Sto}{u:U}(h:IL lw B Y u)(hb:B<=C):IL lw C Y u:=by
 obtain⟨l,ys,e,n,g,b⟩:=h
 exact⟨l,ys,e,n,g,Qy b hb⟩
theorem IL.wl{lw B:Nat}{Y Y':Sto}{u:U}(h:IL lw B Y u)(w:Wl lw Y Y'):IL lw B Y' u:=by
 obtain⟨l,ys,e,n,g,b⟩:=h
 exact⟨l,ys,e,n,w.get g n,b⟩
section
variable{lw lx B C:Nat}{xs:List Int}{ρ:Rho}{ca cb:CE}
def EL(lw lx:Nat)(xs:List Int)(ρ:Rho)(B:Nat)(ce:CE):Prop:=∀Y:Sto,lw<Y.length->Y[lx]?=some (.lst (xs.map U.int))->∃G u,ce ρ Y=some (u,Y++G)/\IL lw B (Y++G) u
theorem EL.le(h:EL lw lx xs ρ B ca)(hb:B<=C):EL lw lx xs ρ C ca:=fun Y hl hx=>by
 obtain⟨G,u,e,i⟩:=h Y hl hx
 exact⟨G,u,e,i.le hb⟩
theorem FA(hv:∀Y,ca ρ Y=some (.ref lx,Y))(n:lx≠lw):EL lw lx xs ρ xs.length ca:=fun Y hl hx=>⟨[],.ref lx,by rw[QL];exact hv Y,lx,xs,rfl,n,by rw[QL];exact hx,QJ _⟩
theorem zW{k:Nat}(hv:∀Y,ca ρ Y=some (.ref lx,Y))(hk:∀Y,cb ρ Y=some (.int (k:Int),Y)):EL lw lx xs ρ xs.length (cSl ca (some cb) none):=fun Y hl hx=>by
 refine⟨[.lst ((xs.drop k).map U.int)],.ref Y.length,?_,Y.length,xs.drop k,rfl,by omega,by rw[ga0];rfl,by simp⟩
 have s1:=slF k hx
 simp only[cSl,fC,hv,hk,Q0,s1]
theorem zV{k:Nat}(hv:∀Y,ca ρ Y=some (.ref lx,Y))(hk:∀Y,cb ρ Y=some (.int (k:Int),Y)):EL lw lx xs ρ xs.length (cSl ca none (some cb)):=fun Y hl hx=>by
 refine⟨[.lst ((xs.take k).map U.int)],.ref Y.length,?_,Y.length,xs.take k,rfl,by omega,by rw[ga0];rfl,by simp;omega⟩
 have s1:=slT k hx
 simp only[cSl,fC,hv,hk,Q0,s1]
theorem FC(hv:∀Y,ca ρ Y=some (.ref lx,Y))(hk:∀Y,cb ρ Y=some (.int (-1),Y)):EL lw lx xs ρ xs.length (cOp wU ca cb):=fun Y hl hx=>by
 refine⟨[.lst (xs.reverse.map U.int)],.ref Y.length,?_,Y.length,xs.reverse,rfl,by omega,by rw[ga0];rfl,by simp⟩
 rw[iA,hv,Q0,cI,hk,Q0,cH]
 simp only[wU,hx,List.map_reverse]
 rfl
theorem FD{v:Int}(hv:∀Y,ca ρ Y=some (.int v,Y)):EL lw lx xs ρ 1 (bZ (ab ca ao)):=fun Y hl hx=>by
 refine⟨[.lst [.int v]],.ref Y.length,?_,Y.length,[v],rfl,by omega,by rw[ga0];rfl,by simp⟩
 rw[rL,aL,hv,Q0]
 rfl
theorem FE:EL lw lx xs ρ 0 (bZ ao):=fun Y hl hx=>⟨[.lst []],.ref Y.length,rfl,Y.length,[],rfl,by omega,by rw[ga0];rfl,by simp⟩
theorem jZ(ha:EL lw lx xs ρ B ca)(hb:EL lw lx xs ρ C cb)(hB:B+C<=900):EL lw lx xs ρ (B+C) (cOp bE ca cb):=fun Y hl hx=>by
 obtain⟨G1,u,e1,la,ya,rfl,na,ga,ba⟩:=ha Y hl hx
 obtain⟨G2,w,e2,lb,yb,rfl,nb,gb,bb⟩:=hb (Y++G1) (by rw[QQ];omega) (ah hx)
 have ga':(Y++G1++G2)[la]?=some (.lst (ya.map U.int)):=ah ga
 refine⟨G1++(G2++[.lst ((ya++yb).map U.int)]),.ref (Y++G1++G2).length,?_,(Y++G1++G2).length,ya++yb,rfl,by simp;omega,?_,by rw[QQ];omega⟩
 ·rw[iA,e1,Q0,cI,e2,Q0,cH]
  have ec:bE (.ref la) (.ref lb) (Y++G1++G2)=dh (.ref la) (.ref lb) (Y++G1++G2):=by simp only[bE]
  rw[ec]
  simp only[dh,ga',gb]
  rw[if_pos (by unfold LIM;simp;omega),Qe]
  simp only[Q9]
 ·rw[<-Q9,<-Q9,ga0];rfl
def EA(lw lx:Nat)(xs:List Int)(ρ:Rho)(B m:Nat)(cr:CA):Prop:=∀Y:Sto,lw<Y.length->Y[lx]?=some (.lst (xs.map U.int))->∃G us,cr ρ Y=some (us,Y++G)/\us.length=m/\∀u∈us,IL lw B (Y++G) u
theorem zX:EA lw lx xs ρ B 0 ao:=fun Y hl hx=>⟨[],[],by rw[QL];rfl,rfl,fun u hu=>(by cases hu)⟩
theorem eO{m:Nat}{cr:CA}(ha:EL lw lx xs ρ B ca)(hr:EA lw lx xs ρ B m cr):EA lw lx xs ρ B (m+1) (ab ca cr):=fun Y hl hx=>by
 obtain⟨G1,u,e1,i1⟩:=ha Y hl hx
 obtain⟨G2,us,e2,l2,i2⟩:=hr (Y++G1) (by rw[QQ];omega) (ah hx)
 refine⟨G1++G2,u::us,?_,by rw[QB,l2],fun w hw=>?_⟩
 ·rw[aL,e1,Q0,bz,e2,Q0,lL,Q9]
 ·rw[<-Q9]
  rcases QM.mp hw with rfl|z
  ·exact i1.app _
  ·exact i2 w z
theorem zE{m:Nat}{cr:CA}(hr:EA lw lx xs ρ B m cr){Y:Sto}(hl:lw<Y.length)(hx:Y[lx]?=some (.lst (xs.map U.int))):∃G us l,bZ cr ρ Y=some (.ref l,Y++G)/\(Y++G)[l]?=some (.lst us)/\us.length=m/\(∀u∈us,IL lw B (Y++G) u)/\Y.length<=l:=by
 obtain⟨G,us,e,lu,iu⟩:=hr Y hl hx
 refine⟨G++[.lst us],us,(Y++G).length,?_,?_,lu,fun u hu=>?_,by simp⟩
 ·rw[rL,e,Q0,zf,Q9]
 ·rw[<-Q9,ga0];rfl
 ·rw[<-Q9];exact(iu u hu).app _
end
def rG:Fn:=fnU 6 3 (dN cw)
section
variable{T:Sto}{lw lx:Nat}{xs:List Int}{wr lk:List (List Int)}{many:Int}{tm:U}
theorem CP(hw:∃z,T[lw]?=some (.lst [.int z]))(hx:T[lx]?=some (.lst (xs.map U.int)))(nx:lx≠lw)(hl:xs.length<=20)(m0:1<=many)(m1:many<=900) :
  ∃T' u,rG [.ref lw,aF many tm wr lk,.ref lx] T=some (u,T')/\Wl lw T T'/\IL lw 60 T' u:=by
 unfold rG
 rw[pw]
 have tix:∀ρ (Y:Sto),ρ[1]?=some (some (aF many tm wr lk))->cOp fIx (ae 1) (cC (.int 0)) ρ Y=some (.int many,Y):=fun ρ Y h=>by
  have hv:ae 1 ρ Y=some (aF many tm wr lk,Y):=by rwa[h]
  rw[iA,hv,Q0,cI,x_c,Q0,cH]
  rfl
 obtain⟨tu,htu⟩:∃tu,tu=aF many tm wr lk:=⟨_,rfl⟩
 rw[<-htu]at tix ⊢
 obtain⟨d1,T1,e1,w1,l1,d10,d11⟩:=cB (T:=T) (lw:=lw) (m:=(xs.length:Int)+1) hw (by omega) (by omega)
 have hx1:=w1.get hx nx
 obtain⟨d2,T2,e2,w2,l2,d20,d21⟩:=cB (T:=T1) (lw:=lw) (m:=many) w1.well (by omega) (by omega)
 obtain⟨T2',hT2'⟩:∃T2',T2'=T2++[O.lst [.int many,.int (-1),.int (10^20),.int d2]]:=⟨_,rfl⟩
 have w2':Wl lw T2 T2':=by rw[hT2'];exact .app w2.well _
 obtain⟨d3,T3,e3,w3,l3,d30,d31⟩:=cB (T:=T2') (lw:=lw) (m:=4) w2'.well (by omega) (by omega)
 have lw2:lw<T2.length:=by obtain⟨z,h⟩:=w2.well;exact(Q6.mp h).1
 have g3:T3[T2.length]?=some (.lst [.int many,.int (-1),.int (10^20),.int d2]):=w3.get (by rw[hT2',ga0];rfl) (by omega)
 obtain⟨v,a3⟩:∃v:Int,atI [U.int many,.int (-1),.int (10^20),.int d2] d3=some (.int v):=by
  have:d3=0\/d3=1\/d3=2\/d3=3:=by omega
  rcases this with rfl|rfl|rfl|rfl
  ·exact⟨_,rfl⟩
  ·exact⟨_,rfl⟩
  ·exact⟨_,rfl⟩
  ·exact⟨_,rfl⟩
 have hx3:T3[lx]?=some (.lst (xs.map U.int)):=w3.get (w2'.get (w2.get hx1 nx) nx) nx
 have lw3:lw<T3.length:=by obtain⟨z,h⟩:=w3.well;exact(Q6.mp h).1
 have s1:bM 3 (cCB cw (ab (ae 0) (ab (cOp bE (cCB eN (ab (ae 2) ao)) (cC (.int 1))) ao))) [some (.ref lw),some tu,some (.ref lx),none,none,none] T=some (.nx,[some (.ref lw),some tu,some (.ref lx),some (.int d1),none,none],T1):=by
  obtain⟨xu,hxu⟩:∃xu,xu=xs.map U.int:=⟨_,rfl⟩
  have lu:(xu.length:Int)=(xs.length:Int):=by rw[hxu,QZ]
  rw[<-hxu]at hx
  rwa[hx,lu,e1]
 have s2:bM 4 (cOp fIx (bZ (ab (cOp fIx (ae 1) (cC (.int 0))) (ab (fc (cC (.int 1))) (ab (cOp zR (cC (.int 10)) (cC (.int 20))) (ab (cCB cw (ab (ae 0) (ab (cOp fIx (ae 1) (cC (.int 0))) ao))) ao))))) (cCB cw (ab (ae 0) (ab (cC (.int 4)) ao)))) [some (.ref lw),some tu,some (.ref lx),some (.int d1),none,none] T1=some (.nx,[some (.ref lw),some tu,some (.ref lx),some (.int d1),some (.int v),none],T3):=by
  have ht:=fun Y=>tix [some (.ref lw),some tu,some (.ref lx),some (.int d1),none,none] Y rfl
  have hp:∀Y,zR (.int 10) (.int 20) Y=some (.int (10^20),Y):=fun Y=>by
   have:=Gp (S:=Y) (j:=10) (k:=20) ⟨by decide,by decide,by decide⟩
   exact this
  have hn:∀Y,fc (cC (.int 1)) [some (.ref lw),some tu,some (.ref lx),some (.int d1),none,none] Y=some (.int (-1),Y):=fun Y=>by rw[kr,x_c,Q0,fQ]
  have hps:∀Y,cOp zR (cC (.int 10)) (cC (.int 20)) [some (.ref lw),some tu,some (.ref lx),some (.int d1),none,none] Y=some (.int (10^20),Y):=fun Y=>by rw[iA,x_c,Q0,cI,x_c,Q0,cH,hp]
  have hsp:cCB cw (ab (ae 0) (ab (cOp fIx (ae 1) (cC (.int 0))) ao)) [some (.ref lw),some tu,some (.ref lx),some (.int d1),none,none] T1=some (.int d2,T2):=by
   have hv0:ae 0 [some (.ref lw),some tu,some (.ref lx),some (.int d1),none,none] T1=some (.ref lw,T1):=rfl
   rw[oN,aL,hv0,Q0,bz,aL,ht,Q0]
   exact e2
  have hls:bZ (ab (cOp fIx (ae 1) (cC (.int 0))) (ab (fc (cC (.int 1))) (ab (cOp zR (cC (.int 10)) (cC (.int 20))) (ab (cCB cw (ab (ae 0) (ab (cOp fIx (ae 1) (cC (.int 0))) ao))) ao)))) [some (.ref lw),some tu,some (.ref lx),some (.int d1),none,none] T1=some (.ref T2.length,T2'):=by
   rw[rL,aL,ht,Q0,bz,aL,hn,Q0,bz,aL,hps,Q0,bz,aL,hsp,Q0,hT2']
   rfl
  have hs4:cCB cw (ab (ae 0) (ab (cC (.int 4)) ao)) [some (.ref lw),some tu,some (.ref lx),some (.int d1),none,none] T2'=some (.int d3,T3):=e3
  rw[fM,iA,hls,Q0,cI,hs4,Q0,cH,oK,g3,oM,a3]
  rfl
 obtain⟨k,rfl⟩:∃k:Nat,d1=(k:Int):=⟨d1.toNat,by omega⟩
 obtain⟨N,hN⟩:∃N,N=xs.length:=⟨_,rfl⟩
 have EB:∀r5:Option U,EL lw lx xs [some (.ref lw),some tu,some (.ref lx),some (.int (k:Int)),some (.int v),r5] xs.length (ae 2)/\EL lw lx xs [some (.ref lw),some tu,some (.ref lx),some (.int (k:Int)),some (.int v),r5] xs.length (cOp wU (ae 2) (fc (cC (.int 1))))/\EL lw lx xs [some (.ref lw),some tu,some (.ref lx),some (.int (k:Int)),some (.int v),r5] xs.length (cSl (ae 2) (some (ae 3)) none)/\EL lw lx xs [some (.ref lw),some tu,some (.ref lx),some (.int (k:Int)),some (.int v),r5] xs.length (cSl (ae 2) none (some (ae 3)))/\EL lw lx xs [some (.ref lw),some tu,some (.ref lx),some (.int (k:Int)),some (.int v),r5] xs.length (cSl (ae 2) (some (cOp bE (ae 3) (cC (.int 1)))) none)/\EL lw lx xs [some (.ref lw),some tu,some (.ref lx),some (.int (k:Int)),some (.int v),r5] 1 (bZ (ab (ae 4) ao))/\EL lw lx xs [some (.ref lw),some tu,some (.ref lx),some (.int (k:Int)),some (.int v),r5] xs.length (cSl (ae 2) none (some (cC (.int 1)))):=fun r5=>
  ⟨FA (fun _=>rfl) nx,FC (fun _=>rfl) (fun Y=>by rw[kr,x_c,Q0,fQ]),zW (fun _=>rfl) (fun _=>rfl),zV (fun _=>rfl) (fun _=>rfl),zW (k:=k+1) (fun _=>rfl) (fun _=>rfl),FD (fun _=>rfl),zV (k:=1) (fun _=>rfl) (fun _=>rfl)⟩
 obtain⟨b0,b1,b2,b3,b4,b5,b6⟩:=EB none
 have A1:=eO (B:=60) (b0.le (by omega)) (eO (b1.le (by omega)) (eO ((jZ b2 b3 (by omega)).le (by omega)) (eO ((jZ b3 b4 (by omega)).le (by omega)) (eO ((jZ (jZ b3 b5 (by omega)) b2 (by omega)).le (by omega)) zX))))
 obtain⟨G4,us,j4,e4,g4,lu,iu,lj4⟩:=zE A1 lw3 hx3
 obtain⟨T4,hT4⟩:∃T4,T4=T3++G4:=⟨_,rfl⟩
 rw[<-hT4]at e4 g4 iu
 have hx4:T4[lx]?=some (.lst (xs.map U.int)):=by rw[hT4];exact ah hx3
 obtain⟨c0,c1,c2,c3,c4,c5,c6⟩:=EB (some (.ref j4))
 have A2:=eO (B:=60) ((jZ c0 c6 (by omega)).le (by omega)) (eO ((jZ (jZ c3 c5 (by omega)) c4 (by omega)).le (by omega)) (eO (FE.le (by omega)) (eO (c3.le (by omega)) zX)))
 obtain⟨G5,ws,j5,e5,g5,lws,iws,lj5⟩:=zE A2 (Y:=T4) (by rw[hT4,QQ];omega) hx4
 obtain⟨T5,hT5⟩:∃T5,T5=T4++G5:=⟨_,rfl⟩
 rw[<-hT5]at e5 g5 iws
 have g45:T5[j4]?=some (.lst us):=by rw[hT5];exact ah g4
 obtain⟨T6,hT6⟩:∃T6,T6=T5++[O.lst (us++ws)]:=⟨_,rfl⟩
 have a6:bE (.ref j4) (.ref j5) T5=some (.ref T5.length,T6):=by
  have ec:bE (.ref j4) (.ref j5) T5=dh (.ref j4) (.ref j5) T5:=by simp only[bE]
  rw[ec]
  simp only[dh,g45,g5]
  rw[if_pos (by unfold LIM;omega),hT6]
 have w6:Wl lw T3 T6:=by
  rw[hT6,hT5,hT4]
  have h0:=Wl.app w3.well G4
  have h1:=Wl.app h0.well G5
  exact(h0.trans h1).trans (.app h1.well _)
 obtain⟨d7,T7,e7,w7,l7,d70,d71⟩:=cB (T:=T6) (lw:=lw) (m:=9) w6.well (by omega) (by omega)
 have lw6:lw<T5.length:=by rw[hT5,hT4];simp;omega
 have g7:T7[T5.length]?=some (.lst (us++ws)):=w7.get (by rw[hT6,ga0];rfl) (by omega)
 have lt:d7.toNat<(us++ws).length:=by rw[QQ];omega
 have a7:atI (us++ws) d7=some (us++ws)[d7.toNat]:=by
  have:=eB (Q7 lt)
  rw[Int.toNat_of_nonneg d70]at this
  exact this
 refine⟨T7,(us++ws)[d7.toNat],?_,((((w1.trans w2).trans w2').trans w3).trans w6).trans w7,?_⟩
 ·unfold dN
  rw[cx s1,cx s2]
  rw[cx (ρ':=[some (.ref lw),some tu,some (.ref lx),some (.int (k:Int)),some (.int v),some (.ref j4)]) (S':=T4) (by rw[fM,e4];rfl)]
  rw[cx (ρ':=[some (.ref lw),some tu,some (.ref lx),some (.int (k:Int)),some (.int v),some (.ref T5.length)]) (S':=T6) (by
   have hv5:ae 5 [some (.ref lw),some tu,some (.ref lx),some (.int (k:Int)),some (.int v),some (.ref j4)] T4=some (.ref j4,T4):=rfl
   rw[fM,iA,hv5,Q0,cI,e5,Q0,cH,a6];rfl)]
  have hv5:ae 5 [some (.ref lw),some tu,some (.ref lx),some (.int (k:Int)),some (.int v),some (.ref T5.length)] T6=some (.ref T5.length,T6):=rfl
  have hs9:cCB cw (ab (ae 0) (ab (cC (.int 9)) ao)) [some (.ref lw),some tu,some (.ref lx),some (.int (k:Int)),some (.int v),some (.ref T5.length)] T6=some (.int d7,T7):=e7
  rw[kq,iA,hv5,Q0,cI,hs9,Q0,cH,oK,g7,oM,a7]
  rfl
 ·have hm:(us++ws)[d7.toNat]∈us++ws:=Z8 lt
  have i5:IL lw 60 T5 (us++ws)[d7.toNat]:=by
   rcases Qt.mp hm with z|z
   ·rw[hT5];exact(iu _ z).app _
   ·exact iws _ z
  have i6:IL lw 60 T6 (us++ws)[d7.toNat]:=by rw[hT6];exact i5.app _
  exact i6.wl w7
end
end OQ
namespace OL
open PySem PySem.Spec PyProof.Rows L2 OG OP OQ
abbrev fL(f:Fn->Fn->Fn->Fn->Fn->Fn->Fn->Fn->Fn->CS):CS:=f wJ wL pJ dk rG wM wK iR lJ
theorem zH{k:Nat}{S:Sto}{b:Bool}:Lay k S (.bl b):=⟨_,.bl b,rfl,Qs _⟩
section
variable{ns:List Int}{lw:Nat}{many:Int}{tms:List (Int×Int)}{wr lk:List (List Int)}{r1 r4 r5 r6 r7 r9 r10:Option U}{Y:Sto}
theorem yZ(T:fe many tms wr lk)(m0:1<=many)(hm:many<=7){l:Nat}{xs:List Int}(hx:Y[l]?=some (.lst (xs.map U.int)))(hl:xs.length<=60)(r9 r10:Option U) :
  ∃G r9' r10',fL mH [some (.kl ns),r1,some (.ref lw),some (aF many (.tup (tms.map pP)) wr lk),r4,r5,r6,r7,some (.ref l),r9,r10] Y=some (.nx,[some (.kl ns),r1,some (.ref lw),some (aF many (.tup (tms.map pP)) wr lk),r4,r5,r6,r7,some (.ref l),r9',r10'],Y++G):=by
 obtain⟨tu,htu⟩:∃tu,tu=aF many (.tup (tms.map pP)) wr lk:=⟨_,rfl⟩
 obtain⟨M,hM⟩:∃M,M=c7 (mr tms wr lk):=⟨_,rfl⟩
 obtain⟨Y1,hY1⟩:∃Y1,Y1=Y++[O.lst (xs.map U.int)]:=⟨_,rfl⟩
 have h1:Y1[Y.length]?=some (.lst (xs.map U.int)):=by rw[hY1,ga0];rfl
 obtain⟨G2,e2⟩:=Ba (S:=Y1) T m0 hm h1 (by omega)
 rw[<-htu,<-hM]at e2
 obtain⟨Y2,hY2⟩:∃Y2,Y2=Y1++G2:=⟨_,rfl⟩
 rw[<-hY2]at e2
 have h2:Y2[Y.length]?=some (.lst (xs.map U.int)):=by rw[hY2];exact ah h1
 obtain⟨G3,e3⟩:=Bq (S:=Y2) T hm h2 (by omega)
 rw[<-htu,<-hM]at e3
 obtain⟨Y3,hY3⟩:∃Y3,Y3=Y2++G3:=⟨_,rfl⟩
 rw[<-hY3]at e3
 obtain⟨a,ha⟩:∃a,a=vD many M xs:=⟨_,rfl⟩
 obtain⟨b,hb⟩:∃b,b=nN M xs:=⟨_,rfl⟩
 rw[<-ha]at e2
 rw[<-hb]at e3
 obtain⟨Y4,hY4⟩:∃Y4,Y4=Y3++[O.lst [.bl a,.bl b]]:=⟨_,rfl⟩
 have g4:Y4[Y3.length]?=some (.lst [.bl a,.bl b]):=by rw[hY4,ga0];rfl
 obtain⟨Y5,hY5⟩:∃Y5,Y5=Y4++[O.lst [.bl true,.bl true]]:=⟨_,rfl⟩
 have h5:Y5[Y.length]?=some (.lst (xs.map U.int)):=by rw[hY5,hY4,hY3];exact ah (ah (ah h2))
 have hx5:Y5[l]?=some (.lst (xs.map U.int)):=by rw[hY5,hY4,hY3,hY2,hY1];exact ah (ah (ah (ah (ah hx))))
 have g5:Y5[Y3.length]?=some (.lst [.bl a,.bl b]):=by rw[hY5];exact ah g4
 obtain⟨G6,e6⟩:=Cc (S:=Y5) T m0 hm hx5 (by omega)
 rw[<-htu,<-hM,<-ha]at e6
 obtain⟨Y6,hY6⟩:∃Y6,Y6=Y5++G6:=⟨_,rfl⟩
 rw[<-hY6]at e6
 obtain⟨G7,e7⟩:=yp (S:=Y6) T hm (by rw[hY6];exact ah hx5) (by omega)
 rw[<-htu,<-hM,<-hb]at e7
 obtain⟨Y7,hY7⟩:∃Y7,Y7=Y6++G7:=⟨_,rfl⟩
 rw[<-hY7]at e7
 obtain⟨Y8,hY8⟩:∃Y8,Y8=Y7++[O.lst [.bl a,.bl b]]:=⟨_,rfl⟩
 refine⟨[O.lst (xs.map U.int)]++(G2++(G3++([O.lst [.bl a,.bl b]]++([O.lst [.bl true,.bl true]]++(G6++(G7++[O.lst [.bl a,.bl b]])))))),some (.ref Y.length),some (.ref Y3.length),?_⟩
 rw[<-Q9,<-hY1,<-Q9,<-hY2,<-Q9,<-hY3,<-Q9,<-hY4,<-Q9,<-hY5,<-Q9,<-hY6,<-Q9,<-hY7,<-hY8,<-htu]
 unfold fL mH
 obtain⟨ρ,hρ⟩:∃ρ:Rho,ρ=[some (.kl ns),r1,some (.ref lw),some tu,r4,r5,r6,r7,some (.ref l),some (.ref Y.length),some (.ref Y3.length)]:=⟨_,rfl⟩
 rw[cx (ρ':=[some (.kl ns),r1,some (.ref lw),some tu,r4,r5,r6,r7,some (.ref l),some (.ref Y.length),r10]) (S':=Y1) (by
  obtain⟨xu,hxu⟩:∃xu,xu=xs.map U.int:=⟨_,rfl⟩
  rw[hY1]
  rw[<-hxu]at hx ⊢
  rwa[hx])]
 rw[cx (ρ':=ρ) (S':=Y4) (by
  rw[hY4,hρ]
  rwa[e2,e3])]
 have hv3:∀Y,ae 3 ρ Y=some (tu,Y):=fun Y=>by rw[hρ];rfl
 have hv8:∀Y,ae 8 ρ Y=some (.ref l,Y):=fun Y=>by rw[hρ];rfl
 have hv9:∀Y',ae 9 ρ Y'=some (.ref Y.length,Y'):=fun Y=>by rw[hρ];rfl
 have hv10:∀Y',ae 10 ρ Y'=some (.ref Y3.length,Y'):=fun Y=>by rw[hρ];rfl
 have hr:gJ 1 [] ρ=[none]:=by rw[hρ];rfl
 have ec:=eE (S:=Y4) (ok:=fun S=>S[Y3.length]?=some (.lst [.bl a,.bl b])) (gg:=gNm 0) (ce:=wW .bool (ae 0)) (f:=U.bl) (v:=fun _=>.bl true) (Rel:=fun ρ=>∃r0,ρ=[r0]) (fun ys G=>ah g4) [a,b] [] [] [none] ⟨_,rfl⟩ (by simp) (fun x hx ys G ρ hρ=>by
  obtain⟨r0,rfl⟩:=hρ
  refine⟨[some (.bl x)],⟨_,rfl⟩,rfl,?_⟩
  have t0:∀T,tyU (.bl x) T=some .bool:=fun T=>rfl
  have t1:zj .bool .bool=true:=rfl
  rwa[t0,t1])
 have hcomp:bR (iTp (ae 10)) (gNm 0) (wW .bool (ae 0)) 1 [] ρ Y4=some (.ref Y4.length,Y5):=by
  have ec':fO (fun S=>S[Y3.length]?=some (.lst [.bl a,.bl b])) (gNm 0) (wW .bool (ae 0)) Y4.length [.bl a,.bl b] [none] (Y4++[.lst []])=some Y5:=by rw[hY5];exact ec
  unfold bR iTp
  rw[hv10,Q0]
  simp only[g4,Q0,hr,ec']
 have hall:jW [.ref Y4.length] Y5=some (.bl true,Y5):=HQ (bs:=[true,true]) (by rw[hY5,ga0];rfl)
 have t3:aA (cCB jW (ab (bR (iTp (ae 10)) (gNm 0) (wW .bool (ae 0)) 1 []) ao)) ρ Y4=some (true,Y5):=by
  have a1:ab (bR (iTp (ae 10)) (gNm 0) (wW .bool (ae 0)) 1 []) ao ρ Y4=some ([.ref Y4.length],Y5):=by
   rw[aL,hcomp,Q0];rfl
  rw[dD,oN,a1,Q0,mO,hall]
  rfl
 have n5:fJ true (.ref Y.length) (.ref l) Y5=some (.bl false,Y5):=by
  have:=qY true h5 hx5
  rw[this,decide_eq_true rfl]
  rfl
 have t4:aA (cOp (fJ true) (ae 9) (ae 8)) ρ Y5=some (false,Y5):=by
  rw[dD,iA,hv9,Q0,cI,hv8,Q0,cH,n5]
  rfl
 rw[cx (ρ':=ρ) (S':=Y5) (by rw[eI,As,rK,t3,Q0,kJ,Q0,Zr,oJ,t4];rfl)]
 have g8:Y8[Y3.length]?=some (.lst [.bl a,.bl b]):=by rw[hY8,hY7,hY6];exact ah (ah (ah g5))
 have g8':Y8[Y7.length]?=some (.lst [.bl a,.bl b]):=by rw[hY8,ga0];rfl
 have n8:fJ true (.ref Y3.length) (.ref Y7.length) Y8=some (.bl false,Y8):=kH.ne (kH.lst (k:=0) g8 g8' (fT.all fun u hu=>by
  simp only[QM,Z5,or_false]at hu
  rcases hu with rfl|rfl
  ·exact zH
  ·exact zH)) (by omega)
 have hls:bZ (ab (cCB lJ (ab (ae 3) (ab (ae 8) ao))) (ab (cCB iR (ab (ae 3) (ab (ae 8) ao))) ao)) ρ Y5=some (.ref Y7.length,Y8):=by
  have c1:cCB lJ (ab (ae 3) (ab (ae 8) ao)) ρ Y5=some (.bl a,Y6):=by
   rw[oN,aL,hv3,Q0,bz,aL,hv8,Q0]
   exact e6
  have c2:cCB iR (ab (ae 3) (ab (ae 8) ao)) ρ Y6=some (.bl b,Y7):=by
   rw[oN,aL,hv3,Q0,bz,aL,hv8,Q0]
   exact e7
  rw[rL,aL,c1,Q0,bz,aL,c2,Q0,hY8]
  rfl
 have t5:aA (cOp (fJ true) (ae 10) (bZ (ab (cCB lJ (ab (ae 3) (ab (ae 8) ao))) (ab (cCB iR (ab (ae 3) (ab (ae 8) ao))) ao)))) ρ Y5=some (false,Y8):=by
  rw[dD,iA,hv10,Q0,cI,hls,Q0,cH,n8]
  rfl
 rw[eI,t5,hρ]
 rfl
theorem rn(T:fe many tms wr lk)(m0:1<=many)(hm:many<=7){jL:Nat}{us0:List U}:∀(us:List U) (Y:Sto) (r8 r9 r10:Option U),(∀u∈us,IL lw 60 Y u)->Y[jL]?=some (.lst us0)->
  ∃G r8' r9' r10',cU (fun S=>S[jL]?=some (.lst us0)) (gNm 8) (fL mH) us [some (.kl ns),r1,some (.ref lw),some (aF many (.tup (tms.map pP)) wr lk),r4,r5,r6,r7,r8,r9,r10] Y=some (.nx,[some (.kl ns),r1,some (.ref lw),some (aF many (.tup (tms.map pP)) wr lk),r4,r5,r6,r7,r8',r9',r10'],Y++G)
 |[],Y,r8,r9,r10,_,hL=>⟨[],r8,r9,r10,by rw[QL];exact bV hL⟩
 |u::us,Y,r8,r9,r10,hu,hL=>by
  obtain⟨l,xs,rfl,_,hx,hl⟩:=hu u QK
  obtain⟨G1,s9,s10,e⟩:=yZ (ns:=ns) (lw:=lw) (r1:=r1) (r4:=r4) (r5:=r5) (r6:=r6) (r7:=r7) T m0 hm hx hl r9 r10
  obtain⟨G',t8,t9,t10,ih⟩:=rn T m0 hm us (Y++G1) (some (.ref l)) s9 s10 (fun w hw=>(hu w (QU _ hw)).app _) (ah hL)
  exact⟨G1++G',t8,t9,t10,((dg hL rfl e).trans ih).trans (by rw[Q9])⟩
theorem rb{lw B jL:Nat}{Y:Sto}{u:U}{us:List U}(h:IL lw B Y u)(hL:Y[jL]?=some (.lst us))(hr:∃r,U.ref r∈us)(o:O):IL lw B (Y.set jL o) u:=by
 obtain⟨l,ys,e,n,g,b⟩:=h
 refine⟨l,ys,e,n,?_,b⟩
 rw[Qb fun z=>?_]
 ·exact g
 ·subst z
  rw[hL]at g
  obtain⟨r,hr⟩:=hr
  have e:=Option.some.inj g
  injection e with e
  rw[e]at hr
  obtain⟨x,_,hx⟩:=Qa.mp hr
  cases hx
theorem wt(m0:1<=many)(hm:many<=7){ja jb jL:Nat}{us:List U}{tm:U}{i:Nat}(hw:∃z,Y[lw]?=some (.lst [.int z]))(ia:IL lw 20 Y (.ref ja))(ib:IL lw 20 Y (.ref jb))(hL:Y[jL]?=some (.lst us))(nL:jL≠lw)(hu:∀u∈us,IL lw 60 Y u)(hn:us≠[])(ll:us.length<=900){r8 r9 r10:Option U} :
  ∃Y' u,fL mI [some (.kl ns),r1,some (.ref lw),some (aF many tm wr lk),some (.ref ja),some (.ref jb),some (.ref jL),some (.int (i:Int)),r8,r9,r10] Y=some (.nx,[some (.kl ns),r1,some (.ref lw),some (aF many tm wr lk),some (.ref ja),some (.ref jb),some (.ref jL),some (.int (i:Int)),r8,r9,r10],Y')/\(∃z,Y'[lw]?=some (.lst [.int z]))/\IL lw 20 Y' (.ref ja)/\IL lw 20 Y' (.ref jb)/\Y'[jL]?=some (.lst (us++[u]))/\∀w∈us++[u],IL lw 60 Y' w:=by
 obtain⟨tu,htu⟩:∃tu,tu=aF many tm wr lk:=⟨_,rfl⟩
 obtain⟨Y1,hY1⟩:∃Y1,Y1=Y++[O.lst [.ref ja,.ref jb]]:=⟨_,rfl⟩
 have w1:Wl lw Y Y1:=by rw[hY1];exact .app hw _
 have g1:Y1[Y.length]?=some (.lst [.ref ja,.ref jb]):=by rw[hY1,ga0];rfl
 obtain⟨j,aj,ij⟩:∃j,atI [U.ref ja,.ref jb] ((i:Int) % 2)=some (.ref j)/\IL lw 20 Y (.ref j):=by
  have:(i:Int) % 2=0\/(i:Int) % 2=1:=by omega
  rcases this with h|h<;>rw[h]
  ·exact⟨ja,rfl,ia⟩
  ·exact⟨jb,rfl,ib⟩
 obtain⟨l,xs,el,nl,hx,hl⟩:=ij.wl w1
 cases el
 obtain⟨T',u,e2,w2,iu⟩:=CP (T:=Y1) (tm:=tm) (wr:=wr) (lk:=lk) w1.well hx nl hl m0 (by omega)
 rw[<-htu]at e2
 have w12:=w1.trans w2
 have hL2:=w12.get hL nL
 have hr:∃r,U.ref r∈us:=by
  cases us with
  |nil=>exact absurd rfl hn
  |cons w r=>
   obtain⟨l',_,e,_⟩:=hu w QK
   exact⟨l',e▸QK⟩
 have lj:jL<T'.length:=(Q6.mp hL2).1
 refine⟨T'.set jL (.lst (us++[u])),u,?_,?_,rb (ia.wl w12) hL2 hr _,rb (ib.wl w12) hL2 hr _,by rw[Qp,if_pos rfl,if_pos lj],fun w hw'=>?_⟩
 ·have hA:us.length<LIM:=by unfold LIM;omega
  have hv6:ae 6 [some (.kl ns),r1,some (.ref lw),some tu,some (.ref ja),some (.ref jb),some (.ref jL),some (.int (i:Int)),r8,r9,r10] Y=some (.ref jL,Y):=rfl
  have hm2:mM (.int (i:Int)) (.int 2) Y1=some (.int ((i:Int) % 2),Y1):=sW (by decide)
  have hls:bZ (ab (ae 4) (ab (ae 5) ao)) [some (.kl ns),r1,some (.ref lw),some tu,some (.ref ja),some (.ref jb),some (.ref jL),some (.int (i:Int)),r8,r9,r10] Y=some (.ref Y.length,Y1):=by rw[hY1];rfl
  have hix:cOp fIx (bZ (ab (ae 4) (ab (ae 5) ao))) (cOp mM (ae 7) (cC (.int 2))) [some (.kl ns),r1,some (.ref lw),some tu,some (.ref ja),some (.ref jb),some (.ref jL),some (.int (i:Int)),r8,r9,r10] Y=some (.ref j,Y1):=by
   have hmd:cOp mM (ae 7) (cC (.int 2)) [some (.kl ns),r1,some (.ref lw),some tu,some (.ref ja),some (.ref jb),some (.ref jL),some (.int (i:Int)),r8,r9,r10] Y1=some (.int ((i:Int) % 2),Y1):=hm2
   rw[iA,hls,Q0,cI,hmd,Q0,cH,oK,g1,oM,aj]
   rfl
  have hb:cCB rG (ab (ae 2) (ab (ae 3) (ab (cOp fIx (bZ (ab (ae 4) (ab (ae 5) ao))) (cOp mM (ae 7) (cC (.int 2)))) ao))) [some (.kl ns),r1,some (.ref lw),some tu,some (.ref ja),some (.ref jb),some (.ref jL),some (.int (i:Int)),r8,r9,r10] Y=some (u,T'):=by
   have hv2:ae 2 [some (.kl ns),r1,some (.ref lw),some tu,some (.ref ja),some (.ref jb),some (.ref jL),some (.int (i:Int)),r8,r9,r10] Y=some (.ref lw,Y):=rfl
   have hv3:ae 3 [some (.kl ns),r1,some (.ref lw),some tu,some (.ref ja),some (.ref jb),some (.ref jL),some (.int (i:Int)),r8,r9,r10] Y=some (tu,Y):=rfl
   rw[oN,aL,hv2,Q0,bz,aL,hv3,Q0,bz,aL,hix,Q0]
   exact e2
  rw[<-htu]
  unfold fL mI
  rw[kK,AA,hv6,Q0,oP,hL,oO,aL,hb,Q0]
  rwa[hL2,js hA]
 ·obtain⟨z,hz⟩:=w12.well
  exact⟨z,by rw[Qb nL];exact hz⟩
 ·rcases Qt.mp hw' with z|z
  ·exact rb ((hu w z).wl w12) hL2 hr _
  ·rw[Qn.mp z]
   exact rb iu hL2 hr _
theorem oC(m0:1<=many)(hm:many<=7){ja jb jL:Nat}(nL:jL≠lw){tm:U}{r8 r9 r10:Option U}:∀(is:List Nat) (us:List U) (Y:Sto) (r7:Option U),(∃z,Y[lw]?=some (.lst [.int z]))->IL lw 20 Y (.ref ja)->IL lw 20 Y (.ref jb)->Y[jL]?=some (.lst us)->(∀u∈us,IL lw 60 Y u)->us≠[]->us.length+is.length<=900->
  ∃Y' us' r7',cU (fun _=>True) (gNm 7) (fL mI) (is.map fun i:Nat=>U.int (i:Int)) [some (.kl ns),r1,some (.ref lw),some (aF many tm wr lk),some (.ref ja),some (.ref jb),some (.ref jL),r7,r8,r9,r10] Y=some (.nx,[some (.kl ns),r1,some (.ref lw),some (aF many tm wr lk),some (.ref ja),some (.ref jb),some (.ref jL),r7',r8,r9,r10],Y')/\Y'[jL]?=some (.lst us')/\∀u∈us',IL lw 60 Y' u
 |[],us,Y,r7,_,_,_,hL,hu,_,_=>⟨Y,us,r7,bV trivial,hL,hu⟩
 |i::is,us,Y,r7,hw,ia,ib,hL,hu,hn,hl=>by
  rw[QB]at hl
  obtain⟨Y1,u,e1,w1,a1,b1,g1,u1⟩:=wt (ns:=ns) (r1:=r1) (tm:=tm) (wr:=wr) (lk:=lk) (i:=i) (r8:=r8) (r9:=r9) (r10:=r10) m0 hm hw ia ib hL nL hu hn (by omega)
  obtain⟨Y',us',q7,e2,g2,u2⟩:=oC m0 hm nL is (us++[u]) Y1 (some (.int (i:Int))) w1 a1 b1 g1 u1 (by simp) (by rw[QQ];simp;omega)
  exact⟨Y',us',q7,(dg trivial rfl e1).trans e2,g2,u2⟩
end
theorem zI{ns:List Int}:∀(is:List Nat) (T:Sto) (r1 r2 r3 r4 r5 r6 r7 r8 r9 r10:Option U),
  ∃(T':Sto) (q1 q2 q3 q4 q5 q6 q7 q8 q9 q10:Option U),cU (fun _=>True) (gNm 1) (fL pG) (is.map fun i:Nat=>U.int (i:Int)) [some (.kl ns),r1,r2,r3,r4,r5,r6,r7,r8,r9,r10] T=some (.nx,[some (.kl ns),q1,q2,q3,q4,q5,q6,q7,q8,q9,q10],T')
 |[],T,r1,r2,r3,r4,r5,r6,r7,r8,r9,r10=>⟨T,r1,r2,r3,r4,r5,r6,r7,r8,r9,r10,bV trivial⟩
 |i::is,T,r1,r2,r3,r4,r5,r6,r7,r8,r9,r10=>by
  obtain⟨z,e1⟩:=A3 (S:=T) ns (k:=(i:Int)) (by omega)
  obtain⟨T1,hT1⟩:∃T1,T1=T++[O.lst [.int z]]:=⟨_,rfl⟩
  rw[<-hT1]at e1
  have g1:∃z,T1[T.length]?=some (.lst [.int z]):=⟨z,by rw[hT1,ga0];rfl⟩
  have l1:T1.length=T.length+1:=by rw[hT1];simp
  obtain⟨many,tms,wr,lk,T2,e2,w2,⟨m0,m1⟩,ti⟩:=xD (most:=7) g1 (by omega) (by omega)
  obtain⟨G3,ja,jb,as,bs,e3,ga3,gb3,la,lb,na,nb⟩:=yO (S:=T2) ti m0 m1
  obtain⟨tm,htm⟩:∃tm,tm=U.tup (tms.map pP):=⟨_,rfl⟩
  obtain⟨tu,htu⟩:∃tu,tu=aF many tm wr lk:=⟨_,rfl⟩
  rw[<-htm,<-htu]at e2 e3
  have l2:=w2.len
  obtain⟨T3,hT3⟩:∃T3,T3=T2++G3:=⟨_,rfl⟩
  rw[<-hT3]at e3 ga3 gb3
  have w3:Wl T.length T2 T3:=by rw[hT3];exact .app w2.well _
  obtain⟨os,T4,jm,e4,gm4,nm,w4,lm,_,_⟩:=qH (T:=T3) (lw:=T.length) (many:=many) w3.well (by omega) (by omega)
  have l3:=w3.len
  have ia4:IL T.length 20 T4 (.ref ja):=IL.wl ⟨ja,as,rfl,by omega,ga3,la⟩ w4
  have ib4:IL T.length 20 T4 (.ref jb):=IL.wl ⟨jb,bs,rfl,by omega,gb3,lb⟩ w4
  have im4:IL T.length 60 T4 (.ref jm):=⟨jm,os,rfl,by omega,gm4,by rw[lm];omega⟩
  have l4:=w4.len
  obtain⟨us,hus⟩:∃us,us=[U.ref ja,.ref jb,.ref jm,.ref T4.length,.ref (T4.length+1)]:=⟨_,rfl⟩
  obtain⟨T5,hT5⟩:∃T5,T5=T4++[O.lst [.int 0],.lst [],.lst us]:=⟨_,rfl⟩
  have w5:Wl T.length T4 T5:=by rw[hT5];exact .app w4.well _
  have gL:T5[T4.length+2]?=some (.lst us):=by rw[hT5,ga];rfl
  have hu5:∀u∈us,IL T.length 60 T5 u:=fun u hu=>by
   rw[hus]at hu
   simp only[QM,Z5,or_false]at hu
   rcases hu with rfl|rfl|rfl|rfl|rfl
   ·exact(ia4.wl w5).le (by omega)
   ·exact(ib4.wl w5).le (by omega)
   ·exact im4.wl w5
   ·exact⟨T4.length,[0],rfl,by omega,by rw[hT5,ga0];rfl,by simp⟩
   ·exact⟨T4.length+1,[],rfl,by omega,by rw[hT5,ga];rfl,by simp⟩
  obtain⟨T6,us6,q7,e6,g6,u6⟩:=oC (ns:=ns) (r1:=some (.int (i:Int))) (tm:=tm) (wr:=wr) (lk:=lk) (lw:=T.length) (ja:=ja) (jb:=jb) (jL:=T4.length+2) (r8:=r8) (r9:=r9) (r10:=r10) m0 m1 (by omega) (Qj 4) us T5 r7 w5.well (ia4.wl w5) (ib4.wl w5) gL hu5 (by rw[hus];simp) (by rw[hus];simp)
  obtain⟨G7,q8,q9,q10,e7⟩:=rn (ns:=ns) (r1:=some (.int (i:Int))) (r4:=some (.ref ja)) (r5:=some (.ref jb)) (r6:=some (.ref (T4.length+2))) (r7:=q7) (lw:=T.length) (jL:=T4.length+2) (us0:=us6) ti m0 m1 us6 T6 r8 r9 r10 u6 g6
  rw[<-htm,<-htu]at e7
  rw[<-htu]at e6
  obtain⟨T',p1,p2,p3,p4,p5,p6,p7,p8,p9,p10,ih⟩:=zI is (T6++G7) (some (.int (i:Int))) (some (.ref T.length)) (some tu) (some (.ref ja)) (some (.ref jb)) (some (.ref (T4.length+2))) q7 q8 q9 q10
  refine⟨T',p1,p2,p3,p4,p5,p6,p7,p8,p9,p10,(dg trivial rfl ?_).trans ih⟩
  unfold fL pG
  rw[cx (ρ':=[some (.kl ns),some (.int (i:Int)),some (.ref T.length),r3,r4,r5,r6,r7,r8,r9,r10]) (S':=T1) (by rwa[e1])]
  rw[cx (ρ':=[some (.kl ns),some (.int (i:Int)),some (.ref T.length),some tu,r4,r5,r6,r7,r8,r9,r10]) (S':=T2) (by rwa[e2])]
  rw[cx (ρ':=[some (.kl ns),some (.int (i:Int)),some (.ref T.length),some tu,some (.ref ja),some (.ref jb),r6,r7,r8,r9,r10]) (S':=T3) (by rwa[e3])]
  rw[cx (ρ':=[some (.kl ns),some (.int (i:Int)),some (.ref T.length),some tu,some (.ref ja),some (.ref jb),some (.ref (T4.length+2)),r7,r8,r9,r10]) (S':=T5) (by
   obtain⟨ρ,hρ⟩:∃ρ:Rho,ρ=[some (.kl ns),some (.int (i:Int)),some (.ref T.length),some tu,some (.ref ja),some (.ref jb),r6,r7,r8,r9,r10]:=⟨_,rfl⟩
   have hv2:∀Y,ae 2 ρ Y=some (.ref T.length,Y):=fun Y=>by rw[hρ];rfl
   have hv3:∀Y,ae 3 ρ Y=some (tu,Y):=fun Y=>by rw[hρ];rfl
   have hv4:∀Y,ae 4 ρ Y=some (.ref ja,Y):=fun Y=>by rw[hρ];rfl
   have hv5:∀Y,ae 5 ρ Y=some (.ref jb,Y):=fun Y=>by rw[hρ];rfl
   have hix:cOp fIx (ae 3) (cC (.int 0)) ρ T3=some (.int many,T3):=by
    rw[iA,hv3,Q0,cI,x_c,Q0,cH,htu]
    rfl
   have hmx:cCB dk (ab (ae 2) (ab (cOp fIx (ae 3) (cC (.int 0))) ao)) ρ T3=some (.ref jm,T4):=by
    rw[oN,aL,hv2,Q0,bz,aL,hix,Q0]
    exact e4
   have h0:bZ (ab (cC (.int 0)) ao) ρ T4=some (.ref T4.length,T4++[.lst [.int 0]]):=rfl
   have h1:bZ ao ρ (T4++[O.lst [.int 0]])=some (.ref (T4.length+1),T4++[.lst [.int 0]]++[.lst []]):=by
    have:(T4++[O.lst [.int 0]]).length=T4.length+1:=by simp
    rw[<-this];rfl
   have hl:(T4++[O.lst [.int 0]]++[O.lst []]).length=T4.length+2:=by simp
   rw[<-hρ,fM,rL,aL,hv4,Q0,bz,aL,hv5,Q0,bz,aL,hmx,Q0,bz,aL,h0,Q0,bz,aL,h1,Q0]
   have e9:T5=T4++[O.lst [.int 0]]++[O.lst []]++[O.lst us]:=by rw[hT5,Q9,Q9];rfl
   rw[e9,hus,hρ,<-hl]
   rfl)]
  have r4':∀ρ (S:Sto),aK (ab (cC (.int 4)) ao) ρ S=some ((Qj 4).map fun i:Nat=>U.int (i:Int),fun _=>True,S):=fun ρ S=>rfl
  rw[cx (ρ':=[some (.kl ns),some (.int (i:Int)),some (.ref T.length),some tu,some (.ref ja),some (.ref jb),some (.ref (T4.length+2)),q7,r8,r9,r10]) (S':=T6) (by unfold iQ;rw[r4',Q0];exact e6)]
  have hi:iTp (ae 6) [some (.kl ns),some (.int (i:Int)),some (.ref T.length),some tu,some (.ref ja),some (.ref jb),some (.ref (T4.length+2)),q7,r8,r9,r10] T6=some (us6,fun S=>S[T4.length+2]?=some (.lst us6),T6):=by
   have hv:ae 6 [some (.kl ns),some (.int (i:Int)),some (.ref T.length),some tu,some (.ref ja),some (.ref jb),some (.ref (T4.length+2)),q7,r8,r9,r10] T6=some (.ref (T4.length+2),T6):=rfl
   unfold iTp
   rw[hv,Q0]
   simp only[g6]
  unfold iQ
  rw[hi,Q0]
  exact e7
theorem EZ(ns:List Int)(hl:ns.length<=63):∃ρ' S',(fL CO) [some (.kl ns),none,none,none,none,none,none,none,none,none,none] []=some (.rt (.bl true),ρ',S'):=by
 obtain⟨n,hn⟩:∃n:Int,n=(if (if (ns.length:Int)<10 then(ns.length:Int)else 10)>3 then(if (ns.length:Int)<10 then(ns.length:Int)else 10)else 3):=⟨_,rfl⟩
 have n0:0<=n:=by rw[hn];split<;>(try split)<;>omega
 have n1:n<=1000:=by rw[hn];split<;>(try split)<;>omega
 obtain⟨T,q1,q2,q3,q4,q5,q6,q7,q8,q9,q10,e1⟩:=zI (ns:=ns) (Qj n.toNat) [] none none none none none none none none none none
 have er:aX 0 n.toNat=(Qj n.toNat).map fun i:Nat=>U.int (i:Int):=by rw[dH,Qc];rfl
 have a1:ab (cCB F6 (ab (cC (.int 3)) (ab (cCB F5 (ab (cC (.int 10)) (ab (cCB eN (ab (ae 0) ao)) ao))) ao))) ao [some (.kl ns),none,none,none,none,none,none,none,none,none,none] []=some ([.int n],[]):=by
  have h1:∀i j:Int,F5 [.int i,.int j] []=some (.int (if j<i then j else i),[]):=fun i j=>rfl
  have h2:∀i j:Int,F6 [.int i,.int j] []=some (.int (if j>i then j else i),[]):=fun i j=>rfl
  rw[hn]
  rwa[sZ,h1,h2]
 rw[<-er]at e1
 refine⟨[some (.kl ns),q1,q2,q3,q4,q5,q6,q7,q8,q9,q10],T,?_⟩
 have hb:-(2^62)<=n/\n<2^62:=by omega
 unfold fL CO
 rw[cx (ρ':=[some (.kl ns),q1,q2,q3,q4,q5,q6,q7,q8,q9,q10]) (S':=T) (by
  unfold iQ aK
  rw[a1,Q0]
  simp only[hb,and_self,if_true,Q0]
  exact e1)]
 rfl
theorem FP{l:PySem.W.OpenLaw}{w:World}{K:Q5}{h:Heap}{mg:Str->Option Value}{fa:Addr}(X:K.In h)(G:h.Ns mainGlobals mg)(hfa:mg "law"=some (.ref fa))
  (ds:FT K [("is_whole",iE),("musts_of_look",dE),("musts",oU),("is_tale_order",dF),("is_ring",jB),("_law_well",fU),("_law_sip",iF),("_law_mixed",fk),("_law_tale",fV),("_law_musts",fj),("_law_is_order",dG),("_law_is_ring",dZ),("_law_found",fq),("_law_bent",fW),("law",Bm)])
  (zs:Gb K IH) :
  ∃fd:FuncData,(∀(s:Shared) (v:Value),BindsTo s fd ⟨[v],[]⟩ [("script",v)])/\∀base:Heap,K.In base->base.Ns mainGlobals mg->oI l.prog w K mg base CX0 4 fa fd ["script"] (qd K):=by
 obtain⟨d_is_whole,d_musts_of_look,d_musts,d_is_tale_order,d_is_ring,d__law_well,d__law_sip,d__law_mixed,d__law_tale,d__law_musts,d__law_is_order,d__law_is_ring,d__law_found,d__law_bent,d_law,-⟩:=ds
 have B:=zs.blt X G
 refine E1 d_law X G hfa fun fd F_law base=>?_
 have dC:=sx (P:=l.prog) (w:=w) (base:=base) (k:=0) (d_is_whole.df X G) B 
 have dR:=jR (P:=l.prog) (w:=w) (base:=base) (k:=0) (d_musts_of_look.df X G) B 
 have iS:=Cu (P:=l.prog) (w:=w) (base:=base) (k:=1) (d_musts.df X G) B dR
 have dS:=jS (P:=l.prog) (w:=w) (base:=base) (k:=2) (d_is_tale_order.df X G) B (Has.mono dC (by decide)) iS
 have ko:=vM (P:=l.prog) (w:=w) (base:=base) (k:=2) (d_is_ring.df X G) B (Has.mono dC (by decide)) iS
 have gm:=o6 (P:=l.prog) (w:=w) (base:=base) (k:=0) (d__law_well.df X G) B 
 have aD:=sy (P:=l.prog) (w:=w) (base:=base) (k:=0) (d__law_sip.df X G) B 
 have cm:=nT (P:=l.prog) (w:=w) (base:=base) (k:=1) (fuel:=100) (d__law_mixed.df X G) B aD
 have gq:=o7 (P:=l.prog) (w:=w) (base:=base) (k:=2) (d__law_tale.df X G) B (Has.mono aD (by decide)) cm
 have bc:=nR (P:=l.prog) (w:=w) (base:=base) (k:=0) (d__law_musts.df X G) B 
 have dU:=jT (P:=l.prog) (w:=w) (base:=base) (k:=1) (d__law_is_order.df X G) B bc
 have eC:=kC (P:=l.prog) (w:=w) (base:=base) (k:=1) (d__law_is_ring.df X G) B bc
 have fE:=nV (P:=l.prog) (w:=w) (base:=base) (k:=1) (fuel:=100) (d__law_found.df X G) B bc
 have gv:=o8 (P:=l.prog) (w:=w) (base:=base) (k:=1) (d__law_bent.df X G) B aD
 exact HD (P:=l.prog) (w:=w) (base:=base) (k:=3) F_law B (Has.mono gm (by decide)) gq (Has.mono fE (by decide)) (Has.mono cm (by decide)) (Has.mono gv (by decide)) ko dS (Has.mono eC (by decide)) (Has.mono dU (by decide)) fun ns hl=>EZ ns hl
theorem IP{l:PySem.W.OpenLaw}{q:Program}{loose:List Str}{XP:(Str->Option Value)->Heap->Prop}{YP:World->Heap->Prop}{d:DefRec}{K:Params->Q5}(hn:l.most=some 63)(hdf:d.params.defaults=[])
  (hY:∀(w:World) (h:Heap),YP w h->(K w.params).In h)
  (F:∀(w:World) (mg:Str->Option Value) (fa:Addr) (h:Heap),(K w.params).In h->h.Ns mainGlobals mg->mg d.name=some (.ref fa)->
   ∃fd:FuncData,(∀(s:Shared) (u:Value),BindsTo s fd ⟨[u],[]⟩ [("script",u)])/\∀base:Heap,(K w.params).In base->base.Ns mainGlobals mg->oI l.prog w (K w.params) mg base CX0 4 fa fd ["script"] (qd (K w.params))) :
  PySem.W.WalkO q loose XP YP l.row.toRowW d [] (fun f vs=>PySem.call f vs):=
 L2.A6 (n:=63) (k:=4) (x:="script") (CX:=fun _=>CX0) (sp:=fun w=>qd (K w.params)) hn (by decide) hdf ⟨rfl,by decide,by decide,rfl⟩ hY F (fun _ _ a ns hl hO hS=>⟨a,ns,rfl,Hr hO hS,hl,fun _=>rfl⟩) fun _ _ _ _ _ z=>z
end OL
namespace PySem.W.Fast
def tw18127666879240212549:=0
def tw6646959943664158114:=0
def tw12592660312566276013:=0
def tw6276790664767439463:=0
def tw4115389039675409395:=0
def tw10937512413100005216:=0
def tw16389049594130192953:=0
def tw8610544663649943677:=0
def tw1720591056314332396:=0
def tw9577811859928937651:=0
def tw6871342747318198730:=0
def tw9395518273217081880:=0
def tw16088755157562182309:=0
def tw4930766182854181477:=0
def tw6275378118798262748:=0
def tw2383172122572918434:=0
def tw14733026905785950944:=0
def tw14981598234472391830:=0
def tw527413489105365996:=0
def tw8279015816303976508:=0
def tw9154368782894337902:=0
def tw18143074972195085479:=0
def tw8612591235498871101:=0
def tw3983692278775213804:=0
def tw11329598730699324035:=0
def tw11491108880603316109:=0
def tw6496010151899506584:=0
def tw2066931588462936348:=0
def tw2493085311317760832:=0
def tw5526873869183111219:=0
def tw12552452054369598896:=0
def tw5263995029607037525:=0
def tw8433581554477370824:=0
def tw1984004544642224099:=0
def tw1466380428275628046:=0
def tw11082523416244337444:=0
def tw17669845315665003938:=0
def tw6389075046754354865:=0
def tw1886539026706873926:=0
def tw9065547394095785636:=0
def tw6954337367504670653:=0
def tw814842327402936868:=0
def tw15129271582043573878:=0
def tw212786138165359500:=0
def tw9437053951414982336:=0
def tw18129867540294021853:=0
def tw8637030509241921133:=0
def tw3848036799284006943:=0
def tw3213423940630975175:=0
def tw4170131758033248427:=0
def tw7187194903893900767:=0
def tw10330364812024011180:=0
def tw328532227199121267:=0
def tw8212606796572316813:=0
def tw12104518546040819353:=0
def tw18257200691477591620:=0
def tw18202559157372332653:=0
def tw18418390231649005735:=0
def tw10669802226103927625:=0
def tw13715809653941394693:=0
def tw10970809861339471035:=0
def tw6980699936732191028:=0
def tw7015866716136766259:=0
end PySem.W.Fast
open PySem PySem.W PyProof.Rows
open OP in
set_option maxRecDepth 100000 in
set_option maxHeartbeats 0 in
theorem PySem.Challenge.cw_oneglance_k29_orders_and_rings_looked_at_holds : PySem.Challenge.rw_oneglance_k29_orders_and_rings_looked_at.Holds := by
 w_on; o_law; k_head; (case hw => w_witness2)
 k_fill
 refine OL.IP (l := PySem.Challenge.rw_oneglance_k29_orders_and_rings_looked_at) rfl rfl (fun w h Y => PySem.W.kIn_of Y) ?F
 case F =>
  intro w mg fa h KX G hmg
  refine' OL.FP KX G hmg ?ds ?zs
  (case ds => (repeat (refine' ⟨Jc ?a ?l ?c ?k, ?_⟩; (case a => k_is); (case l => k_is); (case c => k_is); (case k => k_is))); exact trivial)
  (case zs => (repeat (refine' ⟨?a, ?_⟩; (case a => k_is))); exact trivial)
