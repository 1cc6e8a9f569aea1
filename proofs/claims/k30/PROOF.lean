import PyProof.Rows.All
import Wide.All
import OpenK.AllK
import Wide.FinOn
import Lean
import PyProof.EqAt
import PyProof.EqKinds
import PyProof.TupleCall
import PySem.Challenge.RW_oneglance_k30_whole_orders_tell_what_was
local macro_rules|`(tactic|trivial)=>`(tactic|exact Or.inl rfl)
local macro_rules|`(tactic|trivial)=>`(tactic|exact Or.inr rfl)
set_option maxHeartbeats 4000000
set_option Elab.async false
set_option linter.all false
set_option maxRecDepth 100000
noncomputable section
open PySem renaming wpAny_bind→Q0, wpAny_pure→Q5, wpAny_field→Qp, wpAny_mono→ZY
open Option renaming bind_eq_some_iff→Q2, bind_some→Q8, map_eq_some_iff→Qt, getD_some→Ql
open PySem.Heap renaming get?_push_of_some→Q3, lt_size→QX, get?_push_size→QY, get?_update_self→ZT, size_push→ZL, get?_update_other→Zv, SameBut→X4
open PySem.W renaming Frag→Q4
open List renaming getElem?_eq_getElem→Q6, getElem?_eq_some_iff→Q7, length_map→Q9, getD_eq_getElem?_getD→QQ, append_assoc→QZ, length_append→QV, mem_cons_self→QK, mem_cons_of_mem→QU, length_cons→QB, mem_cons→QH, map_cons→QF, size_toArray→QC, getElem?_append_right→QN, cons_append→Qq, getElem?_append_left→Qz, mem_singleton→Qv, range→Qy, getElem?_cons_succ→Qw, getElem?_map→Qr, mem_map→Qu, mem_range→Qb, getElem?_set_ne→Qg, nil_append→Qh, append_nil→Qe, mem_append→Qd, map_map→Qa, mem_append_right→Qm, map_append→Qn, mem_filter→Qi, idxOf_lt_length_of_mem→Qo, length_singleton→Qs, pairwise_cons→Z0, getElem?_cons_zero→Z7, pairwise_iff_getElem→Z8, getElem_mem→Z9, getElem?_set→ZZ, mem_of_getElem?→ZX, nodup_cons→ZJ, not_mem_nil→ZV, getElem?_eq_none→ZK, replicate→ZU, getElem?_of_mem→ZH, take_of_length_le→ZD, getElem?_zip_eq_some→ZF, length_filter_le→ZP, nodup_iff_pairwise_ne→Zx, map_nil→Zj, find?_cons→Zy, mem_flatMap→Zw, length_take→Zr, pairwise_map→Zg, forIn_cons→Zh, set_cons_zero→Zf, forIn_nil→Za, length_set→Zc, mem_append_left→Zn, length_range→Zp, ext_getElem?→Zt, any_cons→Zi, all_cons→Zo, flatMap_append→Zs, nodup_range→X0, getElem?_replicate→X1, nodup_append→X6, length→X8
open Nat renaming le_refl→QJ, ne_of_lt→QL, lt_of_lt_of_le→Qj, le_trans→Qc, zero_le→ZQ, ne_of_gt→Zz, lt_or_ge→Zu, le_of_lt→Zb, lt_succ_of_lt→Zm, not_lt→Zl, lt_of_le_of_lt→X3, le_succ→X7
open Array renaming getElem?_eq_getElem→QR, length_toList→QD, getElem?_toList→Qk, getD_eq_getD_getElem?→Zq, getElem?_eq_some_iff→Zk, getElem?_eq_none→Ze, forIn_toList→X5, getD→X9
open Bool renaming false_ne_true→QM, false_eq_true→Qx, eq_iff_iff→ZE, and_eq_true→ZI
open Int renaming toNat_natCast→ZC
namespace L2
open PySem PySem.Spec PyProof.Rows
abbrev Key:=Sum Int Str
def mL:Key->Value->Bool
 |.inl k,v=>Value.isInt k v
 |.inr x,v=>Value.isStrOf x v
def J4(w:World):Key->Int
 |.inl k=>hashInt k
 |.inr x=>hashStr w x
theorem aY:∀{k:Key} {v:Value},mL k v=true->(∃i t,k=Sum.inl i/\v=Value.int i t)\/(∃x t,k=Sum.inr x/\v=Value.str x t)
 |.inl i,v,h=>by
  obtain⟨t,e⟩:=Value.isInt_shape (k:=i) (v:=v) h;exact .inl ⟨i,t,rfl,e⟩
 |.inr x,v,h=>by
  obtain⟨t,e⟩:=Value.isStrOf_shape (x:=x) (v:=v) h;exact .inr ⟨x,t,rfl,e⟩
theorem wb(i:Int)(t:Tok):mL (.inl i) (.int i t)=true:=by simp[mL,Value.isInt]
theorem wa(x:Str)(t:Tok):mL (.inr x) (.str x t)=true:=by simp[mL,Value.isStrOf]
theorem F8(a b:Int):decide ((Sum.inl a:Key)=Sum.inl b)=(a == b):=by
 by_cases e:a=b
 ·subst e;simp
 ·have h:¬(Sum.inl a:Key)=Sum.inl b:=fun q=>e (Sum.inl.inj q);rw[decide_eq_false h];exact(beq_eq_false_iff_ne.mpr e).symm
theorem F5(a b:Str):decide ((Sum.inr a:Key)=Sum.inr b)=decide (a=b):=by
 by_cases e:a=b
 ·subst e;simp
 ·have h:¬(Sum.inr a:Key)=Sum.inr b:=fun q=>e (Sum.inr.inj q);rw[decide_eq_false h,decide_eq_false e]
theorem F7(a:Int)(b:Str):decide ((Sum.inl a:Key)=Sum.inr b)=false:=decide_eq_false (fun q=>nomatch q)
theorem F6(a:Str)(b:Int):decide ((Sum.inr a:Key)=Sum.inl b)=false:=decide_eq_false (fun q=>nomatch q)
def bw(prog:Program)(w:World):PySem.KeyKind prog w Key where
 is:=mL
 hash:=J4 w
 inj:=fun v a b ha hb=>by
  rcases aY ha with⟨i,t,rfl,rfl⟩|⟨x,t,rfl,rfl⟩
  ·rcases aY hb with⟨j,u,rfl,e⟩|⟨y,u,rfl,e⟩
   ·injection e with e1 _;rw[e1]
   ·exact nomatch e
  ·rcases aY hb with⟨j,u,rfl,e⟩|⟨y,u,rfl,e⟩
   ·exact nomatch e
   ·injection e with e1 _;rw[e1]
 byValue:=fun k v h=>by
  rcases aY h with⟨i,t,rfl,rfl⟩|⟨x,t,rfl,rfl⟩<;>rfl
 pyHash:=fun hv h=>by
  rcases aY hv with⟨i,t,rfl,rfl⟩|⟨x,t,rfl,rfl⟩
  ·exact wpAny_pyHash_int h
  ·exact wpAny_pyHash_str h
 eqBool:=fun hu hv h=>by
  rcases aY hu with⟨i,t,rfl,rfl⟩|⟨x,t,rfl,rfl⟩
  ·rcases aY hv with⟨j,u,rfl,rfl⟩|⟨y,u,rfl,rfl⟩
   ·rw[F8]at h;exact wpAny_eqBool_int h
   ·rw[F7]at h;exact SeqAt.EqAt.int_str i t y u _ _ _ _ h
  ·rcases aY hv with⟨j,u,rfl,rfl⟩|⟨y,u,rfl,rfl⟩
   ·rw[F6]at h;exact SeqAt.EqAt.str_int x t j u _ _ _ _ h
   ·rw[F5]at h;exact wpAny_eqBool_str h
 «strs»:=fun k x t v h=>by
  rcases aY h with⟨i,u,rfl,e⟩|⟨y,u,rfl,e⟩
  ·exact nomatch e
  ·injection e with e1 _;subst e1;cases v<;>rfl
theorem pQ(prog:Program)(w:World)(i:Int)(t:Tok):(bw prog w).is (.inl i) (.int i t)=true:=wb i t
theorem pO(prog:Program)(w:World)(x:Str)(t:Tok):(bw prog w).is (.inr x) (.str x t)=true:=wa x t
inductive V where
 |non|bl (b:Bool)|int (i:Int)|str (x:Str)|byt (b:Array UInt8)|flt (b:UInt64)|ref (a:Addr)|ty (n:String)
 deriving DecidableEq
def bP:V->Value->Prop
 |.non,u=>u=Value.none
 |.bl b,u=>u=Value.bool b
 |.int i,u=>∃t,u=Value.int i t
 |.str x,u=>∃t,u=Value.str x t
 |.byt b,u=>∃t,u=Value.bytes b t
 |.flt b,u=>∃t,u=Value.float b t
 |.ref a,u=>u=Value.ref a
 |.ty n,u=>u=Value.type n
abbrev a5:List V->List Value->Prop:=Paired bP
theorem a5.length{xs:List V}{us:List Value}(r:a5 xs us):xs.length=us.length:=Paired.length r
theorem a5.get:∀{xs:List V} {us:List Value} {i:Nat} {x:V},a5 xs us->xs[i]?=some x->∃u,us[i]?=some u/\bP x u
 |_,_,_,_,.nil,e=>by simp at e
 |_,_,0,_,.cons r _,e=>by simp at e;subst e;exact⟨_,rfl,r⟩
 |_,_,i+1,x,.cons _ t,e=>by
  obtain⟨u,h1,h2⟩:=a5.get (i:=i) (x:=x) t (by simpa using e);exact⟨u,by simpa using h1,h2⟩
theorem a5.set{x:V}{u:Value}(r:bP x u):∀{xs:List V} {us:List Value} (i:Nat),a5 xs us->a5 (xs.set i x) (us.set i u)
 |_,_,_,.nil=>.nil
 |_,_,0,.cons _ t=>.cons r t
 |_,_,i+1,.cons q t=>.cons q (a5.set r i t)
theorem a5.append:∀{xs ys:List V} {us ws:List Value},a5 xs us->a5 ys ws->a5 (xs++ys) (us++ws)
 |_,_,_,_,.nil,s=>s
 |_,_,_,_,.cons r t,s=>.cons r (a5.append t s)
theorem a5.take:∀{xs:List V} {us:List Value} (n:Nat),a5 xs us->a5 (xs.take n) (us.take n)
 |_,_,0,_=>.nil
 |_,_,_+1,.nil=>.nil
 |_,_,n+1,.cons r t=>.cons r (a5.take n t)
theorem a5.drop:∀{xs:List V} {us:List Value} (n:Nat),a5 xs us->a5 (xs.drop n) (us.drop n)
 |_,_,0,r=>r
 |_,_,_+1,.nil=>.nil
 |_,_,n+1,.cons _ t=>a5.drop n t
def tQ:Option V->Option Value->Prop
 |some v,some u=>bP v u
 |none,none=>True
 |_,_=>False
def KV{κ:Type}:List (κ×V)->List (κ×Value)->Prop:=Paired fun(p:κ×V) (q:κ×Value)=>p.1=q.1/\bP p.2 q.2
def kV:Key->V
 |.inl i=>.int i
 |.inr x=>.str x
inductive HO where
 |lst (xs:List V)
 |tup (xs:List V)
 |dK (kvs:List (Key×V))|dT (kvs:List (List Key×V))
 |set (S:Int->Bool) (n:Nat)
 |ins (C dx:Addr) (fs:List (Str×V))
 |own (x:Addr)
 |xd (fs:List (Str×V))
 |met (f x:Addr)
 |rng (lo hi:Int)
 |frz (o:Obj) (u:HO)
 |tbl (ps:Array Value)
 |ext (φ:Heap->Prop)
abbrev Hp:=Addr->Option HO
def upd(H:Hp)(a:Addr)(o:HO):Hp:=fun b=>if b=a then some o else H b
theorem aF{H:Hp}{a:Addr}{o:HO}:upd H a o a=some o:=by unfold upd;rw[if_pos rfl]
theorem aT{H:Hp}{a b:Addr}{o:HO}(h:b≠a):upd H a o b=H b:=by unfold upd;rw[if_neg h]
theorem Iy{H:Hp}{a b:Addr}{o u:HO}(h:H a=some o)(h':H b=some u)(d:o≠u):a≠b:=by
 intro e;subst e;rw[h]at h';exact d (Option.some.inj h')
theorem bY{H:Hp}{a b:Addr}{o:HO}(h:H a=some o)(h':H b=none):a≠b:=by
 intro e;subst e;rw[h]at h';cases h'
section
variable(P:Program)(w:World)
def bx(H:Hp)(h:Heap)(a:Addr):HO->Prop
 |.lst xs=>xs.length<=sizeLine/\∃(its:List Value) (n:Nat),a5 xs its/\h.get? a=some { cls:=.type "list",data:=.seq its.toArray n }
 |.tup xs=>xs.length<=sizeLine/\∃its:List Value,a5 xs its/\IsTup h a its.toArray
 |.dK kvs=>kvs.length<=sizeLine/\(a == sysModules)=false/\∃vs,KV kvs vs/\h.DictOf (bw P w) a vs
 | .dT kvs=>kvs.length<=sizeLine/\(a == sysModules)=false/\∃xs:List (List Key×Addr×Value),
   Paired (fun(p:List Key×V) (q:List Key×Addr×Value)=>p.1=q.1/\H q.2.1=some (.tup (p.1.map kV))/\bP p.2 q.2.2) kvs xs/\
   ∃o es ep,h.get? a=some o/\o.ExactDict/\o.data=.dict es ep/\es.toList=xs.map (entryOfKey (tupleKind (bw P w)))/\(xs.map (·.1)).Nodup
 |.set S n=>h.SetOf (intKind P w) a S n
 | .ins C dx fs=>H dx=some (.own a)/\fs.length<=1000/\dx≠a/\h.get? a=some (PySem.W.instObj C dx)/\
   ∃mA,h.Ns1 dx mA/\(∀f,tQ (fs.lookup f) (mA f))/\PySem.Within mA (fs.map (·.1))
 |.own _=>∃o,h.get? a=some o
 |.xd fs=>∃mA,h.Ns1 a mA/\∀f,tQ (fs.lookup f) (mA f)
 |.rng lo hi=>∃t u v,h.get? a=some { cls:=.type "range",data:=.fields #[.int lo t,.int hi u,.int 1 v] }
 |.frz o u=>h.get? a=some o/\bx H h a u
 |.tbl ps=>h.get? a=some { cls:=.none,data:=.fields ps }
 |.met f x=>h.get? a=some (PySem.W.methodObj (.ref f) (.ref x))
 |.ext φ=>φ h/\(∃o,h.get? a=some o)/\∀h1 h2:Heap,φ h1->(∀o,h1.get? a=some o->h2.get? a=some o)->φ h2
def HOk(H:Hp)(h:Heap):Prop:=∀a o,H a=some o->bx P w H h a o
end
section
variable{P:Program}{w:World}{H H':Hp}{h h':Heap}{a:Addr}{o:HO}
theorem bx.lt(x:bx P w H h a o):a<h.objs.size:=by
 cases o with
 |lst xs=>obtain⟨_,_,_,_,e⟩:=x;exact QX e
 |tup xs=>obtain⟨_,_,_,p⟩:=x;exact p.lt
 |dK kvs=>obtain⟨_,_,_,_,o,_,_,e,_⟩:=x;exact QX e
 |dT kvs=>obtain⟨_,_,_,_,o,_,_,e,_⟩:=x;exact QX e
 |set S n=>obtain⟨o,_,_,_,e,_⟩:=x;exact QX e
 |ins C dx fs=>obtain⟨_,_,_,e,_⟩:=x;exact QX e
 |own y=>obtain⟨_,e⟩:=x;exact QX e
 |xd fs=>obtain⟨_,⟨_,_,_,e,_⟩,_⟩:=x;exact QX e
 |rng lo hi=>obtain⟨_,_,_,e⟩:=x;exact QX e
 |frz ob u=>obtain⟨e,_⟩:=x;exact QX e
 |tbl ps=>exact QX (show h.get? a=some _ from x)
 |met f y=>exact QX (show h.get? a=some _ from x)
 |ext φ=>obtain⟨_,⟨_,e⟩,_⟩:=x;exact QX e
theorem Paired.mapP{α β:Type}{F G:α->β->Prop}:∀{l₁:List α} {l₂:List β},Paired F l₁ l₂->(∀a b,F a b->G a b)->Paired G l₁ l₂
 |_,_,.nil,_=>.nil
 |_,_,.cons r t,f=>.cons (f _ _ r) (Paired.mapP t f)
theorem bx.stay(x:bx P w H h a o)(k:∀b u,(b=a\/H b=some (.own a))->h.get? b=some u->h'.get? b=some u)
  (ho:∀b,H b=some (.own a)->H' b=some (.own a)) (ht:∀b xs,H b=some (.tup xs)->H' b=some (.tup xs)):bx P w H' h' a o:=by
 induction o with
 |lst xs=>obtain⟨z,its,n,r,e⟩:=x;exact⟨z,its,n,r,k _ _ (.inl rfl) e⟩
 |tup xs=>obtain⟨z,its,r,ob,e,c⟩:=x;exact⟨z,its,r,ob,k _ _ (.inl rfl) e,c⟩
 |dK kvs=>obtain⟨z,y,vs,r,ob,es,ep,e,c⟩:=x;exact⟨z,y,vs,r,ob,es,ep,k _ _ (.inl rfl) e,c⟩
 |dT kvs=>
  obtain⟨z,y,xs,r,ob,es,ep,e,c⟩:=x;exact⟨z,y,xs,Paired.mapP r fun p q z=>⟨z.1,ht _ _ z.2.1,z.2.2⟩,ob,es,ep,k _ _ (.inl rfl) e,c⟩
 |set S n=>obtain⟨ob,es,ep,t,e,c⟩:=x;exact⟨ob,es,ep,t,k _ _ (.inl rfl) e,c⟩
 |ins C dx fs=>
  obtain⟨d,z,ne,e,mA,⟨od,es,ep,e2,c⟩,r⟩:=x;exact⟨ho _ d,z,ne,k _ _ (.inl rfl) e,mA,⟨od,es,ep,k _ _ (.inr d) e2,c⟩,r⟩
 |own y=>obtain⟨ob,e⟩:=x;exact⟨ob,k _ _ (.inl rfl) e⟩
 |xd fs=>obtain⟨mA,⟨od,es,ep,e,c⟩,r⟩:=x;exact⟨mA,⟨od,es,ep,k _ _ (.inl rfl) e,c⟩,r⟩
 |rng lo hi=>obtain⟨t,u,v,e⟩:=x;exact⟨t,u,v,k _ _ (.inl rfl) e⟩
 |frz ob u ih=>obtain⟨e,q⟩:=x;exact⟨k _ _ (.inl rfl) e,ih q⟩
 |tbl ps=>
  have e:h.get? a=some { cls:=.none,data:=.fields ps }:=x;show h'.get? a=some { cls:=.none,data:=.fields ps };exact k a _ (.inl rfl) e
 |met f y=>
  have e:h.get? a=some (PySem.W.methodObj (.ref f) (.ref y)):=x;show h'.get? a=some (PySem.W.methodObj (.ref f) (.ref y));exact k a _ (.inl rfl) e
 |ext φ=>obtain⟨p,⟨o,e⟩,st⟩:=x;exact⟨st _ _ p fun o q=>k _ _ (.inl rfl) q,⟨o,k _ _ (.inl rfl) e⟩,st⟩
theorem HOk.lt(x:HOk P w H h)(e:H a=some o):a<h.objs.size:=(x a o e).lt
theorem HOk.fresh(x:HOk P w H h)(e:h.objs.size<=a):H a=none:=by
 cases q:H a with
 |none=>rfl
 |some u=>exact absurd (Qj (x.lt q) e) (Nat.lt_irrefl _)
theorem HOk.kept(x:HOk P w H h)(k:∀b u,h.get? b=some u->h'.get? b=some u):HOk P w H h':=fun a o e=>
 (x a o e).stay (fun b u _ q=>k b u q) (fun _ q=>q) fun _ _ q=>q
theorem HOk.laid(x:HOk P w H h)(k:∀b u,h.get? b=some u->h'.get? b=some u)(hp:h.objs.size<=a)(new:bx P w (upd H a o) h' a o):HOk P w (upd H a o) h':=fun b u e=>by
 have hn:=x.fresh hp;by_cases hb:b=a
 ·subst hb;rw[aF]at e;cases e;exact new
 ·rw[aT hb]at e;exact(x b u e).stay (fun c v _ q=>k c v q) (fun c q=>by rw[aT (bY q hn)];exact q) fun c xs q=>by rw[aT (bY q hn)];exact q
end
def Rd(H:Hp)(a:Addr)(u:HO):Prop:=H a=some u\/∃o,H a=some (.frz o u)
theorem Rd.ok{P:Program}{w:World}{H:Hp}{h:Heap}{a:Addr}{u:HO}(r:Rd H a u)(x:HOk P w H h):bx P w H h a u:=by
 rcases r with r|⟨o,r⟩
 ·exact x a u r
 ·obtain⟨_,q⟩:=x a _ r;exact q
def Mut:Option HO->Prop
 |some (.lst _)=>True
 |some (.dK _)=>True
 |some (.dT _)=>True
 |some (.set _ _)=>True
 |some (.ins _ _ _)=>True
 |some (.ext _)=>True
 |_=>False
section
variable{P:Program}{w:World}{H:Hp}{h h':Heap}{x e:Addr}{o':HO}
theorem HOk.write(ok:HOk P w H h)(mu:Mut (H x))(he:e=x\/H e=some (.own x))(k:∀b u,b≠e->h.get? b=some u->h'.get? b=some u)(heo:∃u,h'.get? e=some u)
  (new:bx P w (upd H x o') h' x o'):HOk P w (upd H x o') h':=fun b u q=>by
 have nown:∀c y,H c=some (.own y)->c≠x:=fun c y r z=>by subst z;rw[r]at mu;exact mu
 have ntup:∀c xs,H c=some (.tup xs)->c≠x:=fun c xs r z=>by subst z;rw[r]at mu;exact mu
 by_cases hb:b=x
 ·subst hb;rw[aF]at q;cases q;exact new
 ·rw[aT hb]at q;by_cases hbe:b=e
  ·have q':H b=some (.own x):=by
    rcases he with z|z
    ·exact absurd (hbe.trans z) hb
    ·rw[hbe];exact z
   rw[q]at q';cases q';obtain⟨v,hv⟩:=heo;exact⟨v,by rw[hbe];exact hv⟩
  ·refine(ok b u q).stay (fun c v hc r=>k c v ?_ r) (fun c r=>by rw[aT (nown c b r)];exact r) fun c xs r=>by rw[aT (ntup c xs r)];exact r
   rcases hc with rfl|hc
   ·exact hbe
   ·rintro rfl;rcases he with z|z
    ·exact nown c b hc z
    ·rw[hc]at z;cases z;exact hb rfl
end
structure Un(fs ex:List Addr)(H H':Hp)(h h':Heap):Prop where
 keep:∀b o,h.get? b=some o->H b=none->b∉fs->b∉ex->h'.get? b=some o
 slot:∀b o,h.get? b=some o->H b=none->b∈fs->b∉ex->∃sl,h'.get? b=some { o with slots:=sl }
 free:∀b o,h.get? b=some o->H b=none->b∉ex->H' b=none
 there:∀b o,h.get? b=some o->b∉ex->∃o',h'.get? b=some o'
 tups:∀b xs,H b=some (.tup xs)->H' b=some (.tup xs)
 frzs:∀b o u,H b=some (.frz o u)->H' b=some (.frz o u)
 tbls:∀b ps,H b=some (.tbl ps)->∃more,H' b=some (.tbl (ps++more))
section
variable{fs ex:List Addr}{H H1:Hp}{h h1 h':Heap}{a x e:Addr}{o:HO}
theorem Un.any(u:Un fs ex H H1 h h1){b:Addr}{ob:Obj}(q:h.get? b=some ob)(n:H b=none)(hx:b∉ex):∃sl,h1.get? b=some { ob with slots:=sl }:=by
 by_cases hb:b∈fs
 ·exact u.slot b ob q n hb hx
 ·exact⟨ob.slots,u.keep b ob q n hb hx⟩
theorem Un.kept(k:∀b u,h.get? b=some u->h'.get? b=some u):Un fs ex H H h h':=
 ⟨fun b ob q _ _ _=>k b ob q,fun b ob q _ _ _=>⟨ob.slots,k b ob q⟩,fun _ _ _ n _=>n,fun b ob q _=>⟨ob,k b ob q⟩,fun _ _ q=>q,fun _ _ _ q=>q,fun _ ps q=>⟨#[],by rw[q];simp⟩⟩
theorem Un.refl:Un fs ex H H h h:=Un.kept fun _ _ q=>q
theorem Un.laid(k:∀b u,h.get? b=some u->h'.get? b=some u)(hp:h.objs.size<=a)(hn:H a=none):Un fs ex H (upd H a o) h h' where
 keep:=fun b u q _ _ _=>k b u q
 slot:=fun b u q _ _ _=>⟨u.slots,k b u q⟩
 free:=fun b u q n _=>by rw[aT (QL (Qj (QX q) hp))];exact n
 there:=fun b u q _=>⟨u,k b u q⟩
 tups:=fun b xs q=>by rw[aT (bY q hn)];exact q
 frzs:=fun b u xs q=>by rw[aT (bY q hn)];exact q
 tbls:=fun b ps q=>⟨#[],by rw[aT (bY q hn),q];simp⟩
theorem Un.write(mu:Mut (H x))(he:e=x\/H e=some (.own x))(k:∀b u,b≠e->h.get? b=some u->h'.get? b=some u)(heo:∃u,h'.get? e=some u):Un fs ex H (upd H x o) h h':=by
 have hx:∀b,H b=none->b≠x:=fun b n z=>by subst z;rw[n]at mu;exact mu
 have hb:∀b,H b=none->b≠e:=fun b n z=>by
  subst z;rcases he with r|r
  ·exact hx b n r
  ·rw[n]at r;cases r
 have hm:∀b u,H b=some u->¬Mut (some u)->b≠x:=fun b u q nm z=>by subst z;rw[q]at mu;exact nm mu
 refine⟨fun b u q n _ _=>k b u (hb b n) q,fun b u q n _ _=>⟨u.slots,k b u (hb b n) q⟩,fun b u q n _=>by rw[aT (hx b n)];exact n,fun b u q _=>?_,
  fun b xs q=>by rw[aT (hm b _ q fun z=>z)];exact q,fun b u xs q=>by rw[aT (hm b _ q fun z=>z)];exact q,fun b ps q=>⟨#[],by rw[aT (hm b _ q fun z=>z),q];simp⟩⟩
 by_cases hbe:b=e
 ·subst hbe;exact heo
 ·exact⟨u,k b u hbe q⟩
end
def trk(h:Heap)(H:Hp):List Addr:=(Qy h.objs.size).filter fun a=>(H a).isSome
def zJ(h:Heap)(H:Hp):Heap:=PySem.W.hideAll h (trk h H)
theorem wA(h:Heap)(H:Hp):(zJ h H).objs.size=h.objs.size:=PySem.W.hideAll_size _ _
theorem zI{h:Heap}{H:Hp}{b:Addr}{o:Obj}(e:h.get? b=some o)(n:H b=none):(zJ h H).get? b=some o:=
 PySem.W.hideAll_get _ e fun hm=>by
  have q:(H b).isSome=true:=(Qi.mp hm).2;rw[n]at q;simp at q
theorem CV{h:Heap}{H:Hp}{b:Addr}{o:Obj}(e:(zJ h H).get? b=some o):h.get? b=some o/\H b=none:=by
 have e':h.get? b=some o:=PySem.W.of_hideAll (trk h H) e;refine⟨e',?_⟩;cases q:H b with
 |none=>rfl
 |some x=>
  have hm:b∈trk h H:=Qi.mpr ⟨Qb.mpr (QX e'),by simp[q]⟩;have z:(zJ h H).get? b=none:=PySem.W.hideAll_none (trk h H) hm;rw[z]at e;cases e
structure Mod(K:Q4)(mg:Str->Option Value)(base:Heap):Prop where
 kin:K.In base
 glob:base.Ns mainGlobals mg
 blt:∃mb,base.Ns builtinsNs mb/\∀x:Str,x≠"__name__"->mb x=bootBuiltins x
 nolimit:base.NoLimit
structure Cx where
 prog:Program
 w:World
 K:Q4
 mg:Str->Option Value
 base:Heap
 A:Around
 N:List Str
 s₀:Shared
 H₀:Hp
 env:Env
 outer:List Env
 stack:List Env
 ex:List Addr
 fn:Str->Bool
 calm:Bool
 pn:List (Addr×Obj)
 xe:Value->Shared->Prop
def frs(l:List Env):List Addr:=l.filterMap (·.frame)
abbrev Cx.fs(X:Cx):List Addr:=frs X.outer
def Vis(sc:Scope)(x:Str):Prop:=sc.names.lookup x=some .local\/sc.names.lookup x=some .cell\/sc.names.lookup x=some .free
def Loc(sc:Scope)(x:Str):Prop:=sc.names.lookup x=some .local\/sc.names.lookup x=some .cell
def Kd(env:Env)(h:Heap)(m:Str->Option Value)(x:Str)(u:Value):Prop:=
 (env.kindOf x=some .local/\m x=some u)\/((env.kindOf x=some .cell\/env.kindOf x=some .free)/\∃c,env.cells.lookup x=some c/\h.IsCell c (some u))
structure Cx.Ok(X:Cx):Prop where
 mod:Mod X.K X.mg X.base
 kind:X.env.scope.kind=.function
 glob:X.env.globals=mainGlobals
 blt:X.env.builtins=builtinsNs
 above:X.s₀.heap.objs.size<=X.env.locals
 inj:∀x y c,X.env.cells.lookup x=some c->X.env.cells.lookup y=some c->x=y
 has:∀x,(X.env.kindOf x=some .cell\/X.env.kindOf x=some .free)->∃c,X.env.cells.lookup x=some c
 cab:∀x c,X.fn x=true->X.env.cells.lookup x=some c->X.s₀.heap.objs.size<=c
 hd:X.calm=true->X.A.handled=none
 frames:X.A.frames=some X.stack
 stk:X.stack=X.outer\/(X.stack=X.env::X.outer/\X.env.frame=some X.env.locals)
 exf:∀b∈X.ex,b≠X.env.locals/\∀x c,X.env.cells.lookup x=some c->c≠b
 bs:∀b o,X.base.get? b=some o->X.s₀.heap.get? b=some o/\X.H₀ b=none
 bsz:X.base.objs.size<=X.s₀.heap.objs.size
 noex:∀b o,X.base.get? b=some o->b∉X.ex
 exfs:∀b∈X.ex,b∉X.fs
 funs:X.s₀.heap.FunFrames X.base X.outer
 frf:∀b∈X.fs,X.H₀ b=none
structure Inv(X:Cx)(pins:List (Addr×Obj))(σ:List (Option V))(H:Hp)(s:Shared):Prop where
 ok:X.Ok
 os:s.os=X.s₀.os
 bare:AllBare s.gens
 base:Un X.fs X.ex X.H₀ H X.s₀.heap s.heap
 loc:∃m,s.heap.Ns X.env.locals m/\∀(i:Nat) (x:Str) (v:V),X.N[i]?=some x->σ[i]?=some (some v)->Vis X.env.scope x->∃u,bP v u/\Kd X.env s.heap m x u
 cell:∀x c,X.env.cells.lookup x=some c->∃v,s.heap.IsCell c v
 free:H X.env.locals=none
 freeC:∀x c,X.env.cells.lookup x=some c->H c=none
 pin:∀p∈X.pn++pins,s.heap.get? p.1=some p.2/\H p.1=none/\p.1≠X.env.locals/\p.1∉X.fs/\∀v,p.2.data≠.cell v
 hok:HOk X.prog X.w H s.heap
 len:σ.length=X.N.length
section
variable{X:Cx}{pins:List (Addr×Obj)}{σ:List (Option V)}{H H':Hp}{s:Shared}{h':Heap}
theorem Cx.Ok.nofr(ok:X.Ok){b:Addr}{o:Obj}(e:X.base.get? b=some o):b∉X.fs:=fun hb=>by
 have:=(ok.funs.mem hb).1;rw[e]at this;cases this
theorem Inv.bs(I:Inv X pins σ H s):∀b o,X.base.get? b=some o->s.heap.get? b=some o/\H b=none:=fun b o e=>
 ⟨I.base.keep b o (I.ok.bs b o e).1 (I.ok.bs b o e).2 (I.ok.nofr e) (I.ok.noex b o e),I.base.free b o (I.ok.bs b o e).1 (I.ok.bs b o e).2 (I.ok.noex b o e)⟩
theorem Inv.bk(I:Inv X pins σ H s):∀b o,X.base.get? b=some o->s.heap.get? b=some o:=fun b o e=>(I.bs b o e).1
theorem Inv.mod(I:Inv X pins σ H s):Mod X.K X.mg X.base:=I.ok.mod
theorem Inv.kIn(I:Inv X pins σ H s):X.K.In s.heap:=I.ok.mod.kin.keeps I.bk
theorem Inv.lt(I:Inv X pins σ H s):X.env.locals<s.heap.objs.size:=let ⟨_,hn,_⟩:=I.loc;hn.lt
theorem Inv.sz(I:Inv X pins σ H s):X.s₀.heap.objs.size<=s.heap.objs.size:=Qc I.ok.above (Zb I.lt)
theorem Inv.nofs(I:Inv X pins σ H s){a:Addr}(h:s.heap.objs.size<=a):a∉X.fs:=fun hb=>by
 obtain⟨_,o,ho,_⟩:=I.ok.funs.mem hb;exact absurd (Qj (QX ho) (Qc I.sz h)) (Nat.lt_irrefl _)
theorem Inv.cne(I:Inv X pins σ H s):∀x c,X.env.cells.lookup x=some c->c≠X.env.locals:=fun x c e z=>by
 obtain⟨v,o,ho,hd⟩:=I.cell x c e;obtain⟨m,⟨o',es,ep,ho',hd',_⟩,_⟩:=I.loc;rw[z,ho']at ho;cases ho;rw[hd']at hd;cases hd
theorem Inv.funs(I:Inv X pins σ H s):s.heap.FunFrames X.base X.outer:=by
 have all:∀(l:List Env),(∀b∈frs l,b∈X.fs)->X.s₀.heap.FunFrames X.base l->s.heap.FunFrames X.base l:=by
  intro l;induction l with
  |nil=>intro _ _;trivial
  |cons env r ih=>
   intro hs hl;obtain⟨hk,⟨L,o,hf,hn,ho,hd⟩,hr⟩:=hl;have hL:L∈X.fs:=hs L (by unfold frs;rw[List.filterMap_cons,hf];exact QK);obtain⟨sl,e⟩:=I.base.slot L o ho (I.ok.frf L hL) hL fun z=>I.ok.exfs L z hL;exact⟨hk,⟨L,_,hf,hn,e,hd⟩,ih (fun b hb=>hs b (by unfold frs;rw[List.filterMap_cons,hf];exact QU _ hb)) hr⟩
 exact all X.outer (fun _ hb=>hb) I.ok.funs
theorem Inv.stack(I:Inv X pins σ H s):s.heap.FunFrames X.base X.stack:=by
 rcases I.ok.stk with e|⟨e,hf⟩
 ·rw[e];exact I.funs
 ·rw[e];obtain⟨m,hn,_⟩:=I.loc;refine .cons (by rw[I.ok.kind];decide) hf hn ?_ I.funs;exact Heap.get?_none_of_le (Qc I.ok.bsz I.ok.above)
theorem Inv.stkSub(I:Inv X pins σ H s):∀b∈frs X.stack,b∈X.env.locals::X.fs:=fun b hb=>by
 rcases I.ok.stk with e|⟨e,hf⟩
 ·rw[e]at hb;exact QU _ hb
 ·rw[e]at hb;unfold frs at hb;rw[List.filterMap_cons,hf]at hb;exact hb
theorem Inv.stkFree(I:Inv X pins σ H s):∀b∈frs X.stack,H b=none:=fun b hb=>by
 rcases QH.mp (I.stkSub b hb)with e|hb
 ·rw[e];exact I.free
 ·obtain⟨_,o,ho,_⟩:=I.ok.funs.mem hb;exact I.base.free b o ho (I.ok.frf b hb) fun z=>I.ok.exfs b z hb
theorem Inv.step{g':Array GenState}{t':Nat}{d':Drawn}{ch:List Addr}(I:Inv X pins σ H s)
  (hch:∀b∈ch,(b∈X.ex\/X.s₀.heap.objs.size<=b)/\b≠X.env.locals/\(∀x c,X.env.cells.lookup x=some c->c≠b)/\∀p∈X.pn++pins,p.1≠b)
  (keep:∀b o,b≠X.env.locals->b∉X.fs->b∉ch->s.heap.get? b=some o->H b=none->h'.get? b=some o)
  (slot:∀b o,b≠X.env.locals->b∈X.fs->b∉ch->s.heap.get? b=some o->H b=none->∃sl,h'.get? b=some { o with slots:=sl }) (free:∀b o,b∉ch->s.heap.get? b=some o->H b=none->H' b=none)
  (there:∀b o,b∉ch->s.heap.get? b=some o->∃o',h'.get? b=some o')
  (tups:∀b xs,H b=some (.tup xs)->H' b=some (.tup xs)) (frzs:∀b o u,H b=some (.frz o u)->H' b=some (.frz o u)) (tbls:∀b ps,H b=some (.tbl ps)->∃more,H' b=some (.tbl (ps++more)))
  (ns:∀m,s.heap.Ns X.env.locals m->h'.Ns X.env.locals m) (hok:HOk X.prog X.w H' h') (hg:AllBare g') :
  Inv X pins σ H' { s with heap:=h',gens:=g',drawn:=d',toks:=t' }:=by
 have neL:∀b o,X.s₀.heap.get? b=some o->b≠X.env.locals:=fun b o e=>QL (Qj (QX e) I.ok.above);have neC:∀b o,X.s₀.heap.get? b=some o->b∉X.ex->b∉ch:=fun b o e hx hb=>by
  rcases(hch b hb).1 with z|z
  ·exact hx z
  ·exact absurd (Qj (QX e) z) (Nat.lt_irrefl _)
 have cellK:∀x c,X.env.cells.lookup x=some c->∀v,s.heap.IsCell c v->h'.IsCell c v:=fun x c e v ⟨o,ho,hd⟩=>by
  have nch:c∉ch:=fun z=>(hch c z).2.2.1 x c e rfl;by_cases hc:c∈X.fs
  ·obtain⟨sl,q⟩:=slot c o (I.cne x c e) hc nch ho (I.freeC x c e);exact⟨_,q,hd⟩
  ·exact⟨o,keep c o (I.cne x c e) hc nch ho (I.freeC x c e),hd⟩
 refine⟨I.ok,I.os,hg,⟨fun b o e n hb hx=>?_,fun b o e n hb hx=>?_,fun b o e n hx=>?_,fun b o e hx=>?_,fun b xs e=>tups b xs (I.base.tups b xs e),fun b o xs e=>frzs b o xs (I.base.frzs b o xs e),fun b ps e=>?_⟩,?_,fun x c e=>?_,?_,fun x c e=>?_,fun p hp=>?_,hok,I.len⟩
 ·exact keep b o (neL b o e) hb (neC b o e hx) (I.base.keep b o e n hb hx) (I.base.free b o e n hx)
 ·obtain⟨sl,e1⟩:=I.base.slot b o e n hb hx;obtain⟨sl',e2⟩:=slot b _ (neL b o e) hb (neC b o e hx) e1 (I.base.free b o e n hx);exact⟨sl',e2⟩
 ·obtain⟨o',e1⟩:=I.base.there b o e hx;exact free b o' (neC b o e hx) e1 (I.base.free b o e n hx)
 ·obtain⟨o',e1⟩:=I.base.there b o e hx;exact there b o' (neC b o e hx) e1
 ·obtain⟨m1,e1⟩:=I.base.tbls b ps e;obtain⟨m2,e2⟩:=tbls b _ e1;exact⟨m1++m2,by rw[e2,Array.append_assoc]⟩
 ·obtain⟨m,hn,hl⟩:=I.loc;refine⟨m,ns m hn,fun i x v e1 e2 e3=>?_⟩;obtain⟨u,r,l⟩:=hl i x v e1 e2 e3;refine⟨u,r,?_⟩;rcases l with l|⟨k,c,e,z⟩
  ·exact .inl l
  ·exact .inr ⟨k,c,e,cellK x c e _ z⟩
 ·obtain⟨v,z⟩:=I.cell x c e;exact⟨v,cellK x c e v z⟩
 ·obtain⟨m,⟨o,_,_,ho,_⟩,_⟩:=I.loc;exact free _ o (fun z=>(hch _ z).2.1 rfl) ho I.free
 ·obtain⟨v,o,ho,hd⟩:=I.cell x c e;exact free c o (fun z=>(hch c z).2.2.1 x c e rfl) ho (I.freeC x c e)
 ·obtain⟨e,n,ne,nf,d⟩:=I.pin p hp;have nch:p.1∉ch:=fun z=>(hch p.1 z).2.2.2 p hp rfl;exact⟨keep p.1 p.2 ne nf nch e n,free p.1 p.2 nch e n,ne,nf,d⟩
theorem Inv.un{t':Nat}(I:Inv X pins σ H s)(u:Un X.fs [] H H' s.heap h')(hok:HOk X.prog X.w H' h'):Inv X pins σ H' { s with heap:=h',toks:=t' }:=by
 obtain⟨m,⟨o,es,ep,ho,r⟩,_⟩:=id I.loc;obtain⟨sl,hL⟩:=u.any ho I.free (by simp);exact I.step (g':=s.gens) (d':=s.drawn) (ch:=[]) (fun _ z=>nomatch z) (fun b o _ hb _ e n=>u.keep b o e n hb (by simp)) (fun b o _ hb _ e n=>u.slot b o e n hb (by simp)) (fun b o _ e n=>u.free b o e n (by simp)) (fun b o _ e=>u.there b o e (by simp)) u.tups u.frzs u.tbls (fun m' hm=>by
  obtain⟨o',es',ep',ho',r'⟩:=hm;rw[ho]at ho';cases ho';exact⟨_,es',ep',hL,r'⟩) hok I.bare
theorem Inv.call{g':Array GenState}{t':Nat}{d':Drawn}{ch:List Addr}(I:Inv X pins σ H s)(u:Un (frs X.stack) ch H H' s.heap h')(hok:HOk X.prog X.w H' h')(hg:AllBare g')
  (hch:∀b∈ch,(b∈X.ex\/X.s₀.heap.objs.size<=b)/\b≠X.env.locals/\(∀x c,X.env.cells.lookup x=some c->c≠b)/\∀p∈X.pn++pins,p.1≠b) :
  Inv X pins σ H' { s with heap:=h',gens:=g',drawn:=d',toks:=t' }:=by
 obtain⟨m,⟨o,es,ep,ho,r⟩,_⟩:=id I.loc;obtain⟨sl,hL⟩:=u.any ho I.free fun z=>(hch _ z).2.1 rfl;exact I.step (ch:=ch) hch (fun b o hL hb hc e n=>u.keep b o e n (fun z=>(QH.mp (I.stkSub b z)).elim hL hb) hc) (fun b o _ _ hc e n=>u.any e n hc) (fun b o hc e n=>u.free b o e n hc) (fun b o hc e=>u.there b o e hc) u.tups u.frzs u.tbls (fun m' hm=>by
  obtain⟨o',es',ep',ho',r'⟩:=hm;rw[ho]at ho';cases ho';exact⟨_,es',ep',hL,r'⟩) hok hg
theorem Inv.turned{t':Nat}{it:Addr}(I:Inv X pins σ H s)(k:∀b o,b≠it->s.heap.get? b=some o->h'.get? b=some o)(hn:H it=none)(hL:it≠X.env.locals)
  (h1:it∈X.ex\/X.s₀.heap.objs.size<=it) (h2:∀x c,X.env.cells.lookup x=some c->c≠it) (h3:∀p∈X.pn++pins,p.1≠it):Inv X pins σ H { s with heap:=h',toks:=t' }:=by
 have nit:∀b u,H b=some u->b≠it:=fun b u e z=>by rw[z,hn]at e;cases e
 refine I.step (g':=s.gens) (d':=s.drawn) (ch:=[it]) (fun b hb=>?_) (fun b o _ _ hc e _=>k b o (fun z=>hc (by simp[z])) e) (fun b o _ _ hc e _=>⟨o.slots,k b o (fun z=>hc (by simp[z])) e⟩) (fun _ _ _ _ n=>n)
  (fun b o hc e=>⟨o,k b o (fun z=>hc (by simp[z])) e⟩) (fun _ _ e=>e) (fun _ _ _ e=>e) (fun b ps e=>⟨#[],by rw[e];simp⟩) (fun m hm=>?_) (fun b u e=>?_) I.bare
 ·have e:b=it:=by simpa using hb
  subst e;exact⟨h1,hL,h2,h3⟩
 ·obtain⟨o,es,ep,ho,r⟩:=hm;exact⟨o,es,ep,k _ o (Ne.symm hL) ho,r⟩
 ·refine(I.hok b u e).stay (fun c v hc q=>k c v ?_ q) (fun _ q=>q) fun _ _ q=>q;rcases hc with z|z
  ·rw[z];exact nit b u e
  ·exact nit c _ z
theorem Inv.tok(I:Inv X pins σ H s)(t:Nat):Inv X pins σ H { s with toks:=t }:=I.un (h':=s.heap) (t':=t) Un.refl I.hok
theorem Inv.kept{t':Nat}(I:Inv X pins σ H s)(k:∀b u,s.heap.get? b=some u->h'.get? b=some u):Inv X pins σ H { s with heap:=h',toks:=t' }:=I.un (Un.kept k) (I.hok.kept k)
theorem Inv.laid{a:Addr}{o:HO}{t':Nat}(I:Inv X pins σ H s)(k:∀b u,s.heap.get? b=some u->h'.get? b=some u)(hp:s.heap.objs.size<=a)(new:bx X.prog X.w (upd H a o) h' a o) :
  Inv X pins σ (upd H a o) { s with heap:=h',toks:=t' }:=I.un (Un.laid k hp (I.hok.fresh hp)) (I.hok.laid k hp new)
theorem Inv.write{x e:Addr}{o:HO}{t':Nat}(I:Inv X pins σ H s)(mu:Mut (H x))(he:e=x\/H e=some (.own x))(k:∀b u,b≠e->s.heap.get? b=some u->h'.get? b=some u)(heo:∃u,h'.get? e=some u)
  (new:bx X.prog X.w (upd H x o) h' x o):Inv X pins σ (upd H x o) { s with heap:=h',toks:=t' }:=I.un (Un.write mu he k heo) (I.hok.write mu he k heo new)
theorem Inv.pins_of{pins':List (Addr×Obj)}(I:Inv X pins σ H s)(h:∀p∈pins',s.heap.get? p.1=some p.2/\H p.1=none/\p.1≠X.env.locals/\p.1∉X.fs/\∀v,p.2.data≠.cell v):Inv X pins' σ H s:=
 ⟨I.ok,I.os,I.bare,I.base,I.loc,I.cell,I.free,I.freeC,fun p hp=>(Qd.mp hp).elim (fun z=>I.pin p (Zn _ z)) (h p),I.hok,I.len⟩
theorem rn{N:List Str}(hN:N.Nodup){i j:Nat}{x:Str}(a:N[i]?=some x)(b:N[j]?=some x):i=j:=by
 obtain⟨h1,e1⟩:=Q7.mp a;obtain⟨h2,e2⟩:=Q7.mp b;exact(List.getElem_inj hN).mp (e1.trans e2.symm)
theorem nH{M:Model}{A:Around}{E:Value->Shared->Prop}{i:Nat}{x:Str}{v:V}{u:Value}{Q:Unit->Shared->Prop}(I:Inv X pins σ H s)(hN:X.N.Nodup)(hi:X.N[i]?=some x)(hx:Loc X.env.scope x)(r:bP v u)
  (h:∀s',Inv X pins (σ.set i (some v)) H s'->(∃a,X4 a s.heap s'.heap/\(a=X.env.locals\/X.env.cells.lookup x=some a))->Q () s') (hf:X.fn x=true\/X.env.scope.names.lookup x=some .local:=by first|exact .inl rfl|exact .inr rfl|assumption):wpAny M A (storeName X.env x u) Q E s:=by
 obtain⟨m,hn,hl⟩:=id I.loc;have hcls:(X.env.scope.kind == .class||(X.env.scope.kind == .module&&X.env.locals !=X.env.globals))=false:=by rw[I.ok.kind];rfl
 have hiσ:i < σ.length:=by rw[I.len];exact(Q7.mp hi).1
 have cne:=I.cne;have tracked:∀{a:Addr} {h':Heap},(∃o,s.heap.get? a=some o/\H a=none)->X4 a s.heap h'->HOk X.prog X.w H h':=fun{a h'} ha hs b ob e=>by
  obtain⟨_,_,hfree⟩:=ha;refine(I.hok b ob e).stay (fun c w' hc q=>(hs.2 c ?_).trans q) (fun _ q=>q) fun _ _ q=>q;rintro rfl;rcases hc with rfl|hc
  ·rw[hfree]at e;cases e
  ·rw[hfree]at hc;cases hc
 rcases hx with hk|hk
 ·refine wpAny_storeName_local hk hn (fun h' hn' hs=>?_) hcls;obtain⟨oL,_,_,hoL,_⟩:=id hn;refine h _ ⟨I.ok,I.os,I.bare,⟨fun b o e n hb hx=>?_,fun b o e n hb hx=>?_,I.base.free,fun b o e hx=>?_,I.base.tups,I.base.frzs,I.base.tbls⟩,⟨_,hn',fun j y v' e1 e2 e3=>?_⟩,fun y c e=>?_,I.free,I.freeC,fun p hp=>?_,tracked ⟨oL,hoL,I.free⟩ hs,by simpa using I.len⟩ ⟨_,hs,.inl rfl⟩
  ·exact(hs.2 b (QL (Qj (QX e) I.ok.above))).trans (I.base.keep b o e n hb hx)
  ·obtain⟨sl,e1⟩:=I.base.slot b o e n hb hx;exact⟨sl,(hs.2 b (QL (Qj (QX e) I.ok.above))).trans e1⟩
  ·obtain⟨o',e1⟩:=I.base.there b o e hx;exact⟨o',(hs.2 b (QL (Qj (QX e) I.ok.above))).trans e1⟩
  ·by_cases hj:j=i
   ·subst hj;rw[hi]at e1;cases e1;rw[List.getElem?_set_self hiσ]at e2;cases e2;exact⟨u,r,.inl ⟨hk,by simp⟩⟩
   ·rw[Qg (Ne.symm hj)]at e2;obtain⟨u',r',q⟩:=hl j y v' e1 e2 e3;refine⟨u',r',?_⟩;rcases q with⟨k,e⟩|⟨k,c,e,z⟩
    ·refine .inl ⟨k,?_⟩;have:y≠x:=fun e=>hj (rn hN e1 (e▸hi));simp[this,e]
    ·exact .inr ⟨k,c,e,z.sameBut hs (cne y c e)⟩
  ·obtain⟨w',z⟩:=I.cell y c e;exact⟨w',z.sameBut hs (cne y c e)⟩
  ·obtain⟨e,n,ne,nf,d⟩:=I.pin p hp;exact⟨(hs.2 p.1 ne).trans e,n,ne,nf,d⟩
 ·have hfn:X.fn x=true:=by
   rcases hf with z|z
   ·exact z
   ·rw[z]at hk;cases hk
  obtain⟨c,hc⟩:=I.ok.has x (.inl hk);obtain⟨w',z⟩:=I.cell x c hc;refine wpAny_storeName_cell I.ok.kind hk hc z (fun h' hc' hs=>?_);obtain⟨oc,hoc,hocd⟩:=id z;refine h { s with heap:=h' } ⟨I.ok,I.os,I.bare,⟨fun b o e n hb hx=>?_,fun b o e n hb hx=>?_,I.base.free,fun b o e hx=>?_,I.base.tups,I.base.frzs,I.base.tbls⟩,⟨m,hn.sameBut hs (Ne.symm (cne x c hc)),fun j y v' e1 e2 e3=>?_⟩,fun y c' e=>?_,I.free,I.freeC,fun p hp=>?_,tracked ⟨oc,hoc,I.freeC x c hc⟩ hs,by simpa using I.len⟩ ⟨c,hs,.inr hc⟩
  ·exact(hs.2 b (QL (Qj (QX e) (I.ok.cab x c hfn hc)))).trans (I.base.keep b o e n hb hx)
  ·obtain⟨sl,e1⟩:=I.base.slot b o e n hb hx;exact⟨sl,(hs.2 b (QL (Qj (QX e) (I.ok.cab x c hfn hc)))).trans e1⟩
  ·obtain⟨o',e1⟩:=I.base.there b o e hx;exact⟨o',(hs.2 b (QL (Qj (QX e) (I.ok.cab x c hfn hc)))).trans e1⟩
  ·by_cases hj:j=i
   ·subst hj;rw[hi]at e1;cases e1;rw[List.getElem?_set_self hiσ]at e2;cases e2;exact⟨u,r,.inr ⟨.inl hk,c,hc,hc'⟩⟩
   ·rw[Qg (Ne.symm hj)]at e2;obtain⟨u',r',q⟩:=hl j y v' e1 e2 e3;refine⟨u',r',?_⟩;rcases q with q|⟨k,c',e,z'⟩
    ·exact .inl q
    ·refine .inr ⟨k,c',e,z'.sameBut hs ?_⟩;rintro rfl;exact hj (rn hN e1 (I.ok.inj _ _ _ e hc▸hi))
  ·by_cases hcc:c'=c
   ·subst hcc;exact⟨_,hc'⟩
   ·obtain⟨w2,z2⟩:=I.cell y c' e;exact⟨w2,z2.sameBut hs hcc⟩
  ·obtain⟨e,n,ne,nf,d⟩:=I.pin p hp;refine⟨(hs.2 p.1 ?_).trans e,n,ne,nf,d⟩;intro q;rw[q,hoc]at e;have q':oc=p.2:=Option.some.inj e;exact d w' (by rw[<-q'];exact hocd)
theorem qI{M:Model}{A:Around}{E:Value->Shared->Prop}{i:Nat}{x:Str}{v:V}{u:Value}{Q:Unit->Shared->Prop}(I:Inv X pins σ H s)(hN:X.N.Nodup)(hi:X.N[i]?=some x)(hx:Loc X.env.scope x)(r:bP v u)
  (h:∀s',Inv X pins (σ.set i (some v)) H s'->Q () s') (hf:X.fn x=true\/X.env.scope.names.lookup x=some .local:=by first|exact .inl rfl|exact .inr rfl|assumption):wpAny M A (storeName X.env x u) Q E s:=
 nH I hN hi hx r (fun s' I' _=>h s' I') hf
theorem Inv.call'{s':Shared}{ch:List Addr}(I:Inv X pins σ H s)(ho:s'.os=s.os)(u:Un (frs X.stack) ch H H' s.heap s'.heap)(hok:HOk X.prog X.w H' s'.heap)(hg:AllBare s'.gens)
  (hch:∀b∈ch,(b∈X.ex\/X.s₀.heap.objs.size<=b)/\b≠X.env.locals/\(∀x c,X.env.cells.lookup x=some c->c≠b)/\∀p∈X.pn++pins,p.1≠b):Inv X pins σ H' s':=by
 obtain⟨h',g',d',t',o'⟩:=s';have e:o'=s.os:=ho;subst e;exact I.call (g':=g') (t':=t') (d':=d') u hok hg hch
end
abbrev XK:=Value->Option Addr->Hp->Prop
abbrev St:=List (Option V)
abbrev VK:=V->Hp->Prop
abbrev TE:=St->Hp->VK->Prop
abbrev TT:=St->Hp->(Bool->Hp->Prop)->Prop
abbrev TA:=St->Hp->(List V->Hp->Prop)->Prop
structure A3 where
 nx:St->Hp->Prop
 rt:VK
 bk:St->Hp->Prop:=fun _ _=>False
 ct:St->Hp->Prop:=fun _ _=>False
abbrev TS:=A3->St->Hp->Prop
def EP(X:Cx)(pins:List (Addr×Obj))(σ:St)(Q:VK)(u:Value)(s':Shared):Prop:=∃v H',Inv X pins σ H' s'/\bP v u/\Q v H'
def TP(X:Cx)(pins:List (Addr×Obj))(σ:St)(Q:Bool->Hp->Prop)(b:Bool)(s':Shared):Prop:=∃H',Inv X pins σ H' s'/\Q b H'
def AP(X:Cx)(pins:List (Addr×Obj))(σ:St)(Q:List V->Hp->Prop)(us:List Value)(s':Shared):Prop:=∃vs H',Inv X pins σ H' s'/\a5 vs us/\Q vs H'
def SP(X:Cx)(pins:List (Addr×Obj))(D:A3)(f:Flow)(s':Shared):Prop:=
 match f with
 |.next=>∃σ' H',Inv X pins σ' H' s'/\D.nx σ' H'
 |.brk=>∃σ' H',Inv X pins σ' H' s'/\D.bk σ' H'
 |.cont=>∃σ' H',Inv X pins σ' H' s'/\D.ct σ' H'
 |.ret u=>∃v σ' H',Inv X pins σ' H' s'/\bP v u/\D.rt v H'
def PE(X:Cx)(e:Expr)(t:TE):Prop:=
 ∀(pins:List (Addr×Obj)) (s:Shared) (σ:St) (H:Hp) (Q:VK),Inv X pins σ H s->t σ H Q->wpAny (model X.prog X.w) X.A (eval e X.env) (EP X pins σ Q) X.xe s
def PT(X:Cx)(e:Expr)(t:TT):Prop:=
 ∀(pins:List (Addr×Obj)) (s:Shared) (σ:St) (H:Hp) (Q:Bool->Hp->Prop),Inv X pins σ H s->t σ H Q->wpAny (model X.prog X.w) X.A (isTrue e X.env (eval e X.env)) (TP X pins σ Q) X.xe s
def PW(X:Cx)(e:Expr)(t:TT):Prop:=
 ∀(whole:Sem Value) (pins:List (Addr×Obj)) (s:Shared) (σ:St) (H:Hp) (Q:Bool->Hp->Prop),Inv X pins σ H s->t σ H Q->wpAny (model X.prog X.w) X.A (isTrue e X.env whole) (TP X pins σ Q) X.xe s
theorem PW.pt{X:Cx}{e:Expr}{t:TT}(h:PW X e t):PT X e t:=h _
def PA(X:Cx)(es:List Expr)(t:TA):Prop:=
 ∀(pos:Pos) (pins:List (Addr×Obj)) (s:Shared) (σ:St) (H:Hp) (Q:List V->Hp->Prop),Inv X pins σ H s->t σ H Q->wpAny (model X.prog X.w) X.A (spliced (backTo pos (starEach es X.env))) (AP X pins σ Q) X.xe s
def PS(X:Cx)(st:Stmt)(t:TS):Prop:=
 ∀(pins:List (Addr×Obj)) (s:Shared) (σ:St) (H:Hp) (D:A3),Inv X pins σ H s->t D σ H->wpAny (model X.prog X.w) X.A (exec st X.env) (SP X pins D) X.xe s
def PSs(X:Cx)(st:List Stmt)(t:TS):Prop:=
 ∀(pins:List (Addr×Obj)) (s:Shared) (σ:St) (H:Hp) (D:A3),Inv X pins σ H s->t D σ H->wpAny (model X.prog X.w) X.A (execs st X.env) (SP X pins D) X.xe s
theorem thn{α:Type}{t:Sem α}{Q Q':α->Shared->Prop}{M:Model}{A:Around}{E:Value->Shared->Prop}{s:Shared}(h:wpAny M A t Q E s)(hQ:∀a s,Q a s->Q' a s):wpAny M A t Q' E s:=ZY h hQ fun _ _ x=>x
section
variable{X:Cx}
def GO(i:Nat):TE:=fun σ H Q=>∃v,σ[i]?=some (some v)/\Q v H
def tC(v:V):TE:=fun _ H Q=>Q v H
theorem Fv{i:Nat}{x:Str}{pos:Pos}(hN:X.N[i]?=some x)(hv:Vis X.env.scope x)(hd:(x == ("__debug__":Str))=false:=by decide)(hcd:(x == ("__classdict__":Str))=false:=by decide):PE X (.Name x pos) (GO i):=by
 intro pins s σ H Q I h;obtain⟨v,e,h⟩:=h;obtain⟨m,hn,hl⟩:=I.loc;obtain⟨u,r,l⟩:=hl i x v hN e hv;have fin:EP X pins σ Q u s:=⟨v,H,I,r,h⟩;rcases l with⟨hk,hm⟩|⟨hk,c,hc,hcell⟩
 ·exact wpAny_Name (wpAny_loadName_local I.ok.kind hk hn hm fin) hd
 ·rcases hk with hk|hk
  ·exact wpAny_Name (wpAny_loadName_cell I.ok.kind hk hc hcell fin) hd
  ·exact wpAny_Name (wpAny_loadName_free I.ok.kind hk hc hcell fin hcd) hd
theorem FD{i j pos}:PE X (.Constant (.int i) j pos) (tC (.int i)):=fun _ _ _ H _ I h=>wpAny_Constant_int ⟨.int i,H,I.tok _,⟨_,rfl⟩,h⟩
theorem Ih{b j pos}:PE X (.Constant (.bool b) j pos) (tC (.bl b)):=fun _ _ _ H _ I h=>Constant_bool ⟨.bl b,H,I,rfl,h⟩
theorem Fy{x j pos}:PE X (.Constant (.str x) j pos) (tC (.str x)):=fun _ _ _ H _ I h=>Calls.Constant_str ⟨.str x,H,I.tok _,⟨_,rfl⟩,h⟩
def Gl(X:Cx)(x:Str):Prop:=X.env.kindOf x=some .globalImplicit
theorem v7{E:Value->Shared->Prop}{pins:List (Addr×Obj)}{s:Shared}{σ:St}{H:Hp}{x:Str}{u:Value}{pos:Pos}{Q:Value->Shared->Prop}(I:Inv X pins σ H s)(hg:Gl X x)(hm:X.mg x=some u)(h:Q u s)
  (hd:(x == ("__debug__":Str))=false:=by decide):wpAny (model X.prog X.w) X.A (eval (.Name x pos) X.env) Q E s:=
 Calls.Name_function_global I.ok.kind hg (Calls.loadGlobal_global (by rw[I.ok.glob];exact I.mod.glob.keeps I.bk) hm h) hd
theorem fq{E:Value->Shared->Prop}{pins:List (Addr×Obj)}{s:Shared}{σ:St}{H:Hp}{x:Str}{u:Value}{pos:Pos}{Q:Value->Shared->Prop}(I:Inv X pins σ H s)(hg:Gl X x)(hm:X.mg x=none)(hv:bootBuiltins x=some u)(h:Q u s)
  (hn:x≠"__name__":=by decide) (hd:(x == ("__debug__":Str))=false:=by decide):wpAny (model X.prog X.w) X.A (eval (.Name x pos) X.env) Q E s:=by
 obtain⟨mb,h1,h2⟩:=I.mod.blt;exact Calls.Name_function_global I.ok.kind hg (Calls.loadGlobal_builtin (by rw[I.ok.glob];exact I.mod.glob.keeps I.bk) hm (by rw[I.ok.blt];exact h1.keeps I.bk) ((h2 x hn).trans hv) h) hd
theorem Cy{x:Str}{v:V}{u:Value}{pos:Pos}(hg:Gl X x)(hm:X.mg x=some u)(r:bP v u)(hd:(x == ("__debug__":Str))=false:=by decide):PE X (.Name x pos) (tC v):=
 fun _ _ _ H _ I h=>v7 I hg hm ⟨v,H,I,r,h⟩ hd
theorem CD{x:Str}{v:V}{u:Value}{pos:Pos}(hg:Gl X x)(hm:X.mg x=none)(hv:bootBuiltins x=some u)(r:bP v u)(hn:x≠"__name__":=by decide)(hd:(x == ("__debug__":Str))=false:=by decide):PE X (.Name x pos) (tC v):=
 fun _ _ _ H _ I h=>fq I hg hm hv ⟨v,H,I,r,h⟩ hn hd
variable{a b:Expr}{ta tb:TE}{pos:Pos}
def PC(X:Cx)(op:CmpOp)(a b:Expr)(t:TE):Prop:=
 ∀(pins:List (Addr×Obj)) (s:Shared) (σ:St) (H:Hp) (Q:VK),Inv X pins σ H s->t σ H Q->
  wpAny (model X.prog X.w) X.A (eval a X.env) (fun v s₁=>wpAny (model X.prog X.w) X.A (eval b X.env) (fun u s₂=>wpAny (model X.prog X.w) X.A (compareOp op v u) (EP X pins σ Q) X.xe s₂) X.xe s₁) X.xe s
def tB(t:TE):TT:=fun σ H Q=>t σ H fun x H1=>∃c,x=.bl c/\Q c H1
theorem FE{op:CmpOp}{t:TE}(h:PC X op a b t)(h1:behindInMarks op b=false:=by first|exact nobehind _ (by decide) (by decide)|rfl):PE X (.Compare a [op] [b] pos) t:=fun pins s σ H Q I hw=>wpAny_Compare1 (h pins s σ H Q I hw) h1
theorem Fl{op:CmpOp}{t:TE}(h:PC X op a b t)(h1:behindInMarks op b=false:=by first|exact nobehind _ (by decide) (by decide)|rfl):PT X (.Compare a [op] [b] pos) (tB t):=by
 intro pins s σ H Q I hw;refine wpAny_isTrue_Compare1 (thn (h pins s σ H _ I hw) fun v s1 h1=>thn h1 fun u s2 h2=>thn h2 fun c s3 hz=>?_) h1;obtain⟨x,H1,I1,r1,q1⟩:=hz;obtain⟨d,rfl,q⟩:=q1;cases r1;exact wpAny_truthy_bool ⟨H1,I1,q⟩
theorem Fi{e:Expr}{t:TE}(h:PE X e t)(he:∀whole,isTrue e X.env whole=(do let v <-whole;standAt e.pos;holding [v] (truthy v)):=by intro _;rfl):PT X e (tB t):=by
 intro pins s σ H Q I hw;refine isTrue_plain (thn (h pins s σ H _ I hw) fun v s1 ⟨x,H1,I1,r1,q1⟩=>?_) (he _);obtain⟨d,rfl,q⟩:=q1;cases r1;exact wpAny_truthy_bool ⟨H1,I1,q⟩
variable{tA tB':TT}{rest:List Expr}
def Jo(t u:TT):TT:=fun σ H Q=>t σ H fun c H1=>if c=true then u σ H1 Q else Q false H1
def tOr(t u:TT):TT:=fun σ H Q=>t σ H fun c H1=>if c=true then Q true H1 else u σ H1 Q
def Jk(t:TT):TT:=fun σ H Q=>t σ H fun c H1=>Q (!c) H1
theorem Ck(ha:PT X a tA):PW X (.BoolOp .And [a] pos) tA:=by
 intro wh pins s σ H Q I h;refine isTrue_and (thn (ha pins s σ H Q I h) fun c s1 e=>?_);cases c with
 |true=>exact isTrue_and_nil e
 |false=>exact e
theorem Ff(ha:PT X a tA):PW X (.BoolOp .Or [a] pos) tA:=by
 intro wh pins s σ H Q I h;refine isTrue_or (thn (ha pins s σ H Q I h) fun c s1 e=>?_);cases c with
 |false=>exact isTrue_or_nil e
 |true=>exact e
theorem Fg(ha:PT X a tA)(hb:PW X (.BoolOp .And (b::rest) pos) tB'):PW X (.BoolOp .And (a::b::rest) pos) (Jo tA tB'):=by
 intro wh pins s σ H Q I h;refine isTrue_and (thn (ha pins s σ H _ I h) fun c s1 ⟨H1,I1,q1⟩=>?_);cases c with
 |true=>exact hb wh pins s1 σ H1 Q I1 q1
 |false=>exact⟨H1,I1,q1⟩
theorem HZ(ha:PT X a tA)(hb:PW X (.BoolOp .Or (b::rest) pos) tB'):PW X (.BoolOp .Or (a::b::rest) pos) (tOr tA tB'):=by
 intro wh pins s σ H Q I h;refine isTrue_or (thn (ha pins s σ H _ I h) fun c s1 ⟨H1,I1,q1⟩=>?_);cases c with
 |true=>exact⟨H1,I1,q1⟩
 |false=>exact hb wh pins s1 σ H1 Q I1 q1
theorem Fj(ha:PT X a tA):PT X (.UnaryOp .Not a pos) (Jk tA):=by
 intro pins s σ H Q I h;exact isTrue_not (ha pins s σ H (fun c H1=>Q (!c) H1) I h)
def EY(ta tb:TE):TE:=fun σ H Q=>ta σ H fun x H1=>∃c,x=.bl c/\if c=true then tb σ H1 Q else Q (.bl false) H1
def EO(ta:TE):TE:=fun σ H Q=>ta σ H fun x H1=>∃c,x=.bl c/\Q (.bl (!c)) H1
theorem Fz{op}{t:TE}(h:PE X a t):PE X (.BoolOp op [a] pos) t:=fun pins s σ H Q I hw=>BoolOp_one (h pins s σ H Q I hw)
theorem FF(ha:PE X a ta)(hb:PE X (.BoolOp .And (b::rest) pos) tb):PE X (.BoolOp .And (a::b::rest) pos) (EY ta tb):=by
 intro pins s σ H Q I h;refine BoolOp_and (thn (ha pins s σ H _ I h) fun v s1 hz=>?_);obtain⟨x,H1,I1,r1,q1⟩:=hz;obtain⟨c,rfl,q1⟩:=q1;cases r1;refine wpAny_truthy_bool ?_;cases c with
 |true=>exact hb pins s1 σ H1 Q I1 q1
 |false=>exact⟨.bl false,H1,I1,rfl,q1⟩
theorem FA(ha:PE X a ta):PE X (.UnaryOp .Not a pos) (EO ta):=by
 intro pins s σ H Q I h;refine UnaryOp_ (thn (ha pins s σ H _ I h) fun v s1 hz=>?_);obtain⟨x,H1,I1,r1,q1⟩:=hz;obtain⟨c,rfl,q1⟩:=q1;cases r1;exact not_of (wpAny_truthy_bool ⟨.bl (!c),H1,I1,rfl,q1⟩)
end
def SqL(K:Q4)(H:Hp)(a:Addr)(xs:List V):Prop:=
 Rd H a (.lst xs)\/
  ∃(o:Obj) (its:Array Value) (n:Nat),K.lookup a=some o/\o.cls=.type "list"/\o.dict=none/\o.data=.seq its n/\its.size<=sizeLine/\a5 xs its.toList
def SqT(K:Q4)(H:Hp)(a:Addr)(xs:List V):Prop:=
 Rd H a (.tup xs)\/
  ∃(o:Obj) (its:Array Value) (n:Nat),K.lookup a=some o/\o.cls=.type "tuple"/\o.data=.seq its n/\its.size<=sizeLine/\a5 xs its.toList
def Kb:Value->Option V
 |.none=>some .non
 |.bool b=>some (.bl b)
 |.int i _=>some (.int i)
 |.str x _=>some (.str x)
 |.bytes b _=>some (.byt b)
 |.float b _=>some (.flt b)
 |.ref a=>some (.ref a)
 |.type n=>some (.ty n)
 |_=>none
theorem bP.abs{x:V}{u:Value}(r:bP x u):Kb u=some x:=by
 cases x with
 |non=>cases r;rfl
 |bl _=>cases r;rfl
 |int _=>obtain⟨t,rfl⟩:=r;rfl
 |str _=>obtain⟨t,rfl⟩:=r;rfl
 |byt _=>obtain⟨t,rfl⟩:=r;rfl
 |flt _=>obtain⟨t,rfl⟩:=r;rfl
 |ref _=>cases r;rfl
 |ty _=>cases r;rfl
theorem bP.inj{x y:V}{u:Value}(r:bP x u)(q:bP y u):x=y:=Option.some.inj (r.abs.symm.trans q.abs)
theorem a5.inj:∀{xs ys:List V} {us:List Value},a5 xs us->a5 ys us->xs=ys
 |_,_,_,.nil,.nil=>rfl
 |_,_,_,.cons r t,.cons r' t'=>by rw[r.inj r',a5.inj t t']
section
variable{X:Cx}{pins:List (Addr×Obj)}{σ:St}{H:Hp}{s:Shared}{a:Addr}{xs ys:List V}
theorem SqL.of{K:Q4}(h:H a=some (.lst xs)):SqL K H a xs:=.inl (.inl h)
theorem SqT.of{K:Q4}(h:H a=some (.tup xs)):SqT K H a xs:=.inl (.inl h)
theorem Inv.list(I:Inv X pins σ H s)(h:SqL X.K H a xs):∃its:List Value,a5 xs its/\PlainL s.heap a its.toArray/\xs.length<=sizeLine:=by
 rcases h with h|⟨o,its,n,hk,hc,hd,hs,hz,r⟩
 ·obtain⟨z,its,n,r,e⟩:=h.ok I.hok;exact⟨its,r,⟨_,n,e,rfl,rfl,rfl⟩,z⟩
 ·refine⟨its.toList,r,⟨o,n,I.kIn a o hk,hc,hd,by simpa using hs⟩,?_⟩;have e:=r.length;simp only[QD]at e;omega
theorem Inv.tuple(I:Inv X pins σ H s)(h:SqT X.K H a xs):∃its:List Value,a5 xs its/\IsTup s.heap a its.toArray/\xs.length<=sizeLine:=by
 rcases h with h|⟨o,its,n,hk,hc,hs,hz,r⟩
 ·obtain⟨z,its,r,p⟩:=h.ok I.hok;exact⟨its,r,p,z⟩
 ·refine⟨its.toList,r,⟨o,I.kIn a o hk,hc,n,by simpa using hs⟩,?_⟩;have e:=r.length;simp only[QD]at e;omega
theorem Inv.list_inj(I:Inv X pins σ H s)(h:SqL X.K H a xs)(h':SqL X.K H a ys):xs=ys:=by
 obtain⟨its,r,⟨o,n,e,_,_,d⟩,_⟩:=I.list h;obtain⟨its',r',⟨o',n',e',_,_,d'⟩,_⟩:=I.list h';rw[e]at e';cases e';rw[d]at d';injection d' with d1 _;have:its=its':=by simpa using congrArg Array.toList d1
 subst this;exact r.inj r'
theorem Inv.tuple_inj(I:Inv X pins σ H s)(h:SqT X.K H a xs)(h':SqT X.K H a ys):xs=ys:=by
 obtain⟨its,r,⟨o,e,_,n,d⟩,_⟩:=I.tuple h;obtain⟨its',r',⟨o',e',_,n',d'⟩,_⟩:=I.tuple h';rw[e]at e';cases e';rw[d]at d';injection d' with d1 _;have:its=its':=by simpa using congrArg Array.toList d1
 subst this;exact r.inj r'
end
abbrev Cx.wish(X:Cx)(E:Value->Shared->Prop):Cx:={ X with xe:=E }
abbrev Cx.nox(X:Cx):Cx:=X.wish fun _ _=>False
theorem Cx.Ok.wish{X:Cx}(ok:X.Ok)(E:Value->Shared->Prop):(X.wish E).Ok:=
 ⟨ok.mod,ok.kind,ok.glob,ok.blt,ok.above,ok.inj,ok.has,ok.cab,ok.hd,ok.frames,ok.stk,ok.exf,ok.bs,ok.bsz,ok.noex,ok.exfs,ok.funs,ok.frf⟩
theorem Cx.Ok.unwish{X:Cx}{E:Value->Shared->Prop}(ok:(X.wish E).Ok):X.Ok:=
 ⟨ok.mod,ok.kind,ok.glob,ok.blt,ok.above,ok.inj,ok.has,ok.cab,ok.hd,ok.frames,ok.stk,ok.exf,ok.bs,ok.bsz,ok.noex,ok.exfs,ok.funs,ok.frf⟩
section
variable{X:Cx}{pins:List (Addr×Obj)}{σ:St}{H:Hp}{s:Shared}{E:Value->Shared->Prop}
theorem Inv.wish(I:Inv X pins σ H s)(E:Value->Shared->Prop):Inv (X.wish E) pins σ H s:=⟨I.ok.wish E,I.os,I.bare,I.base,I.loc,I.cell,I.free,I.freeC,I.pin,I.hok,I.len⟩
theorem Inv.unwish(I:Inv (X.wish E) pins σ H s):Inv X pins σ H s:=⟨I.ok.unwish,I.os,I.bare,I.base,I.loc,I.cell,I.free,I.freeC,I.pin,I.hok,I.len⟩
theorem SP.unwish{D:A3}{f:Flow}{s':Shared}(h:SP (X.wish E) pins D f s'):SP X pins D f s':=by
 cases f with
 |next=>obtain⟨σ',H',I,q⟩:=h;exact⟨σ',H',I.unwish,q⟩
 |brk=>obtain⟨σ',H',I,q⟩:=h;exact⟨σ',H',I.unwish,q⟩
 |cont=>obtain⟨σ',H',I,q⟩:=h;exact⟨σ',H',I.unwish,q⟩
 |ret u=>obtain⟨v,σ',H',I,r,q⟩:=h;exact⟨v,σ',H',I.unwish,r,q⟩
theorem PSs.nox{st:List Stmt}{t:TS}(h:PSs X.nox st t):PSs X st t:=fun pins s σ H D I hw=>
 ZY (h pins s σ H D (I.wish _) hw) (fun _ _ q=>q.unwish) fun _ _ z=>False.elim z
end
section
variable{X:Cx}{st:Stmt}{rest:List Stmt}{t u:TS}{e:Expr}{te:TE}{pos:Pos}
def ER:TS:=fun D σ H=>D.nx σ H
def Ji(t u:TS):TS:=fun D σ H=>t { D with nx:=u D } σ H
theorem Co:PSs X [] ER:=fun _ _ σ H _ I h=>wpAny_execs_nil ⟨σ,H,I,h⟩
theorem yQ(h1:PS X st t)(h2:PSs X rest u):PSs X (st::rest) (Ji t u):=by
 intro pins s σ H D I h;refine wpAny_execs_cons (thn (h1 pins s σ H { D with nx:=u D } I h) fun f s1 q=>?_);cases f with
 |next=>
  obtain⟨σ',H',I',q⟩:=q;exact h2 pins s1 σ' H' D I' q
 |ret v=>exact q
 |brk=>exact q
 |cont=>exact q
theorem Cn(h1:PS X st t):PSs X [st] t:=by
 intro pins s σ H D I h;refine wpAny_execs_cons (thn (h1 pins s σ H D I h) fun f s1 q=>?_);cases f with
 |next=>exact wpAny_execs_nil q
 |ret v=>exact q
 |brk=>exact q
 |cont=>exact q
theorem Inv.quiet{pins:List (Addr×Obj)}{σ:St}{H:Hp}{s:Shared}(I:Inv X pins σ H s):interactive X.env=false:=by simp[interactive,I.ok.kind]
def ES(te:TE):TS:=fun D σ H=>te σ H fun _ H1=>D.nx σ H1
theorem Cp(he:PE X e te)(hs:swapsWith e none pos.line X.env=pure false:=by rfl):PS X (.Expr e pos) (ES te):=by
 intro pins s σ H D I h;exact wpAny_Expr_any (thn (he pins s σ H _ I h) fun v s1 ⟨x,H1,I1,r1,q1⟩=>⟨σ,H1,I1,q1⟩) I.quiet hs
def Jj(te:TE):TS:=fun D σ H=>te σ H D.rt
theorem Fo(he:PE X e te):PS X (.Return (some e) pos) (Jj te):=by
 intro pins s σ H D I h;exact wpAny_Return_some (thn (he pins s σ H _ I h) fun v s1 ⟨x,H1,I1,r1,q1⟩=>⟨x,σ,H1,I1,r1,q1⟩)
def Jn(c:TT)(t u:TS):TS:=fun D σ H=>c σ H fun b H1=>if b=true then t D σ H1 else u D σ H1
theorem H0{c:Expr}{a b:List Stmt}{tc:TT}(hc:PT X c tc)(ha:PSs X a t)(hb:PSs X b u):PS X (.If c a b pos) (Jn tc t u):=by
 intro pins s σ H D I h;refine wpAny_If (thn (hc pins s σ H _ I h) fun d s1 ⟨H1,I1,q1⟩=>?_);cases d with
 |true=>exact ha pins s1 σ H1 D I1 q1
 |false=>exact hb pins s1 σ H1 D I1 q1
end
abbrev TG:=V->St->Hp->(St->Hp->Prop)->Prop
abbrev TGs:=List V->St->Hp->(St->Hp->Prop)->Prop
def PG(X:Cx)(target:Expr)(t:TG):Prop:=
 ∀(pins:List (Addr×Obj)) (s:Shared) (σ:St) (H:Hp) (v:V) (u:Value) (Q:St->Hp->Prop),Inv X pins σ H s->bP v u->t v σ H Q->
  wpAny (model X.prog X.w) X.A (assign target X.env u) (fun _ s'=>∃σ' H',Inv X pins σ' H' s'/\Q σ' H') X.xe s
def PGs(X:Cx)(ts:List Expr)(t:TGs):Prop:=
 ∀(pins:List (Addr×Obj)) (s:Shared) (σ:St) (H:Hp) (vs:List V) (us:List Value) (Q:St->Hp->Prop),Inv X pins σ H s->a5 vs us->t vs σ H Q->
  wpAny (model X.prog X.w) X.A (assignInOrder ((assignEach ts X.env).map (·.2)) us) (fun _ s'=>∃σ' H',Inv X pins σ' H' s'/\Q σ' H') X.xe s
abbrev G0:=V->V->V->Hp->(Hp->Prop)->Prop
def Je(X:Cx)(t:G0):Prop:=
 ∀(pins:List (Addr×Obj)) (s:Shared) (σ:St) (H:Hp) (o i v:V) (ov iv u:Value) (Q:Hp->Prop),Inv X pins σ H s->bP o ov->bP i iv->bP v u->t o i v H Q->
  wpAny (model X.prog X.w) X.A (setItem ov iv u) (fun _ s'=>∃H',Inv X pins σ H' s'/\Q H') X.xe s
section
variable{X:Cx}{pos:Pos}
def sZ(i:Nat):TG:=fun v σ H Q=>Q (σ.set i (some v)) H
theorem Cw{i:Nat}{x:Str}(hN:X.N.Nodup)(hi:X.N[i]?=some x)(hx:Loc X.env.scope x)(hf:X.fn x=true\/X.env.scope.names.lookup x=some .local:=by first|exact .inl rfl|exact .inr rfl|assumption):PG X (.Name x pos) (sZ i):=by
 intro pins s σ H v u Q I r h;exact wpAny_assign_Name (qI I hN hi hx r (fun s' I'=>⟨_,H,I',h⟩) hf)
def JF:TGs:=fun vs σ H Q=>vs=[]/\Q σ H
def Gp(t:TG)(u:TGs):TGs:=fun vs σ H Q=>∃v r,vs=v::r/\t v σ H fun σ' H'=>u r σ' H' Q
theorem Cv:PGs X [] JF:=by
 intro pins s σ H vs us Q I r h;obtain⟨e,h⟩:=h;subst e;cases r;exact assignInOrder_nil ⟨σ,H,I,h⟩
theorem yV{e:Expr}{es:List Expr}{t:TG}{u:TGs}(h1:PG X e t)(h2:PGs X es u)
  (hs:(assignEach (e::es) X.env).map (·.2)=assign e X.env::(assignEach es X.env).map (·.2):=by rfl):PGs X (e::es) (Gp t u):=by
 intro pins s σ H vs us Q I r h;obtain⟨v,vr,e1,h⟩:=h;subst e1;cases r with
 |cons r rr=>
  rw[hs];refine assignInOrder_cons (thn (h1 pins s σ H _ _ _ I r h) fun _ s1 hz=>?_);obtain⟨σ1,H1,I1,q1⟩:=hz;exact h2 pins s1 σ1 H1 _ _ Q I1 rr q1
def JD(K:Q4)(n:Nat)(t:TGs):TG:=fun v σ H Q=>∃a xs,v=.ref a/\SqT K H a xs/\xs.length=n/\t xs σ H Q
theorem Ft{es:List Expr}{k:Nat}{t:TGs}{n:Nat}(hc:X.calm=true)(h:PGs X es t)
  (hn:(assignEach es X.env).length=n:=by rfl) (hst:(assignEach es X.env).findIdx? (·.1)=none:=by rfl):PG X (.Tuple es k pos) (JD X.K n t):=by
 intro pins s σ H v u Q I r hw;obtain⟨a,xs,e1,hq,hl,hw⟩:=hw;subst e1;cases r;obtain⟨its,rv,ht,hz⟩:=I.tuple hq;refine assign_Tuple_tuple (I.ok.hd hc) ht (by simp[hn,<-hl,rv.length]) hst fun h' hx=>?_;have I1:Inv X pins σ H { s with heap:=h' }:=I.kept (t':=s.toks) fun b o e=>hx b o (QL (QX e)) e;exact h pins _ σ H xs _ Q I1 (by simpa using rv) hw
def JE(to ti:TE)(t:G0):TG:=fun v σ H Q=>to σ H fun o H1=>ti σ H1 fun i H2=>t o i v H2 fun H3=>Q σ H3
theorem Fu{o i:Expr}{to ti:TE}{t:G0}(ho:PE X o to)(hi:PE X i ti)(hs:Je X t)
  (ha:∀v,assign (.Subscript o i pos) X.env v=(do
   let ov <-holding [v] (eval o X.env)
   let iv <-holding [v,ov] (eval i X.env)
   standAt pos
   holding [v,ov,iv] (setItem ov iv v)
   release [v,ov,iv] []):=by intro _;rfl):PG X (.Subscript o i pos) (JE to ti t):=by
 intro pins s σ H v u Q I r h;rw[ha];refine Q0 (wpAny_holding (thn (ho pins s σ H _ I h) fun ov s1 hz=>?_));obtain⟨x,H1,I1,r1,q1⟩:=hz;refine Q0 (wpAny_holding (thn (hi pins s1 σ H1 _ I1 q1) fun iv s2 hz=>?_));obtain⟨y,H2,I2,r2,q2⟩:=hz;refine Q0 (wpAny_standAt (Q0 (wpAny_holding (thn (hs pins s2 σ H2 x y v ov iv u _ I2 r1 r2 r q2) fun _ s3 ⟨H3,I3,q3⟩=>?_))));exact wpAny_release ⟨σ,H3,I3,q3⟩
def EX(te:TE)(g:TG):TS:=fun D σ H=>te σ H fun x H1=>g x σ H1 D.nx
theorem Fq{tg e:Expr}{te:TE}{g:TG}(he:PE X e te)(hg:PG X tg g)(hs:swapsWithSole [tg] e pos.line X.env=pure false:=by rfl)(hw:swappedStores [tg] e X.env=pure none:=by rfl)
  (h1:(assignEach [tg] X.env).map (·.2)=[assign tg X.env]:=by rfl):PS X (.Assign [tg] e pos) (EX te g):=by
 intro pins s σ H D I h;refine wpAny_Assign_stores (thn (he pins s σ H _ I h) fun v s1 hz=>?_) hs hw;obtain⟨x,H1,I1,r1,q1⟩:=hz;rw[h1];exact thn (hg pins s1 σ H1 x v _ I1 r1 q1) fun _ s2 q=>q
theorem Fm{i:Nat}{x:Str}{e:Expr}{te:TE}{pos':Pos}(hN:X.N.Nodup)(hi:X.N[i]?=some x)(hx:Loc X.env.scope x)(he:PE X e te)(hs:swapsWith e (some (.Name x pos')) pos.line X.env=pure false:=by rfl)(hf:X.fn x=true\/X.env.scope.names.lookup x=some .local:=by first|exact .inl rfl|exact .inr rfl|assumption) :
  PS X (.Assign [.Name x pos'] e pos) (EX te (sZ i)):=by
 intro pins s σ H D I h;refine wpAny_Assign_Name (thn (he pins s σ H _ I h) fun v s1 hz=>?_) hs;obtain⟨y,H1,I1,r1,q1⟩:=hz;exact qI I1 hN hi hx r1 (fun s2 I2=>⟨_,H1,I2,q1⟩) hf
def uG(c:TT)(tb:TS):TS:=fun D σ H=>∃W:Nat->St->Hp->Prop,(∃m,W m σ H)/\∀m σ H,W m σ H->
 c σ H fun b H1=>if b=true then ∃N:St->Hp->Prop,(∀σ' H',N σ' H'->∃m',m'<m/\W m' σ' H')/\tb { D with nx:=N,ct:=N,bk:=D.nx } σ H1 else D.nx σ H1
theorem yR{c:Expr}{body:List Stmt}{tc:TT}{tb:TS}(hp:PassesOwn (model X.prog X.w) X.A X.env X.xe)(hc:PT X c tc)(hb:PSs X body tb):PS X (.While c body [] pos) (uG tc tb):=by
 intro pins s σ H D I h;obtain⟨W,⟨m0,w0⟩,turn⟩:=h;refine wpAny_While (codeAny_whileLoop (fun n s'=>∃σ' H',Inv X pins σ' H' s'/\W n σ' H') ?_ m0 ⟨σ,H,I,w0⟩);rintro n s1 ⟨σ1,H1,I1,w1⟩;refine wpAny_passesOwn hp (thn (hc pins s1 σ1 H1 _ I1 (turn n σ1 H1 w1)) fun b s2 ⟨H2,I2,q2⟩=>?_);cases b with
 |true=>
  obtain⟨N,hN,q2⟩:=q2;rw[if_pos rfl];refine wpAny_passesOwn hp (thn (hb pins s2 σ1 H2 _ I2 q2) fun f s3 q3=>?_);cases f with
  |next=>
   obtain⟨σ3,H3,I3,n3⟩:=q3;obtain⟨m',hm,w3⟩:=hN σ3 H3 n3;exact⟨m',hm,σ3,H3,I3,w3⟩
  |cont=>
   obtain⟨σ3,H3,I3,n3⟩:=q3;obtain⟨m',hm,w3⟩:=hN σ3 H3 n3;exact⟨m',hm,σ3,H3,I3,w3⟩
  |brk=>exact q3
  |ret v=>exact q3
 |false=>
  rw[if_neg QM];exact wpAny_execs_nil ⟨σ1,H2,I2,q2⟩
end
structure It where
 go:Nat->Hp->Prop
 yld:Nat->Hp->V->Hp->Prop
 stop:Nat->Hp->Prop
def tV(X:Cx)(pins:List (Addr×Obj))(H:Hp)(b:Addr):Prop:=
 H b=none/\b≠X.env.locals/\b∉X.fs/\(b∈X.ex\/X.s₀.heap.objs.size<=b)/\(∀x c,X.env.cells.lookup x=some c->c≠b)/\∀p∈X.pn++pins,p.1≠b
theorem Inv.fpOk{X:Cx}{pins:List (Addr×Obj)}{σ:St}{H H':Hp}{s:Shared}{b:Addr}(I:Inv X pins σ H s)(hb:s.heap.objs.size<=b)(hn:H' b=none):tV X pins H' b:=by
 refine⟨hn,Zz (Qj I.lt hb),I.nofs hb,.inr (Qc I.sz hb),fun x c e z=>?_,fun p hp z=>?_⟩
 ·obtain⟨v,q⟩:=I.cell x c e;exact absurd (Qj q.lt (by rw[z];exact hb)) (Nat.lt_irrefl _)
 ·exact absurd (Qj (QX (I.pin p hp).1) (by rw[z];exact hb)) (Nat.lt_irrefl _)
structure DX(P:Program)(w:World)(K:Q4)(tg:Expr)(J:It)(fp:List Addr)(it:Addr)(tn:Nat->Heap->Prop):Prop where
 mem:it∈fp
 obj:∀i h,tn i h->∀b∈fp,∃o,h.get? b=some o/\∀v,o.data≠.cell v
 keep:∀i h h',tn i h->(∀b∈fp,∀o,h.get? b=some o->h'.get? b=some o)->tn i h'
 item:∀(X:Cx),X.prog=P->X.w=w->X.K=K->X.calm=true->∀(i:Nat) (pins:List (Addr×Obj)) (s:Shared) (σ:St) (H:Hp) (E:Value->Shared->Prop),Inv X pins σ H s->(∀b∈fp,tV X pins H b)->tn i s.heap->J.go i H->
  wpAny (model P w) X.A (pyNext (.ref it)) (fun r s1=>∃u,r=some u/\
   wpAny (model P w) X.A (letOwnedTupleGo tg (.ref it) u) (fun _ s2=>∃x H',Inv X pins σ H' s2/\bP x u/\J.yld i H x H'/\tn (i+1) s2.heap/\∀b∈fp,H' b=none) E s1) E s
 done:∀(X:Cx),X.prog=P->X.w=w->X.K=K->X.calm=true->∀(i:Nat) (pins:List (Addr×Obj)) (s:Shared) (σ:St) (H:Hp) (E:Value->Shared->Prop),Inv X pins σ H s->(∀b∈fp,tV X pins H b)->tn i s.heap->J.stop i H->
  wpAny (model P w) X.A (pyNext (.ref it)) (fun r s1=>r=none/\Inv X pins σ H s1) E s
 self:∀(A:Around) (i:Nat) (s:Shared) (Q:Value->Shared->Prop) (E:Value->Shared->Prop),tn i s.heap->Q (.ref it) s->wpAny (model P w) A (pyIter (.ref it)) Q E s
abbrev TI:=St->Hp->(It->Hp->Prop)->Prop
def PIE(X:Cx)(pins:List (Addr×Obj))(σ:St)(tg:Expr)(R:It->Hp->Prop)(itv:Value)(s2:Shared):Prop:=
 ∃(it:Addr) (fp:List Addr) (tn:Nat->Heap->Prop) (J:It) (H':Hp),itv=.ref it/\Inv X pins σ H' s2/\DX X.prog X.w X.K tg J fp it tn/\tn 0 s2.heap/\(∀b∈fp,tV X pins H' b)/\R J H'
def PI(X:Cx)(tg iter:Expr)(wi:TI):Prop:=
 ∀(pins:List (Addr×Obj)) (s:Shared) (σ:St) (H:Hp) (R:It->Hp->Prop),Inv X pins σ H s->wi σ H R->
  wpAny (model X.prog X.w) X.A (eval iter X.env) (fun v s1=>wpAny (model X.prog X.w) X.A (pyIter v) (PIE X pins σ tg R) X.xe s1) X.xe s
theorem zL {M : Model} {A : Around} {E : Value -> Shared -> Prop} {s : Shared} {tg : Expr} {it : Addr} {u : Value} {o : Obj} {n : String} {vs : Array Value} {Q : Unit -> Shared -> Prop} (ho : s.heap.get? it = some o) (hc : o.cls = .type n) (hd : o.data = .fields vs)
    (hn:["enumerate","zip","dict_itemiterator","dict_reverseitemiterator","odict_iterator","itertools.zip_longest","itertools.pairwise"].contains n=false) (hQ:Q () s):wpAny M A (letOwnedTupleGo tg (.ref it) u) Q E s:=by
  unfold letOwnedTupleGo;cases tg<;>first
    |exact Q5 hQ
    | (cases u <;> first
        |exact Q5 hQ
        | (refine Q0 (wpAny_load ho ?_)
           rw[hc,hd];show wpAny M A (if (["enumerate","zip","dict_itemiterator","dict_reverseitemiterator","odict_iterator","itertools.zip_longest","itertools.pairwise"].contains n&&vs[0]? == some (rawInt _))=true then _ else _) Q E s;rw[if_neg (by intro h;rw[hn,Bool.false_and]at h;cases h)];exact Q5 hQ))
def Itl(K:Q4)(a:Addr):It:=
 ⟨fun i H=>∃xs x,SqL K H a xs/\xs[i]?=some x,fun i H x H'=>H'=H/\∀xs,SqL K H a xs->xs[i]?=some x,fun i H=>∃xs,SqL K H a xs/\xs.length<=i⟩
def Itt(K:Q4)(a:Addr):It:=
 ⟨fun i H=>∃xs x,SqT K H a xs/\xs[i]?=some x,fun i H x H'=>H'=H/\∀xs,SqT K H a xs->xs[i]?=some x,fun i H=>∃xs,SqT K H a xs/\xs.length<=i⟩
def Itr(lo:Int)(n:Nat):It:=⟨fun i _=>i<n,fun i H x H'=>H'=H/\x=.int (lo+i),fun i _=>n<=i⟩
theorem uD{P:Program}{w:World}{K:Q4}{tg:Expr}(a it:Addr):DX P w K tg (Itl K a) [it] it (fun i h=>h.IsListIter it a i) where
 mem:=by simp
 obj:=fun i h st b hb=>by
  have e:b=it:=by simpa using hb
  subst e;obtain⟨o,e,c,d⟩:=st;exact⟨o,e,fun v z=>by rw[d]at z;cases z⟩
 keep:=fun i h h' st k=>st.at fun o e=>k it (by simp) o e
 item:=by
  intro X hP hw hK hc i pins s σ H E I hf st hg;subst hP hw hK;obtain⟨xs,x,hq,hx⟩:=hg;obtain⟨its,rv,p,hz⟩:=I.list hq;obtain⟨u,hu,ru⟩:=rv.get hx;obtain⟨f0,f1,f2,f3,f4,f5⟩:=hf it (by simp);refine wpAny_pyNext_list_item st p.isList (x:=u) (by simpa using hu) fun h' st' sb=>?_;have I1:Inv X pins σ H { s with heap:=h' }:=I.turned (t':=s.toks) (fun b o hb e=>(sb.2 b hb).trans e) f0 f1 f3 f4 f5;obtain⟨o,e,c,d⟩:=id st';exact⟨u,rfl,zL (s:={ s with heap:=h' }) e c d (by decide) ⟨x,H,I1,ru,⟨rfl,fun ys hy=>by rw[I.list_inj hy hq];exact hx⟩,st',fun b hb=>(hf b hb).1⟩⟩
 done:=by
  intro X hP hw hK hc i pins s σ H E I hf st hg;subst hP hw hK;obtain⟨xs,hq,hx⟩:=hg;obtain⟨its,rv,p,hz⟩:=I.list hq;obtain⟨f0,f1,f2,f3,f4,f5⟩:=hf it (by simp);have hl:=rv.length;exact wpAny_pyNext_list_end (I.ok.hd hc) st p.isList (by simp;omega) fun h' eb=>⟨rfl,I.turned (t':=s.toks) (fun b o hb e=>eb b o hb e) f0 f1 f3 f4 f5⟩
 self:=fun _ _ _ _ _ st h=>wpAny_pyIter_listiter st h
theorem sv{P:Program}{w:World}{K:Q4}{tg:Expr}(a it:Addr):DX P w K tg (Itt K a) [it] it (fun i h=>h.IsTupleIter it a i) where
 mem:=by simp
 obj:=fun i h st b hb=>by
  have e:b=it:=by simpa using hb
  subst e;obtain⟨o,e,c,d⟩:=st;exact⟨o,e,fun v z=>by rw[d]at z;cases z⟩
 keep:=fun i h h' st k=>st.at fun o e=>k it (by simp) o e
 item:=by
  intro X hP hw hK hc i pins s σ H E I hf st hg;subst hP hw hK;obtain⟨xs,x,hq,hx⟩:=hg;obtain⟨its,rv,p,hz⟩:=I.tuple hq;obtain⟨u,hu,ru⟩:=rv.get hx;obtain⟨f0,f1,f2,f3,f4,f5⟩:=hf it (by simp);refine wpAny_pyNext_tuple_item st (show s.heap.IsTuple a its.toArray from p) (x:=u) (by simpa using hu) fun h' st' sb=>?_;have I1:Inv X pins σ H { s with heap:=h' }:=I.turned (t':=s.toks) (fun b o hb e=>(sb.2 b hb).trans e) f0 f1 f3 f4 f5;obtain⟨o,e,c,d⟩:=id st';exact⟨u,rfl,zL (s:={ s with heap:=h' }) e c d (by decide) ⟨x,H,I1,ru,⟨rfl,fun ys hy=>by rw[I.tuple_inj hy hq];exact hx⟩,st',fun b hb=>(hf b hb).1⟩⟩
 done:=by
  intro X hP hw hK hc i pins s σ H E I hf st hg;subst hP hw hK;obtain⟨xs,hq,hx⟩:=hg;obtain⟨its,rv,p,hz⟩:=I.tuple hq;obtain⟨f0,f1,f2,f3,f4,f5⟩:=hf it (by simp);have hl:=rv.length;exact wpAny_pyNext_tuple_end (I.ok.hd hc) st (show s.heap.IsTuple a its.toArray from p) (by simp;omega) fun h' eb=>⟨rfl,I.turned (t':=s.toks) (fun b o hb e=>eb b o hb e) f0 f1 f3 f4 f5⟩
 self:=fun _ _ _ _ _ st h=>wpAny_pyIter_tupleiter st h
theorem sx{P:Program}{w:World}{K:Q4}{tg:Expr}(it:Addr)(lo:Int)(n:Nat):DX P w K tg (Itr lo n) [it] it (fun i h=>IsRangeIter h it (lo+(i:Nat)*1) ((n:Int)-(i:Nat)) 1) where
 mem:=by simp
 obj:=fun i h st b hb=>by
  have e:b=it:=by simpa using hb
  subst e;exact⟨_,st,fun v z=>by
   have z':Data.fields _=Data.cell v:=z;cases z'⟩
 keep:=fun i h h' st k=>k it (by simp) _ st
 item:=by
  intro X hP hw hK hc i pins s σ H E I hf st hg;subst hP hw hK;obtain⟨f0,f1,f2,f3,f4,f5⟩:=hf it (by simp);have W:=Walks.range (prog:=X.prog) (w:=X.w) (I.ok.hd hc) it lo 1 n;refine W.item i s _ _ hg st fun v h' tk hv st' kk=>?_;obtain⟨t,rfl⟩:=hv;have I1:Inv X pins σ H { s with heap:=h',toks:=tk }:=I.turned (fun b o hb e=>kk b o (by simpa using hb) e) f0 f1 f3 f4 f5;refine⟨_,rfl,zL (s:={ s with heap:=h',toks:=tk }) (n:="range_iterator") st' rfl rfl (by decide) ⟨.int (lo+i),H,I1,⟨t,?_⟩,⟨rfl,rfl⟩,st',fun b hb=>(hf b hb).1⟩⟩;rw[Int.mul_one]
 done:=by
  intro X hP hw hK hc i pins s σ H E I hf st hg;subst hP hw hK;obtain⟨f0,f1,f2,f3,f4,f5⟩:=hf it (by simp);exact wpAny_pyNext_range_end (I.ok.hd hc) st (by have:n<=i:=hg;omega) fun h' eb=>⟨rfl,I.turned (t':=s.toks) (fun b o hb e=>eb b o hb e) f0 f1 f3 f4 f5⟩
 self:=fun _ _ _ _ _ st h=>wpAny_pyIter_rangeiter st h
section
variable{X:Cx}{tg:Expr}
def Gn(K:Q4)(tl:TE):TI:=fun σ H R=>tl σ H fun x H1=>∃a,x=.ref a/\(∃xs,SqL K H1 a xs)/\R (Itl K a) H1
def JC(K:Q4)(tl:TE):TI:=fun σ H R=>tl σ H fun x H1=>∃a,x=.ref a/\(∃xs,SqT K H1 a xs)/\R (Itt K a) H1
theorem Cu{l:Expr}{tl:TE}(hl:PE X l tl):PI X tg l (Gn X.K tl):=by
 intro pins s σ H R I h;refine thn (hl pins s σ H _ I h) fun v s1 hz=>?_;obtain⟨x,H1,I1,r1,q1⟩:=hz;obtain⟨a,e,⟨xs,hq⟩,q⟩:=q1;subst e;cases r1;obtain⟨its,rv,p,hz⟩:=I1.list hq;refine wpAny_pyIter_list p.isList ?_;refine⟨s1.heap.objs.size,[s1.heap.objs.size],_,_,H1,rfl,I1.kept (t':=s1.toks) fun b o e=>Q3 _ e,uD a _,⟨_,QY _ rfl,rfl,rfl⟩,fun b hb=>?_,q⟩;have e:b=s1.heap.objs.size:=by simpa using hb
 subst e;exact I1.fpOk (QJ _) (I1.hok.fresh (QJ _))
theorem Fs{l:Expr}{tl:TE}(hl:PE X l tl):PI X tg l (JC X.K tl):=by
 intro pins s σ H R I h;refine thn (hl pins s σ H _ I h) fun v s1 hz=>?_;obtain⟨x,H1,I1,r1,q1⟩:=hz;obtain⟨a,e,⟨xs,hq⟩,q⟩:=q1;subst e;cases r1;obtain⟨its,rv,p,hz⟩:=I1.tuple hq;refine wpAny_pyIter_tuple (show s1.heap.IsTuple a its.toArray from p) ?_;refine⟨s1.heap.objs.size,[s1.heap.objs.size],_,_,H1,rfl,I1.kept (t':=s1.toks) fun b o e=>Q3 _ e,sv a _,⟨_,QY _ rfl,rfl,rfl⟩,fun b hb=>?_,q⟩;have e:b=s1.heap.objs.size:=by simpa using hb
 subst e;exact I1.fpOk (QJ _) (I1.hok.fresh (QJ _))
theorem yF{pins:List (Addr×Obj)}{σ:St}{H:Hp}{s:Shared}{R:It->Hp->Prop}{E:Value->Shared->Prop}{lo hi:Int}{t u v:Tok}{tk:Nat}(I:Inv X pins σ H s)(h1:-(2^62)<=lo)(h2:lo<2^62)(h3:-(2^62)<=hi)(h4:hi<2^62)
  (q:R (Itr lo (hi-lo).toNat) H):wpAny (model X.prog X.w) X.A (pyIter (.ref s.heap.objs.size)) (PIE X pins σ tg R) E { s with heap:=s.heap.push { cls:=.type "range",data:=.fields #[.int lo t,.int hi u,.int 1 v] },toks:=tk }:=by
 refine wpAny_pyIter_range (IsRange.new ..) (small_one h1 h2 h3 h4) ?_;have I1:Inv X pins σ H { s with heap:=s.heap.push { cls:=.type "range",data:=.fields #[.int lo t,.int hi u,.int 1 v] },toks:=tk }:=I.kept fun b o e=>Q3 _ e;refine⟨(s.heap.push { cls:=.type "range",data:=.fields #[.int lo t,.int hi u,.int 1 v] }).objs.size,[(s.heap.push { cls:=.type "range",data:=.fields #[.int lo t,.int hi u,.int 1 v] }).objs.size],_,_,H,rfl,
  I1.kept (t':=tk) fun b o e=>Q3 _ e,sx _ lo (hi-lo).toNat,?_,fun b hb=>?_,q⟩
 ·have e1:lo+((0:Nat):Int)*1=lo:=by simp
  have e2:(((hi-lo).toNat:Nat):Int)-((0:Nat):Int)=Builtin.Range.rangeSize lo hi 1:=by rw[rangeSize_one];split<;>omega
  show IsRangeIter _ _ (lo+((0:Nat):Int)*1) ((((hi-lo).toNat:Nat):Int)-((0:Nat):Int)) 1;rw[e1,e2];exact QY _ rfl
 ·have e:b=(s.heap.push { cls:=.type "range",data:=.fields #[.int lo t,.int hi u,.int 1 v] }).objs.size:=by simpa using hb
  subst e;exact I1.fpOk (QJ _) (I1.hok.fresh (QJ _))
def Gm(ta:TA):TI:=fun σ H R=>ta σ H fun vs H1=>∃j:Int,vs=[.int j]/\-(2^62)<=j/\j<2^62/\R (Itr 0 j.toNat) H1
theorem vy{a:Expr}{ta:TA}{p pos:Pos}(hg:Gl X "range")(hm:X.mg "range"=none)(ha:PA X [a] ta)(hs:starEach [a] X.env=[(false,eval a X.env)]:=by rfl):PI X tg (.Call (.Name "range" p) [a] [] pos) (Gm ta):=by
 intro pins s σ H R I h;refine Call_ (fq I hg hm boot_range (PyProof.Rows.callWith_type1 (thn (ha pos pins s σ H _ I h) fun us s1 ⟨vs,H1,I1,r1,q1⟩=>?_) hs rfl));obtain⟨j,e,q1,q2,q⟩:=q1;subst e;cases r1 with
 |cons r rr=>
  cases rr;obtain⟨t,rfl⟩:=r;exact call_range_1 (yF I1 (by omega) (by omega) q1 q2 (by simpa using q))
def HI(wi:TI)(g:TG)(tb:TS):TS:=fun D σ H=>wi σ H fun J H1=>∃W:Nat->Nat->St->Hp->Prop,(∃m,W 0 m σ H1)/\∀i m σ H,W i m σ H->
 (J.stop i H/\D.nx σ H)\/(J.go i H/\∃N:St->Hp->Prop,(∀σ' H',N σ' H'->∃m',m'<m/\W (i+1) m' σ' H')/\∀x H',J.yld i H x H'->g x σ H' fun σ2 H2=>tb { D with nx:=N,ct:=N,bk:=D.nx } σ2 H2)
def rg(fp:List Addr)(h:Heap):List (Addr×Obj):=fp.filterMap fun b=>(h.get? b).map fun o=>(b,o)
theorem cY{fp:List Addr}{h:Heap}{b:Addr}{o:Obj}(hb:b∈fp)(e:h.get? b=some o):(b,o)∈rg fp h:=List.mem_filterMap.mpr ⟨b,hb,by rw[e];rfl⟩
theorem vI{fp:List Addr}{h:Heap}{p:Addr×Obj}(hp:p∈rg fp h):p.1∈fp/\h.get? p.1=some p.2:=by
 obtain⟨b,hb,e⟩:=List.mem_filterMap.mp hp;cases q:h.get? b with
 |none=>rw[q]at e;cases e
 |some o=>
  rw[q]at e;have e':(b,o)=p:=Option.some.inj e;subst e';exact⟨hb,q⟩
theorem Inv.pinned{pins:List (Addr×Obj)}{σ:St}{H:Hp}{s:Shared}{fp:List Addr}(I:Inv X pins σ H s)(hf:∀b∈fp,tV X pins H b)(ho:∀b∈fp,∃o,s.heap.get? b=some o/\∀v,o.data≠.cell v):Inv X (pins++rg fp s.heap) σ H s:=
 I.pins_of fun p hp=>(Qd.mp hp).elim (fun z=>I.pin p (Qm _ z)) fun z=>by
  obtain⟨hb,e⟩:=vI z;obtain⟨f0,f1,f2,_⟩:=hf p.1 hb;obtain⟨o,e',d⟩:=ho p.1 hb;rw[e]at e';cases e';exact⟨e,f0,f1,f2,d⟩
theorem Inv.unpinned{pins pl:List (Addr×Obj)}{σ:St}{H:Hp}{s:Shared}(I:Inv X (pins++pl) σ H s):Inv X pins σ H s:=I.pins_of fun p hp=>I.pin p (Qm _ (Zn _ hp))
theorem Fp{iter:Expr}{body:List Stmt}{wi:TI}{g:TG}{tb:TS}{pos:Pos}(hp:PassesOwn (model X.prog X.w) X.A X.env X.xe)(hc:X.calm=true)(hi:PI X tg iter wi)(hg:PG X tg g)(hb:PSs X body tb)
  (hs:∀x,foldedSetIterable iter X.env x=pure x:=by intro _;rfl):PS X (.For tg iter body [] pos) (HI wi g tb):=by
 intro pins s σ H D I h;refine wpAny_For (thn (hi pins s σ H _ I h) fun v s1 h1=>thn h1 fun itv s2 h2=>?_) hs;obtain⟨it,fp,tn,J,H2,e,I2,T,st2,f2,W,⟨m0,w0⟩,turn⟩:=h2;subst e;have stat:∀{H':Hp},(∀b∈fp,H' b=none)->∀b∈fp,tV X pins H' b:=fun hn b hb=>⟨hn b hb,(f2 b hb).2⟩;refine codeAny_forLoop_any (fun n s'=>∃i σ' H',Inv X pins σ' H' s'/\tn i s'.heap/\(∀b∈fp,H' b=none)/\W i n σ' H') ?_ m0 ⟨0,σ,H2,I2,st2,fun b hb=>(f2 b hb).1,w0⟩;rintro n s3 ⟨i,σ3,H3,I3,st3,fr3,w3⟩;rcases turn i n σ3 H3 w3 with⟨stop,qn⟩|⟨go,N,hN,step⟩
 ·refine wpAny_passesOwn hp (thn (T.done X rfl rfl rfl hc i pins s3 σ3 H3 X.xe I3 (stat fr3) st3 stop) fun r s4 ⟨hr,I4⟩=>?_);subst hr;exact wpAny_execs_nil ⟨σ3,H3,I4,qn⟩
 ·refine wpAny_passesOwn hp (thn (T.item X rfl rfl rfl hc i pins s3 σ3 H3 X.xe I3 (stat fr3) st3 go) fun r s4 ⟨u,hr,h4⟩=>?_);subst hr;refine wpAny_passesOwn hp (thn h4 fun _ s5 hz=>?_);obtain⟨x,H5,I5,r5,y5,st5,fr5⟩:=hz;have I5':=I5.pinned (stat fr5) (T.obj _ _ st5);refine wpAny_passesOwn hp (thn (hg _ s5 σ3 H5 x u _ I5' r5 (step x H5 y5)) fun _ s6 hz=>?_);obtain⟨σ6,H6,I6,q6⟩:=hz;refine wpAny_passesOwn hp (thn (hb _ s6 σ6 H6 _ I6 q6) fun f s7 q7=>?_);have again:∀{σ7:St} {H7:Hp},Inv X (pins++rg fp s5.heap) σ7 H7 s7->N σ7 H7->∃m,m<n/\∃i σ' H',Inv X pins σ' H' s7/\tn i s7.heap/\(∀b∈fp,H' b=none)/\W i m σ' H':=fun{σ7 H7} I7 n7=>by
   obtain⟨m',hm,w7⟩:=hN σ7 H7 n7;refine⟨m',hm,i+1,σ7,H7,I7.unpinned,T.keep _ _ _ st5 fun b hb o e=>(I7.pin (b,o) (Qm _ (Qm _ (cY hb e)))).1,fun b hb=>?_,w7⟩;obtain⟨o,e,d⟩:=T.obj _ _ st5 b hb;exact(I7.pin (b,o) (Qm _ (Qm _ (cY hb e)))).2.1
  cases f with
  |next=>obtain⟨σ7,H7,I7,n7⟩:=q7;exact again I7 n7
  |cont=>obtain⟨σ7,H7,I7,n7⟩:=q7;exact again I7 n7
  |brk=>obtain⟨σ7,H7,I7,q7⟩:=q7;exact⟨σ7,H7,I7.unpinned,q7⟩
  |ret v=>obtain⟨x7,σ7,H7,I7,r7,q7⟩:=q7;exact⟨x7,σ7,H7,I7.unpinned,r7,q7⟩
end
abbrev R2:=V->V->Hp->VK->Prop
def OpR(X:Cx)(f:Value->Value->Sem Value)(r:R2):Prop:=
 ∀(pins:List (Addr×Obj)) (s:Shared) (σ:St) (H:Hp) (x y:V) (v u:Value) (Q:VK),Inv X pins σ H s->bP x v->bP y u->r x y H Q->
  wpAny (model X.prog X.w) X.A (f v u) (EP X pins σ Q) X.xe s
def UnR(X:Cx)(f:Value->Sem Value)(r:V->Hp->VK->Prop):Prop:=
 ∀(pins:List (Addr×Obj)) (s:Shared) (σ:St) (H:Hp) (x:V) (v:Value) (Q:VK),Inv X pins σ H s->bP x v->r x H Q->
  wpAny (model X.prog X.w) X.A (f v) (EP X pins σ Q) X.xe s
def bX(X:Cx)(f:Value)(r:List V->Hp->VK->Prop):Prop:=
 ∀(pins:List (Addr×Obj)) (s:Shared) (σ:St) (H:Hp) (xs:List V) (us:List Value) (Q:VK),Inv X pins σ H s->a5 xs us->r xs H Q->
  wpAny (model X.prog X.w) X.A (call f us) (EP X pins σ Q) X.xe s
def tOp(r:R2)(ta tb:TE):TE:=fun σ H Q=>ta σ H fun x H1=>tb σ H1 fun y H2=>r x y H2 Q
def tUn(r:V->Hp->VK->Prop)(ta:TE):TE:=fun σ H Q=>ta σ H fun x H1=>r x H1 Q
def rI(C:Int->Int->Prop)(g:Int->Int->V):R2:=fun x y H Q=>∃i j,x=.int i/\y=.int j/\C i j/\Q (g i j) H
def rI0(g:Int->Int->V):R2:=fun x y H Q=>∃i j,x=.int i/\y=.int j/\Q (g i j) H
section
variable{X:Cx}{a b:Expr}{ta tb:TE}{pos:Pos}
theorem I0(ha:PE X a ta)(hb:PE X b tb){pins:List (Addr×Obj)}{s:Shared}{σ:St}{H:Hp}{R:V->V->Hp->Prop}(I:Inv X pins σ H s)
  (h:ta σ H fun x H1=>tb σ H1 fun y H2=>R x y H2) {Q:Value->Shared->Prop} {f:Value->Value->Sem Value}
  (hf:∀v u s2 x y H2,Inv X pins σ H2 s2->bP x v->bP y u->R x y H2->wpAny (model X.prog X.w) X.A (f v u) Q X.xe s2) :
  wpAny (model X.prog X.w) X.A (eval a X.env) (fun v s₁=>wpAny (model X.prog X.w) X.A (eval b X.env) (fun u s₂=>wpAny (model X.prog X.w) X.A (f v u) Q X.xe s₂) X.xe s₁) X.xe s:=by
 refine thn (ha pins s σ H _ I h) fun v s1 hz=>?_;obtain⟨x,H1,I1,r1,q1⟩:=hz;refine thn (hb pins s1 σ H1 _ I1 q1) fun u s2 hz=>?_;obtain⟨y,H2,I2,r2,q2⟩:=hz;exact hf v u s2 x y H2 I2 r1 r2 q2
theorem Ib{op:Operator}{r:R2}(ho:OpR X (binaryOp op) r)(ha:PE X a ta)(hb:PE X b tb):PE X (.BinOp a op b pos) (tOp r ta tb):=by
 intro pins s σ H Q I h;exact wpAny_BinOp (I0 ha hb I h fun v u s2 x y H2 I2 rx ry q=>ho pins s2 σ H2 x y v u Q I2 rx ry q)
theorem Ia{op:UnaryOp}{r:V->Hp->VK->Prop}(ho:UnR X (unaryOp op) r)(ha:PE X a ta):PE X (.UnaryOp op a pos) (tUn r ta):=by
 intro pins s σ H Q I h;exact UnaryOp_ (thn (ha pins s σ H _ I h) fun v s1 ⟨x,H1,I1,r1,q1⟩=>ho pins s1 σ H1 x v Q I1 r1 q1)
theorem opI{f:Value->Value->Sem Value}{C:Int->Int->Prop}{g:Int->Int->Int}
  (rule:∀(i j:Int) (t u:Tok) (s:Shared) (Q:Value->Shared->Prop) (E:Value->Shared->Prop),C i j->Q (.int (g i j) s.toks) { s with toks:=s.toks+1 }->wpAny (model X.prog X.w) X.A (f (.int i t) (.int j u)) Q E s) :
  OpR X f (rI C fun i j=>.int (g i j)):=by
 intro pins s σ H x y v u Q I rx ry h;obtain⟨i,j,rfl,rfl,hc,q⟩:=h;obtain⟨t,rfl⟩:=rx;obtain⟨t',rfl⟩:=ry;exact rule i j t t' s _ _ hc ⟨.int (g i j),H,I.tok _,⟨_,rfl⟩,q⟩
theorem Jr{f:Value->Value->Sem Value}{g:Int->Int->Int}
  (rule:∀(i j:Int) (t u:Tok) (s:Shared) (Q:Value->Shared->Prop) (E:Value->Shared->Prop),Q (.int (g i j) s.toks) { s with toks:=s.toks+1 }->wpAny (model X.prog X.w) X.A (f (.int i t) (.int j u)) Q E s) :
  OpR X f (rI0 fun i j=>.int (g i j)):=by
 intro pins s σ H x y v u Q I rx ry h;obtain⟨i,j,rfl,rfl,q⟩:=h;obtain⟨t,rfl⟩:=rx;obtain⟨t',rfl⟩:=ry;exact rule i j t t' s _ _ ⟨.int (g i j),H,I.tok _,⟨_,rfl⟩,q⟩
theorem Js{f:Value->Value->Sem Value}{g:Int->Int->Bool}
  (rule:∀(i j:Int) (t u:Tok) (s:Shared) (Q:Value->Shared->Prop) (E:Value->Shared->Prop),Q (.bool (g i j)) s->wpAny (model X.prog X.w) X.A (f (.int i t) (.int j u)) Q E s) :
  OpR X f (rI0 fun i j=>.bl (g i j)):=by
 intro pins s σ H x y v u Q I rx ry h;obtain⟨i,j,rfl,rfl,q⟩:=h;obtain⟨t,rfl⟩:=rx;obtain⟨t',rfl⟩:=ry;exact rule i j t t' s _ _ ⟨.bl (g i j),H,I,rfl,q⟩
def JK(i j:Int):Prop:=0<=j/\j<=1000000/\i.natAbs<2^64
def A5(i j:Int):Prop:=(-(2^64)<i/\i<2^64)\/(-(2^64)<j/\j<2^64)
theorem A5.ok{i j:Int}(h:A5 i j):IntMulOk i j:=by
 rcases h with⟨h1,h2⟩|⟨h1,h2⟩
 ·exact .of_left (intBits_le_64 h1 h2)
 ·exact .of_right (intBits_le_64 h1 h2)
theorem FQ:OpR X (binaryOp .Add) (rI0 fun i j=>.int (i+j)):=Jr fun _ _ _ _ _ _ _ q=>add_int q
theorem FN:OpR X (binaryOp .Sub) (rI0 fun i j=>.int (i-j)):=Jr fun _ _ _ _ _ _ _ q=>sub_int q
theorem hE:OpR X (binaryOp .Mult) (rI A5 fun i j=>.int (i*j)):=opI fun _ _ _ _ _ _ _ hc q=>mul_int q hc.ok
theorem rk:OpR X (binaryOp .Mod) (rI (fun _ j=>0<j) fun i j=>.int (i % j)):=opI fun i j _ _ _ _ _ hc q=>by
 have h1:(0:Int)<j:=hc;exact mod_int' (by omega) (by rw[Int.fmod_eq_emod_of_nonneg i (by omega)];exact q)
end
def HK:V->V->Bool
 |.non,.non=>true|.non,.int _=>true|.int _,.non=>true|.non,.bl _=>true|.bl _,.non=>true|.non,.str _=>true|.str _,.non=>true
 |.int _,.int _=>true|.bl _,.bl _=>true|.str _,.str _=>true|.byt _,.byt _=>true
 |.int _,.str _=>true|.str _,.int _=>true|.bl _,.str _=>true|.str _,.bl _=>true
 |_,_=>false
def rEq:R2:=fun x y H Q=>HK x y=true/\Q (.bl (decide (x=y))) H
def rNe:R2:=fun x y H Q=>HK x y=true/\Q (.bl (!decide (x=y))) H
theorem wW{i j:Int}:decide (V.int i=V.int j)=(i == j):=by
 rw[ZE];simp
theorem AW{i j:Bool}:decide (V.bl i=V.bl j)=(i == j):=by
 rw[ZE];simp
theorem wV{i j:Str}:decide (V.str i=V.str j)=(i == j):=by
 rw[ZE];simp
theorem wX{i j:Array UInt8}:decide (V.byt i=V.byt j)=(i.toList == j.toList):=by
 rw[ZE];cases i;cases j;simp
section
variable{X:Cx}{a b c:Expr}{ta tb:TE}{pos:Pos}
theorem a9{pins:List (Addr×Obj)}{σ:St}{H:Hp}{s:Shared}{Q:VK}{k k':Bool}(I:Inv X pins σ H s)(q:Q (.bl k) H)(e:k=k'):EP X pins σ Q (.bool k') s:=by
 subst e;exact⟨.bl k,H,I,rfl,q⟩
theorem vH:OpR X (compareOp .Eq) rEq:=by
 intro pins s σ H x y v u Q I rx ry h;obtain⟨hs,q⟩:=h;cases x with
 |non=>
  cases rx;cases y with
  |non=>cases ry;exact PySem.EqNone.eq_none_none (a9 I q (by simp))
  |bl j=>cases ry;exact PySem.EqNone.eq_none_bool (a9 I q (by simp))
  |int j=>obtain⟨t',rfl⟩:=ry;exact PySem.EqNone.eq_none_int (a9 I q (by simp))
  |str j=>obtain⟨t',rfl⟩:=ry;exact PySem.EqNone.eq_none_str (a9 I q (by simp))
  |_=>exact absurd (show false=true from hs) QM
 |bl i=>
  cases rx;cases y with
  |non=>cases ry;exact PySem.EqNone.eq_bool_none (a9 I q (by simp))
  |bl j=>cases ry;exact eq_bool (a9 I q AW)
  |str j=>obtain⟨t',rfl⟩:=ry;exact PySem.EqMixed.eq_bool_str (a9 I q (by simp))
  |_=>exact absurd (show false=true from hs) QM
 |int i=>
  obtain⟨t,rfl⟩:=rx;cases y with
  |non=>cases ry;exact PySem.EqNone.eq_int_none (a9 I q (by simp))
  |int j=>obtain⟨t',rfl⟩:=ry;exact eq_int (a9 I q wW)
  |str j=>obtain⟨t',rfl⟩:=ry;exact PySem.EqMixed.eq_int_str (a9 I q (by simp))
  |_=>exact absurd (show false=true from hs) QM
 |str i=>
  obtain⟨t,rfl⟩:=rx;cases y with
  |non=>cases ry;exact PySem.EqNone.eq_str_none (a9 I q (by simp))
  |bl j=>cases ry;exact PySem.EqMixed.eq_str_bool (a9 I q (by simp))
  |int j=>obtain⟨t',rfl⟩:=ry;exact PySem.EqMixed.eq_str_int (a9 I q (by simp))
  |str j=>obtain⟨t',rfl⟩:=ry;exact eq_str (a9 I q wV)
  |_=>exact absurd (show false=true from hs) QM
 |byt i=>
  obtain⟨t,rfl⟩:=rx;cases y with
  |byt j=>obtain⟨t',rfl⟩:=ry;exact PySem.W.eq_bytes (a9 I q wX)
  |_=>exact absurd (show false=true from hs) QM
 |_=>cases y<;>exact absurd (show false=true from hs) QM
theorem pL:OpR X (compareOp .NotEq) rNe:=by
 intro pins s σ H x y v u Q I rx ry h;obtain⟨hs,q⟩:=h;cases x with
 |non=>
  cases rx;cases y with
  |non=>cases ry;exact PySem.EqNone.ne_none_none (a9 I q (by simp))
  |bl j=>cases ry;exact PySem.EqNone.ne_none_bool (a9 I q (by simp))
  |int j=>obtain⟨t',rfl⟩:=ry;exact PySem.EqNone.ne_none_int (a9 I q (by simp))
  |str j=>obtain⟨t',rfl⟩:=ry;exact PySem.EqNone.ne_none_str (a9 I q (by simp))
  |_=>exact absurd (show false=true from hs) QM
 |bl i=>
  cases rx;cases y with
  |non=>cases ry;exact PySem.EqNone.ne_bool_none (a9 I q (by simp))
  |bl j=>cases ry;exact ne_bool (a9 I q (congrArg not AW))
  |str j=>obtain⟨t',rfl⟩:=ry;exact PySem.EqMixed.ne_bool_str (a9 I q (by simp))
  |_=>exact absurd (show false=true from hs) QM
 |int i=>
  obtain⟨t,rfl⟩:=rx;cases y with
  |non=>cases ry;exact PySem.EqNone.ne_int_none (a9 I q (by simp))
  |int j=>obtain⟨t',rfl⟩:=ry;exact ne_int (a9 I q (congrArg not wW))
  |str j=>obtain⟨t',rfl⟩:=ry;exact PySem.EqMixed.ne_int_str (a9 I q (by simp))
  |_=>exact absurd (show false=true from hs) QM
 |str i=>
  obtain⟨t,rfl⟩:=rx;cases y with
  |non=>cases ry;exact PySem.EqNone.ne_str_none (a9 I q (by simp))
  |bl j=>cases ry;exact PySem.EqMixed.ne_str_bool (a9 I q (by simp))
  |int j=>obtain⟨t',rfl⟩:=ry;exact PySem.EqMixed.ne_str_int (a9 I q (by simp))
  |str j=>obtain⟨t',rfl⟩:=ry;exact ne_str (a9 I q (congrArg not wV))
  |_=>exact absurd (show false=true from hs) QM
 |byt i=>
  obtain⟨t,rfl⟩:=rx;cases y with
  |byt j=>obtain⟨t',rfl⟩:=ry;exact PySem.W.ne_bytes (a9 I q (congrArg not wX))
  |_=>exact absurd (show false=true from hs) QM
 |_=>cases y<;>exact absurd (show false=true from hs) QM
theorem sQ:OpR X (compareOp .Lt) (rI0 fun i j=>.bl (decide (i<j))):=Js fun _ _ _ _ _ _ _ q=>lt_int q
theorem CP:OpR X (compareOp .Gt) (rI0 fun i j=>.bl (decide (j<i))):=Js fun _ _ _ _ _ _ _ q=>gt_int q
theorem OpR.or{f:Value->Value->Sem Value}{r r':R2}(h:OpR X f r)(h':OpR X f r'):OpR X f (fun x y H Q=>r x y H Q\/r' x y H Q):=by
 intro pins s σ H x y v u Q I rx ry q;rcases q with q|q
 ·exact h pins s σ H x y v u Q I rx ry q
 ·exact h' pins s σ H x y v u Q I rx ry q
theorem ba(b:Expr){op:CmpOp}(h:op≠.In:=by decide)(h2:op≠.NotIn:=by decide):behindInMarks op b=false:=by
 have e1:(op == CmpOp.In)=false:=by cases op<;>first|rfl|exact absurd rfl h
 have e2:(op == CmpOp.NotIn)=false:=by cases op<;>first|rfl|exact absurd rfl h2
 cases b<;>simp[behindInMarks,e1,e2]
theorem CB{op:CmpOp}{r:R2}(ho:OpR X (compareOp op) r)(ha:PE X a ta)(hb:PE X b tb)(hm:behindInMarks op b=false):PE X (.Compare a [op] [b] pos) (tOp r ta tb):=by
 intro pins s σ H Q I h;exact wpAny_Compare1 (I0 ha hb I h fun v u s2 x y H2 I2 rx ry q=>ho pins s2 σ H2 x y v u Q I2 rx ry q) hm
def EM(t:TE):TT:=fun σ H Q=>t σ H fun x H'=>∃k,x=.bl k/\Q k H'
theorem Cm{op:CmpOp}{r:R2}(ho:OpR X (compareOp op) r)(ha:PE X a ta)(hb:PE X b tb)(hm:behindInMarks op b=false):PT X (.Compare a [op] [b] pos) (EM (tOp r ta tb)):=by
 intro pins s σ H Q I h;refine wpAny_isTrue_Compare1 (thn (ha pins s σ H _ I h) fun v s1 ⟨x,H1,I1,r1,q1⟩=>thn (hb pins s1 σ H1 _ I1 q1) fun u s2 ⟨y,H2,I2,r2,q2⟩=>
  thn (ho pins s2 σ H2 x y v u _ I2 r1 r2 q2) fun c s3 ⟨z,H3,I3,r3,k,e,q3⟩=>?_) hm
 subst e;cases r3;exact wpAny_truthy_bool ⟨H3,I3,q3⟩
theorem rz:(sizeLine:Nat)<2^63:=by rw[sizeLine_eq];decide
theorem sR:OpR X (binaryOp .Add) (fun x y H Q=>∃i j,x=.str i/\y=.str j/\i.length+j.length<=sizeLine/\Q (.str (i++j)) H):=by
 intro pins s σ H x y v u Q I rx ry h;obtain⟨i,j,rfl,rfl,hz,q⟩:=h;obtain⟨t,rfl⟩:=rx;obtain⟨t',rfl⟩:=ry;exact add_str (fun t' tk=>⟨.str (i++j),H,I.tok _,⟨_,rfl⟩,q⟩) hz
theorem fP{x:V}{us:List Value}(r:a5 [x] us):∃u,us=[u]/\bP x u:=by
 cases r with
 |cons r1 r2=>cases r2;exact⟨_,rfl,r1⟩
theorem su{x y:V}{us:List Value}(r:a5 [x,y] us):∃u w',us=[u,w']/\bP x u/\bP y w':=by
 cases r with
 |cons r1 r2=>
  cases r2 with
  |cons r3 r4=>cases r4;exact⟨_,_,rfl,r1,r3⟩
theorem xj(hc:X.calm=true):bX X (.builtin "max") (fun xs H Q=>∃i j,xs=[.int i,.int j]/\Q (.int (if j>i then j else i)) H):=by
 intro pins s σ H xs us Q I r h;obtain⟨i,j,rfl,q⟩:=h;obtain⟨u,w',rfl,⟨t,rfl⟩,⟨t',rfl⟩⟩:=su r;refine max_two_ints (I.ok.hd hc) fun h' tk k=>⟨_,H,I.kept k,?_,q⟩;by_cases hj:j>i
 ·rw[if_pos hj,if_pos hj];exact⟨_,rfl⟩
 ·rw[if_neg hj,if_neg hj];exact⟨_,rfl⟩
theorem xi(hc:X.calm=true):bX X (.builtin "min") (fun xs H Q=>∃i j,xs=[.int i,.int j]/\Q (.int (if j<i then j else i)) H):=by
 intro pins s σ H xs us Q I r h;obtain⟨i,j,rfl,q⟩:=h;obtain⟨u,w',rfl,⟨t,rfl⟩,⟨t',rfl⟩⟩:=su r;refine min_two_ints (I.ok.hd hc) fun h' tk k=>⟨_,H,I.kept k,?_,q⟩;by_cases hj:j<i
 ·rw[if_pos hj,if_pos hj];exact⟨_,rfl⟩
 ·rw[if_neg hj,if_neg hj];exact⟨_,rfl⟩
theorem oQ:bX X (.type "int") (fun xs H Q=>(∃i,xs=[.int i]/\Q (.int i) H)\/∃k,xs=[.bl k]/\Q (.int (if k then 1 else 0)) H):=by
 intro pins s σ H xs us Q I r h;rcases h with⟨i,rfl,q⟩|⟨k,rfl,q⟩
 ·obtain⟨u,rfl,t,rfl⟩:=fP r;exact call_int_int ⟨.int i,H,I,⟨_,rfl⟩,q⟩
 ·obtain⟨u,rfl,r1⟩:=fP r;cases r1;exact call_int_bool ⟨.int (if k then 1 else 0),H,I.tok _,⟨_,rfl⟩,q⟩
end
structure Jg(h:Heap)(x dx C:Addr)(mA:Str->Option Value):Prop where
 obj:h.get? x=some (PySem.W.instObj C dx)
 ns:h.Ns1 dx mA
 ne:dx≠x
theorem vW{h:Heap}{dx:Addr}{mA:Str->Option Value}(n:h.Ns1 dx mA):∃od,h.get? dx=some od/\∀name,PySem.W.lookIn name od=some (mA name):=by
 obtain⟨o,es,ep,ho,hd,hk,_,hm⟩:=n;refine⟨o,ho,fun name=>?_⟩;have e:=hm name;unfold nsFind findBy at e;rw[<-Array.find?_toList]at e;unfold PySem.W.lookIn;rw[hd];dsimp only;split
 ·rename_i y q;rw[q]at e;exact congrArg some e
 ·rename_i q;rw[q]at e;have a:es.toList.any (·.refKey)=false:=by
   rw[List.any_eq_false];intro y hy;obtain⟨z,t,hkey⟩:=hk y (Array.mem_toList_iff.mp hy);simp[DictEntry.refKey,hkey]
  have a':¬es.toList.any (·.refKey)=true:=by rw[a];exact QM
  rw[if_neg a'];exact congrArg some e
theorem Jg.look{h:Heap}{x dx C:Addr}{mA:Str->Option Value}(I:Jg h x dx C mA):∃od,PySem.W.InstAt h x (PySem.W.instObj C dx) C (some od)/\∀name,PySem.W.lookIn name od=some (mA name):=
 let ⟨od,ho,hl⟩:=vW I.ns
 ⟨od,⟨I.obj,rfl,rfl,ho⟩,hl⟩
theorem tQ.some_of{v:V}{o:Option Value}(r:tQ (some v) o):∃u,o=some u/\bP v u:=by
 cases o with
 |none=>exact(show False from r).elim
 |some u=>exact⟨u,rfl,r⟩
section
variable{P:Program}{w:World}{H:Hp}{h:Heap}{a C dx:Addr}{fs:List (Str×V)}
theorem C6(hok:HOk P w H h)(e:H a=some (.ins C dx fs)):∃mA,Jg h a dx C mA/\(∀f,tQ (fs.lookup f) (mA f))/\PySem.Within mA (fs.map (·.1))/\fs.length<=1000/\H dx=some (.own a):=by
 obtain⟨d,z,ne,ob,mA,n,r,q⟩:=(show bx P w H h a (.ins C dx fs)from hok a _ e);exact⟨mA,⟨ob,n,ne⟩,r,q,z,d⟩
end
structure Cls(K:Q4)(C:Addr):Prop where
 pg:PySem.W.plainGet K C Str.empty=true
 hd:PySem.W.hasDictIn K C=true
 po:PySem.W.plainOver K C=true
 sa:PySem.W.findIn K (.ref C) "__setattr__"=some (some (.builtin "object.__setattr__"))
theorem Cls.get{K:Q4}{C:Addr}(c:Cls K C)(f:Str):PySem.W.plainGet K C f=true:=c.pg
section
variable{X:Cx}{pins:List (Addr×Obj)}{σ:St}{H:Hp}{s:Shared}{A:Around}{E:Value->Shared->Prop}{Q:Value->Shared->Prop}{c:Value}{b:Bool}
inductive rZ(K:Q4)(H:Hp):V->Value->Prop where
 |non:rZ K H .non (.type "NoneType")
 |bl (x:Bool):rZ K H (.bl x) (.type "bool")
 |int (i:Int):rZ K H (.int i) (.type "int")
 |str (x:Str):rZ K H (.str x) (.type "str")
 |flt (x:UInt64):rZ K H (.flt x) (.type "float")
 |lst {a:Addr} {xs:List V} (e:H a=some (.lst xs)):rZ K H (.ref a) (.type "list")
 |frz {a:Addr} {o:Obj} {xs:List V} (e:H a=some (.frz o (.lst xs))):rZ K H (.ref a) (.type "list")
 |tup {a:Addr} {xs:List V} (e:H a=some (.tup xs)):rZ K H (.ref a) (.type "tuple")
 |dK {a:Addr} {kvs:List (Key×V)} (e:H a=some (.dK kvs)):rZ K H (.ref a) (.type "dict")
 |dT {a:Addr} {kvs:List (List Key×V)} (e:H a=some (.dT kvs)):rZ K H (.ref a) (.type "dict")
 | ins {a C dx:Addr} {fs:List (Str×V)} (e:H a=some (.ins C dx fs)) (cl:Cls K C) (ha:PySem.W.findIn K (.ref C) "__class__"=some (some (.builtin "object.__class__")))
   (hn:PySem.W.specialIn K (.builtin "object.__class__") "__get__"=some (some (.builtin "getset_descriptor.__get__"))) (htk:PySem.W.takesIn K (.builtin "object.__class__")=some true)
   (hm:PySem.W.mroIn K C (.type "object")=some true):rZ K H (.ref a) (.ref C)
theorem wj{x:V}{u t:Value}(I:Inv X pins σ H s)(rx:bP x u)(ty:rZ X.K H x t)(e:PySem.W.kitOne X.K t c=some b)(h:∀tk,Q (.bool b) { s with toks:=tk }) :
  wpAny (model X.prog X.w) A (call (.builtin "isinstance") [u,c]) Q E s:=by
 cases ty with
 |non=>cases (show u=Value.none from rx);exact PySem.W.kia_one PySem.W.kitx_none I.kIn True.intro e (fun z=>nomatch z) h
 |bl y=>cases (show u=Value.bool y from rx);exact PySem.W.kia_one PySem.W.kitx_bool I.kIn True.intro e (fun z=>nomatch z) h
 |int i=>obtain⟨t,q⟩:=(show ∃t,u=Value.int i t from rx);cases q;exact PySem.W.kia_one PySem.W.kitx_int I.kIn True.intro e (fun z=>nomatch z) h
 |str y=>obtain⟨t,q⟩:=(show ∃t,u=Value.str y t from rx);cases q;exact PySem.W.kia_one PySem.W.kitx_str I.kIn True.intro e (fun z=>nomatch z) h
 |flt y=>obtain⟨t,q⟩:=(show ∃t,u=Value.float y t from rx);cases q;exact PySem.W.kia_one PySem.W.kitx_float I.kIn True.intro e (fun z=>nomatch z) h
 |@lst a xs ea=>
  cases (show u=Value.ref a from rx);obtain⟨_,_,n,_,h1⟩:=(show bx X.prog X.w H s.heap a (.lst xs)from I.hok a _ ea);exact PySem.W.kia_one PySem.W.kitx_list I.kIn ⟨_,h1,rfl⟩ e (fun z=>nomatch z) h
 |@frz a ob xs ea=>
  cases (show u=Value.ref a from rx);obtain⟨_,_,_,n,_,h1⟩:=(show bx X.prog X.w H s.heap a (.frz ob (.lst xs))from I.hok a _ ea);exact PySem.W.kia_one PySem.W.kitx_list I.kIn ⟨_,h1,rfl⟩ e (fun z=>nomatch z) h
 |@tup a xs ea=>
  cases (show u=Value.ref a from rx);obtain⟨_,_,_,p⟩:=(show bx X.prog X.w H s.heap a (.tup xs)from I.hok a _ ea);obtain⟨o,h1,h2,_⟩:=p;exact PySem.W.kia_one PySem.W.kitx_tuple I.kIn ⟨o,h1,h2⟩ e (fun z=>nomatch z) h
 |@dK a kvs ea=>
  cases (show u=Value.ref a from rx);obtain⟨_,_,vs,_,p⟩:=(show bx X.prog X.w H s.heap a (.dK kvs)from I.hok a _ ea);obtain⟨o,es,ep,h1,h2,_⟩:=p;exact PySem.W.kia_one PySem.W.kitx_dict I.kIn ⟨o,h1,h2.1⟩ e (fun z=>nomatch z) h
 |@dT a kvs ea=>
  cases (show u=Value.ref a from rx);obtain⟨_,_,xs,_,o,es,ep,h1,h2,_⟩:=(show bx X.prog X.w H s.heap a (.dT kvs)from I.hok a _ ea);exact PySem.W.kia_one PySem.W.kitx_dict I.kIn ⟨o,h1,h2.1⟩ e (fun z=>nomatch z) h
 |@ins a C dx fs ea cl ha hn htk hm=>
  cases (show u=Value.ref a from rx);obtain⟨mA,O,_⟩:=C6 I.hok ea;obtain⟨od,J,_⟩:=O.look;exact PySem.W.kia_one (PySem.W.kitx_own (cl.get _) cl.hd ha hn htk hm) I.kIn J e (fun z=>nomatch z) h
end
structure kH(k:Nat)(A:Around):Prop where
 hd:A.handled=none
 dp:A.depth+3*k+5<recursionLimit
 un:A.units+16*k+200<cLine
 gd:A.guards=some []
theorem kH.mono{j k:Nat}{A:Around}(r:kH k A)(h:j<=k):kH j A:=⟨r.hd,by have:=r.dp;omega,by have:=r.un;omega,r.gd⟩
theorem kH.deeper{k:Nat}{A:Around}(r:kH (k+1) A)(env:Env):kH k (A.deeper env):=
 ⟨r.hd,by have:=r.dp;show A.depth+1+3*k+5<_;omega,by have:=r.un;show A.units+3+16*k+200<_;omega,r.gd⟩
theorem kH.depth{k:Nat}{A:Around}(r:kH k A):A.depth<recursionLimit:=by have:=r.dp;omega
theorem kH.units{k:Nat}{A:Around}(r:kH k A):A.units+64<cLine:=by have:=r.un;omega
def Jl:TA:=fun _ H Q=>Q [] H
def EV(ta:TE)(tr:TA):TA:=fun σ H Q=>ta σ H fun x H1=>tr σ H1 fun xs H2=>Q (x::xs) H2
section
variable{X:Cx}{e:Expr}{es:List Expr}{te:TE}{t:TA}{pos:Pos}
theorem FH:PA X [] Jl:=fun _ _ _ _ H Q I h=>Calls.spliced_nil ⟨[],H,I,.nil,h⟩
theorem CH(ha:PE X e te)(hr:PA X es t)(hs:starEach (e::es) X.env=(false,eval e X.env)::starEach es X.env:=by rfl):PA X (e::es) (EV te t):=by
 intro pos pins s σ H Q I h;rw[hs];show wpAny _ _ (spliced ((false,eval e X.env)::backTo pos (starEach es X.env))) _ _ s;refine Calls.spliced_cons (thn (ha pins s σ H _ I h) fun u s1 hz=>?_);obtain⟨x,H1,I1,r1,q1⟩:=hz;exact thn (hr pos pins s1 σ H1 _ I1 q1) fun us s2 ⟨xs,H2,I2,r2,q2⟩=>⟨x::xs,H2,I2,.cons r1 r2,q2⟩
def Jh(t:TA):TE:=fun σ H Q=>t σ H fun xs H1=>xs.length<=sizeLine/\∀p,H1 p=none->Q (.ref p) (upd H1 p (.tup xs))
def Jm(t:TA):TE:=fun σ H Q=>t σ H fun xs H1=>xs.length<=sizeLine/\∀p,H1 p=none->Q (.ref p) (upd H1 p (.lst xs))
theorem Fx{x1}(h:PA X es t):PE X (.Tuple es x1 pos) (Jh t):=by
 intro pins s σ H Q I hq;refine wpAny_Tuple_spliced (thn (h pos pins s σ H _ I hq) fun us s1 ⟨xs,H1,I1,r,z,q⟩=>⟨by rw[<-r.length];exact z,?_⟩);have hf:H1 s1.heap.objs.size=none:=I1.hok.fresh (QJ _);refine⟨.ref s1.heap.objs.size,upd H1 s1.heap.objs.size (.tup xs),I1.laid (t':=s1.toks) (fun b u e=>Q3 _ e) (QJ _) ?_,rfl,q _ hf⟩;exact⟨z,us,r,⟨_,QY _ rfl,rfl,_,rfl⟩⟩
theorem FC(h:PA X es t):PE X (.List es pos) (Jm t):=by
 intro pins s σ H Q I hq;refine wpAny_List_spliced (thn (h pos pins s σ H _ I hq) fun us s1 ⟨xs,H1,I1,r,z,q⟩=>⟨by rw[<-r.length];exact z,?_⟩);have hf:H1 s1.heap.objs.size=none:=I1.hok.fresh (QJ _);refine⟨.ref s1.heap.objs.size,upd H1 s1.heap.objs.size (.lst xs),I1.laid (t':=s1.toks) (fun b u e=>Q3 _ e) (QJ _) ?_,rfl,q _ hf⟩;exact⟨z,us,0,r,QY _ rfl⟩
end
abbrev Sp:=List V->Hp->VK->XK->Prop
abbrev CXT:=List Env->Hp->Shared->XK->Value->Shared->Prop
structure G9(P:Program)(w:World)(K:Q4)(mg:Str->Option Value)(base:Heap)(A:Around)(outer:List Env)(s:Shared)(H:Hp):Prop where
 frames:A.frames=some outer
 mod:Mod K mg base
 bs:∀b o,base.get? b=some o->s.heap.get? b=some o/\H b=none
 bsz:base.objs.size<=s.heap.objs.size
 funs:s.heap.FunFrames base outer
 frf:∀b∈frs outer,H b=none
 hok:HOk P w H s.heap
 bare:AllBare s.gens
def CE(outer:List Env)(P:Program)(w:World)(H:Hp)(s:Shared)(Q:VK)(u:Value)(s':Shared):Prop:=
 ∃v H',s'.os=s.os/\AllBare s'.gens/\Un (frs outer) [] H H' s.heap s'.heap/\HOk P w H' s'.heap/\bP v u/\Q v H'
def CR(CX:CXT)(outer:List Env)(P:Program)(w:World)(H:Hp)(s:Shared)(Q:VK)(E:XK)(r:Result)(s':Shared):Prop:=
 match r with
 |.ok (.ret u)=>CE outer P w H s Q u s'
 |.ok _=>False
 |.error e=>CX outer H s E e s'
structure pd(P:Program)(w:World)(K:Q4)(mg:Str->Option Value)(base:Heap)(CX:CXT)(k:Nat)(f:Addr)(fd:FuncData)(ps:List Str)(sp:Sp):Prop where
 len:∀vs H Q E,sp vs H Q E->vs.length=ps.length
 run:∀(A:Around) (outer:List Env) (s:Shared) (H:Hp) (args:Args) (us:List Value) (vs:List V) (Q:VK) (E:XK),kH k A->G9 P w K mg base A outer s H->BindsTo s fd args (ps.zip us)->a5 vs us->sp vs H Q E->
  codeAny (model P w) A (.call (.ref f) args) (CR CX outer P w H s Q E) s
theorem pd.mono{P:Program}{w:World}{K:Q4}{mg:Str->Option Value}{base:Heap}{CX:CXT}{j k:Nat}{f:Addr}{fd:FuncData}{ps:List Str}{sp:Sp}(F:pd P w K mg base CX j f fd ps sp)(h:j<=k) :
  pd P w K mg base CX k f fd ps sp:=⟨F.len,fun A outer s H args us vs Q E hr=>F.run A outer s H args us vs Q E (hr.mono h)⟩
section
variable{X:Cx}{pins:List (Addr×Obj)}{σ:St}{H:Hp}{s s':Shared}
theorem Inv.env0(I:Inv X pins σ H s):G9 X.prog X.w X.K X.mg X.base X.A X.stack s H:=
 ⟨I.ok.frames,I.ok.mod,I.bs,Qc I.ok.bsz I.sz,I.stack,I.stkFree,I.hok,I.bare⟩
theorem Inv.after{Q:VK}{u:Value}(I:Inv X pins σ H s)(h:CE X.stack X.prog X.w H s Q u s'):EP X pins σ Q u s':=by
 obtain⟨v,H',os,bare,un,hok,r,q⟩:=h;obtain⟨hh,g,d,t,os'⟩:=s';obtain rfl:os'=s.os:=os;exact⟨v,H',I.call (h':=hh) (g':=g) (d':=d) (t':=t) (ch:=[]) un hok bare (fun b z=>absurd z (by simp)),r,q⟩
end
def EW(sp:Sp)(dvs:List V)(E:XK)(t:TA):TE:=fun σ H Q=>t σ H fun vs H1=>sp (vs++dvs) H1 Q E
def qu(K:Q4)(fd:FuncData)(ps:List Str)(ds:List Value):Prop:=
 ∀(s:Shared) (us:List Value),K.In s.heap->(us++ds).length=ps.length->BindsTo s fd ⟨us,[]⟩ (ps.zip (us++ds))
theorem qu.all{K:Q4}{fd:FuncData}{ps:List Str}(h:∀us:List Value,us.length=ps.length->bindArgs fd ⟨us,[]⟩=pure (ps.zip us)):qu K fd ps []:=fun s us _ hl=>by
 rw[Qe]at hl ⊢;exact .of_eq (h us hl)
def xI(CX:CXT)(X:Cx)(E:XK):Prop:=∀(pins:List (Addr×Obj)) (σ:St) (H:Hp) (s:Shared) (e:Value) (s':Shared),Inv X pins σ H s->CX X.stack H s E e s'->X.xe e s'
section
variable{X:Cx}{CX:CXT}{k:Nat}{f:Addr}{fd:FuncData}{ps:List Str}{sp:Sp}{dvs:List V}{ds:List Value}{E:XK}{x:Str}{p pos:Pos}{e:Expr}{es:List Expr}{t:TA}
theorem E6{pins:List (Addr×Obj)}{σ:St}{H:Hp}{s:Shared}{Q:VK}{us:List Value}{vs:List V}(F:pd X.prog X.w X.K X.mg X.base CX k f fd ps sp)(hr:kH k X.A)(hb:qu X.K fd ps ds)(hd:a5 dvs ds)(hx:xI CX X E)
  (I:Inv X pins σ H s) (r:a5 vs us) (h:sp (vs++dvs) H Q E):wpAny (model X.prog X.w) X.A (call (.ref f) us) (EP X pins σ Q) X.xe s:=by
 have r2:a5 (vs++dvs) (us++ds):=r.append hd;have hl:(us++ds).length=ps.length:=by rw[<-r2.length];exact F.len _ _ _ _ h
 refine wpAny_call (codeAny_mono (F.run X.A X.stack s H ⟨us,[]⟩ (us++ds) (vs++dvs) Q E hr I.env0 (hb s us I.kIn hl) r2 h) fun r s' hq=>?_);cases r with
 |error e=>exact hx pins σ H s e s' I hq
 |ok fl=>
  cases fl with
  |ret u=>exact I.after hq
  |next=>exact False.elim hq
  |brk=>exact False.elim hq
  |cont=>exact False.elim hq
theorem CC(F:pd X.prog X.w X.K X.mg X.base CX k f fd ps sp)(hr:kH k X.A)(hg:Gl X x)(hm:X.mg x=some (.ref f))(hk:PySem.W.keepIn X.K (.ref f)=true)(hb:qu X.K fd ps ds)(hd:a5 dvs ds)(hx:xI CX X E)
  (ha:PA X (e::es) t) (hdb:(x == ("__debug__":Str))=false:=by decide) (he:starEach (e::es) X.env=(false,eval e X.env)::starEach es X.env:=by rfl) (hpl:(backTo pos (starEach es X.env)).any (·.1)=false:=by rfl) :
  PE X (.Call (.Name x p) (e::es) [] pos) (EW sp dvs E t):=by
 intro pins s σ H Q I h;refine wpAny_Call_Name_kw (v7 I hg hm ?_ hdb);refine PySem.W.callWith_K (h₀:=X.base) I.ok.mod.kin hk (thn (ha pos pins s σ H _ I h) fun us s1 ⟨vs,H1,I1,r,q⟩=>⟨I1.kIn,?_⟩) he hpl;exact E6 F hr hb hd hx I1 r q
end
structure aX(N P:List Str)(sc:Scope):Prop where
 kind:sc.kind=.function
 co:sc.isCoroutine=false
 gen:sc.isGenerator=false
 nd:N.Nodup
 pre:N.take P.length=P
 par:∀x∈P,sc.names.lookup x=some .local\/sc.names.lookup x=some .cell
 nofree:∀y∈sc.names,y.2≠.free
theorem oT{kindOf:Str->Option NameKind}{x:Str}:∀{binds:List (Str×Value)} {m:Str->Option Value},(∀v,(x,v)∉binds)->bindL kindOf binds m x=m x
 |[],_,_=>rfl
 |(n,v)::r,m,h=>by
  unfold bindL;rw[oT fun w hw=>h w (QU _ hw)];split
  ·have:x≠n:=by rintro rfl;exact h v QK
   simp[this]
  ·rfl
theorem oV{kindOf:Str->Option NameKind}{x:Str}:∀{binds:List (Str×Value)} {m:Str->Option Value},(∀v,(x,v)∉binds)->bindC kindOf binds m x=m x
 |[],_,_=>rfl
 |(n,v)::r,m,h=>by
  unfold bindC;rw[oV fun w hw=>h w (QU _ hw)];split
  ·rfl
  ·have:x≠n:=by rintro rfl;exact h v QK
   simp[this]
theorem oU{kindOf:Str->Option NameKind}{x:Str}{v:Value}:∀{P:List Str} {vs:List Value} {i:Nat} {m:Str->Option Value},P.Nodup->P[i]?=some x->vs[i]?=some v->kindOf x=some .local->
  bindL kindOf (P.zip vs) m x=some v
 |[],_,_,_,_,h,_,_=>by simp at h
 |_::_,[],_,_,_,_,h,_=>by simp at h
 |p::P,w::vs,0,m,nd,h1,h2,hk=>by
  simp at h1 h2;subst h1;subst h2;show bindL kindOf ((p,w)::P.zip vs) m p=_;unfold bindL;rw[oT fun v hv=>(ZJ.mp nd).1 (List.of_mem_zip hv).1,if_pos hk];simp
 |p::P,w::vs,i+1,m,nd,h1,h2,hk=>by
  show bindL kindOf ((p,w)::P.zip vs) m x=_;unfold bindL;exact oU (i:=i) (ZJ.mp nd).2 (by simpa using h1) (by simpa using h2) hk
theorem oW{kindOf:Str->Option NameKind}{x:Str}{v:Value}:∀{P:List Str} {vs:List Value} {i:Nat} {m:Str->Option Value},P.Nodup->P[i]?=some x->vs[i]?=some v->kindOf x≠some .local->
  bindC kindOf (P.zip vs) m x=some v
 |[],_,_,_,_,h,_,_=>by simp at h
 |_::_,[],_,_,_,_,h,_=>by simp at h
 |p::P,w::vs,0,m,nd,h1,h2,hk=>by
  simp at h1 h2;subst h1;subst h2;show bindC kindOf ((p,w)::P.zip vs) m p=_;unfold bindC;rw[oV fun v hv=>(ZJ.mp nd).1 (List.of_mem_zip hv).1,if_neg hk];simp
 |p::P,w::vs,i+1,m,nd,h1,h2,hk=>by
  show bindC kindOf ((p,w)::P.zip vs) m x=_;unfold bindC;exact oW (i:=i) (ZJ.mp nd).2 (by simpa using h1) (by simpa using h2) hk
def gK(N:List Str)(vs:List V):St:=vs.map some++ZU (N.length-vs.length) none
def xT(CX:CXT)(P:Program)(w:World)(K:Q4)(mg:Str->Option Value)(base:Heap)(N:List Str)(qual:Str)(scope:Scope)(f:Addr)(cd:Value)(A:Around)(outer:List Env)(s:Shared)(H:Hp)(E:XK):Cx where
 prog:=P
 w:=w
 K:=K
 mg:=mg
 base:=base
 A:=A.deeper (envOfC qual scope s.heap.objs.size f cd)
 N:=N
 s₀:=s
 H₀:=H
 env:=envOfC qual scope s.heap.objs.size f cd
 outer:=outer
 stack:=envOfC qual scope s.heap.objs.size f cd::outer
 ex:=[]
 calm:=true
 fn:=fun _=>true
 pn:=[]
 xe:=fun e s'=>wpAny (model P w) (A.deeper (envOfC qual scope s.heap.objs.size f cd)) (leaving (envOfC qual scope s.heap.objs.size f cd) e) (fun _ s''=>CX outer H s E e s'') (fun e' s''=>CX outer H s E e' s'') s'
theorem rO{sc:Scope}{n:Nat}{x:Str}(h:sc.names.lookup x=some .cell):∃c,(cellsFrom n sc.names []).lookup x=some c:=by
 have q:=PySem.W.cellsFrom_some sc.names n [] (.inl h);exact Option.isSome_iff_exists.mp q
theorem wq{CX:CXT}{P:Program}{w:World}{K:Q4}{mg:Str->Option Value}{base:Heap}{N ps:List Str}{qual:Str}{scope:Scope}{f:Addr}{cd:Value}{A:Around}{outer:List Env}{s s1:Shared}{H:Hp}{E:XK}{us:List Value}{vs:List V}
  (S:aX N ps scope) (hd:A.handled=none) (e0:G9 P w K mg base A outer s H) (hl:vs.length=ps.length) (r:a5 vs us)
  (x:InCallC s s.heap.objs.size (bindL (envOfC qual scope s.heap.objs.size f cd).kindOf (ps.zip us) fun _=>none) (cellsFrom (s.heap.objs.size+1) scope.names []) (bindC (envOfC qual scope s.heap.objs.size f cd).kindOf (ps.zip us) fun _=>none) s1) :
  Inv (xT CX P w K mg base N qual scope f cd A outer s H E) [] (gK N vs) H s1:=by
 have hpl:ps.length<=N.length:=by have:=congrArg X8 S.pre;rw[Zr]at this;omega
 obtain⟨h1,tk,rfl,hk⟩:=x.done;have noA:∀b:Addr,b∉(xT CX P w K mg base N qual scope f cd A outer s H E).ex:=fun b z=>absurd (show b∈([]:List Addr)from z) (by simp);refine⟨⟨e0.mod,S.kind,rfl,rfl,QJ _,fun y z c h1 h2=>?_,fun y hy=>?_,fun y c _ h=>?_,fun _=>hd,Around.frames_deeper e0.frames,.inr ⟨rfl,rfl⟩,fun b z=>absurd z (noA b),e0.bs,e0.bsz,fun b _ _=>noA b,fun b z=>absurd z (noA b),e0.funs,e0.frf⟩,
  rfl,e0.bare,Un.kept hk,⟨_,x.toInCall.ns,fun i y v h1 h2 h3=>?_⟩,fun y c h=>⟨_,x.cell y c h⟩,e0.hok.fresh (QJ _),fun y c h=>?_,fun p hp=>absurd (show p∈([]:List (Addr×Obj))from hp) (by simp),e0.hok.kept hk,?_⟩
 ·exact name_of_addr x.apart (PySem.mem_of_lookup h1) (PySem.mem_of_lookup h2)
 ·have hy:scope.names.lookup y=some .cell\/scope.names.lookup y=some .free:=hy;rcases hy with hy|hy
  ·exact rO hy
  ·exact absurd rfl (S.nofree _ (PySem.mem_of_lookup hy))
 ·exact Zb (x.above y c (PySem.mem_of_lookup h))
 ·have hi:i<vs.length:=by
   unfold gK at h2;by_cases hi:i<vs.length
   ·exact hi
   ·rw[QN (by simpa using hi)]at h2;rw[X1]at h2;split at h2<;>cases h2
  have ha:vs[i]?=some v:=by
   unfold gK at h2;rw[Qz (by simpa using hi),Qr]at h2;cases e:vs[i]? with
   |none=>rw[e]at h2;cases h2
   |some a=>rw[e]at h2;cases h2;rfl
  obtain⟨u,hu,rv⟩:=r.get ha;have hp:ps[i]?=some y:=by
   rw[<-S.pre,List.getElem?_take_of_lt (by omega)];exact h1
  have ndP:ps.Nodup:=by rw[<-S.pre];exact S.nd.sublist (List.take_sublist _ _)
  refine⟨u,rv,?_⟩;rcases S.par y (ZX hp)with k|k
  ·exact .inl ⟨k,oU ndP hp hu k⟩
  ·obtain⟨c,e⟩:=rO (n:=s.heap.objs.size+1) k;refine .inr ⟨.inl k,c,e,?_⟩;have q:=x.cell y c e;rw[oW ndP hp hu (by show scope.names.lookup y≠_;rw[k];decide)]at q;exact q
 ·exact e0.hok.fresh (Zb (x.above y c (PySem.mem_of_lookup h)))
 ·unfold gK;show _=N.length;rw[QV,Q9,List.length_replicate];omega
theorem IT{CX:CXT}{P:Program}{w:World}{K:Q4}{mg:Str->Option Value}{base:Heap}{k:Nat}{f:Addr}{name qual:Str}{params:Arguments}{body:List Stmt}{scope:Scope}{dV kV doc pm cdv ct oc:Value}{an od:Option Addr}
  {osl:Array (Option Value)} {N ps:List Str} {sp:Sp} (lk:K.lookup f=some ⟨oc,od,.func (PySem.W.fnOf name qual params body scope dV kV doc pm an cdv ct),osl⟩) (hcd:PySem.W.codeIn K cdv qual=true) (S:aX N ps scope)
  (len:∀vs H Q E,sp vs H Q E->vs.length=ps.length)
  (hbody:∀(A:Around) (outer:List Env) (s:Shared) (H:Hp) (vs:List V) (Q:VK) (E:XK),kH k (A.deeper (envOfC qual scope s.heap.objs.size f cdv))->sp vs H Q E->
   ∃t,PSs (xT CX P w K mg base N qual scope f cdv A outer s H E) body t/\t { nx:=fun _ H'=>Q .non H',rt:=Q } (gK N vs) H) :
  pd P w K mg base CX (k+1) f (PySem.W.fnOf name qual params body scope dV kV doc pm an cdv ct) ps sp:=by
 refine⟨len,fun A outer s H args us vs Q E hr e0 hb r hsp=>?_⟩;have hl:=len _ _ _ _ hsp;have KX:K.In s.heap:=e0.mod.kin.keeps fun b o e=>(e0.bs b o e).1;have lim:s.heap.NoLimit:=e0.mod.nolimit.keeps fun b o e=>(e0.bs b o e).1;have hkind:∀y∈ps.zip us,scope.names.lookup y.1=some .local\/(scope.names.lookup y.1=some .cell/\((cellsFrom (s.heap.objs.size+1) scope.names []).lookup y.1).isSome=true):=fun⟨n,v⟩ hy=>by
  rcases S.par n (List.of_mem_zip hy).1 with q|q
  ·exact .inl q
  ·exact .inr ⟨q,PySem.W.cellsFrom_some _ _ _ (.inl q)⟩
 refine codeAny_call_function hr.depth (KX _ _ lk) rfl S.co S.gen rfl (PySem.W.codeRec_of KX hcd) (hb _ _ _ _ ?_);refine wpAny_newFunctionEnv_cells S.kind hkind fun env he s1 x=>?_;subst he;refine⟨lim.keeps x.toInCall.keep,codeAny_func ?_⟩;obtain⟨t,ht,hq⟩:=hbody A outer s H vs Q E (hr.deeper _) hsp;have I:Inv (xT CX P w K mg base N qual scope f cdv A outer s H E) [] (gK N vs) H s1:=wq S hr.hd e0 hl r x;refine ZY (ht [] s1 (gK N vs) H _ I hq) (fun fl s' hs=>?_) fun e s' hs=>hs;have fin:∀{σ':St} {H':Hp} {v:V} {u:Value},Inv (xT CX P w K mg base N qual scope f cdv A outer s H E) [] σ' H' s'->bP v u->Q v H'->CE outer P w H s Q u s':=
  fun{σ' H' v u} J rv q=>⟨v,H',J.os,J.bare,J.base,J.hok,rv,q⟩
 cases fl with
 |ret u=>
  obtain⟨v,σ',H',J,rv,q⟩:=hs;exact fin J rv q
 |next=>
  obtain⟨σ',H',J,q⟩:=hs;exact fin (v:=V.non) (u:=Value.none) J rfl q
 |brk=>
  obtain⟨_,_,_,q⟩:=hs;exact False.elim q
 |cont=>
  obtain⟨_,_,_,q⟩:=hs;exact False.elim q
section
variable{X:Cx}{x:Str}{p pos:Pos}{e:Expr}{es:List Expr}{t:TA}{id T:String}{r:List V->Hp->VK->Prop}
def tCB(r:List V->Hp->VK->Prop)(t:TA):TE:=fun σ H Q=>t σ H fun vs H1=>r vs H1 Q
theorem yZ(hc:bX X (.builtin id) r)(hg:Gl X x)(hm:X.mg x=none)(hv:bootBuiltins x=some (.builtin id))(ha:PA X (e::es) t)(hn:x≠"__name__":=by decide)(hdb:(x == ("__debug__":Str))=false:=by decide)
  (he:starEach (e::es) X.env=(false,eval e X.env)::starEach es X.env:=by rfl) (hpl:(backTo pos (starEach es X.env)).any (·.1)=false:=by rfl):PE X (.Call (.Name x p) (e::es) [] pos) (tCB r t):=by
 intro pins s σ H Q I h;refine wpAny_Call_Name_kw (fq I hg hm hv ?_ hn hdb);exact PyProof.Rows.callWith_builtin1 (thn (ha pos pins s σ H _ I h) fun us s1 ⟨vs,H1,I1,r1,q1⟩=>hc pins s1 σ H1 vs us Q I1 r1 q1) he hpl
theorem vA(hc:bX X (.type T) r)(hg:Gl X x)(hm:X.mg x=none)(hv:bootBuiltins x=some (.type T))(ha:PA X (e::es) t)(hn:x≠"__name__":=by decide)(hdb:(x == ("__debug__":Str))=false:=by decide)
  (he:starEach (e::es) X.env=(false,eval e X.env)::starEach es X.env:=by rfl) (hpl:(backTo pos (starEach es X.env)).any (·.1)=false:=by rfl):PE X (.Call (.Name x p) (e::es) [] pos) (tCB r t):=by
 intro pins s σ H Q I h;refine wpAny_Call_Name_kw (fq I hg hm hv ?_ hn hdb);exact PyProof.Rows.callWith_type1 (thn (ha pos pins s σ H _ I h) fun us s1 ⟨vs,H1,I1,r1,q1⟩=>hc pins s1 σ H1 vs us Q I1 r1 q1) he hpl
end
end L2
namespace HT
open PySem PyProof.Rows
section
variable{prog:Program}{w:World}{A:Around}{E:Value->Shared->Prop}{s:Shared}
theorem cat_tup{t b:Addr}{vs ws:List Value}{Q:Value->Shared->Prop}(ht:IsTup s.heap t vs.toArray)(hb:IsTup s.heap b ws.toArray)(hv:vs≠[])
  (h1:ws=[]->Q (.ref t) s) (h2:ws≠[]->Q (.ref s.heap.objs.size) { s with heap:=s.heap.push { cls:=.type "tuple",data:=.seq (vs++ws).toArray } })
  (hsz:vs.length+ws.length<=sizeLine):wpAny (model prog w) A (binaryOp .Add (.ref t) (.ref b)) Q E s:=by
 obtain⟨⟨cls,dd,data,sl⟩,ho,hc,n,hd⟩:=id ht;obtain⟨⟨cls2,dd2,data2,sl2⟩,ho2,hc2,n2,hd2⟩:=id hb;simp only at hc hd hc2 hd2;subst hc hd hc2 hd2;have e:vs.toArray++ws.toArray=(vs++ws).toArray:=by simp
 by_cases hw:ws=[]
 ·exact concat_meets ⟨_,ho,rfl⟩ ⟨_,ho2,rfl⟩ noFill_tuple_add seq_tuple_add PySem.F.slot_tuple_add PySem.F.entry_tuple_add (PySem.F.args_tuple_add_2 _ _)
   (tuple_addW1 t b vs.toArray ws.toArray n n2 dd dd2 sl sl2 (by simpa using hv) (by simp[hw])) ⟨ho,ho2,h1 hw⟩
 ·refine concat_meets ⟨_,ho,rfl⟩ ⟨_,ho2,rfl⟩ noFill_tuple_add seq_tuple_add PySem.F.slot_tuple_add PySem.F.entry_tuple_add (PySem.F.args_tuple_add_2 _ _)
   (tuple_addW2 t b vs.toArray ws.toArray n n2 dd dd2 sl sl2 (by simpa using hv) (by simpa using hw) (by rw[QC,QC];exact hsz)) ⟨ho,ho2,?_⟩
  rw[e];exact h2 hw
def sIx(n d:Nat):Option Int->Nat
 |none=>d
 |some v=>if v<0 then(v+(n:Int)).toNat else min v.toNat n
theorem sIx_none(n d:Nat):sIx n d none=d:=rfl
theorem sIx_nat(n d k:Nat):sIx n d (some (k:Int))=min k n:=by
 show(if (k:Int)<0 then((k:Int)+(n:Int)).toNat else min (k:Int).toNat n)=min k n;rw[if_neg (by omega),ZC]
theorem E4(n d:Nat)(hd:d<=n)(o:Option Int):sIx n d o<=n:=by
 cases o with
 |none=>exact hd
 |some v=>
  show(if v<0 then(v+(n:Int)).toNat else min v.toNat n)<=n;by_cases hv:v<0
  ·rw[if_pos hv];omega
  ·rw[if_neg hv];exact Nat.min_le_right _ _
theorem xg(v:Int)(n d:Nat):(if v<0 then max (v+(n:Int)) 0 else min v (n:Int))=((sIx n d (some v):Nat):Int):=by
 show(if v<0 then max (v+(n:Int)) 0 else min v (n:Int))=(((if v<0 then(v+(n:Int)).toNat else min v.toNat n):Nat):Int);by_cases hv:v<0
 ·simp only[if_pos hv];omega
 ·simp only[if_neg hv];omega
theorem tH(lo hi:Option Int)(n:Nat):Builtin.Slice.sliceAdjust lo hi 1 (n:Int)=(((sIx n 0 lo:Nat):Int),((sIx n n hi:Nat):Int)):=by
 have h1:¬((1:Int)<0):=by omega
 unfold Builtin.Slice.sliceAdjust;simp only[h1,if_false];refine Prod.ext ?_ ?_
 ·cases lo with
  |none=>rfl
  |some v=>exact xg v n 0
 ·cases hi with
  |none=>rfl
  |some v=>exact xg v n n
theorem sO(i j:Nat):Builtin.Slice.slicePlaces (i:Int) (j:Int) 1=j-i:=by
 unfold Builtin.Slice.slicePlaces;have h1:(1:Int)>0:=by omega
 simp only[h1,if_true,Int.ediv_one];split<;>omega
theorem kX{v:Value}{o:Option Int}{Q:Option Int->Shared->Prop}(p:IsPart v o)(h:Q o s):wpAny (model prog w) A (Builtin.Slice.slicePartIndex v) Q E s:=by
 cases p with
 |none=>exact slicePart_none h
 |int i t=>exact slicePart_int h
theorem eL{sl:Addr}{vl vu:Value}{lo hi:Option Int}{n:Nat}{Q:Int×Int×Nat->Shared->Prop}(hs:s.heap.IsSliceOf sl vl vu .none)(pl:IsPart vl lo)(pu:IsPart vu hi)
  (h:Q (((sIx n 0 lo:Nat):Int),1,sIx n n hi-sIx n 0 lo) s):wpAny (model prog w) A (Builtin.Slice.sliceApplied (.ref sl) (pure (n:Int))) Q E s:=by
 obtain⟨os,hos,hcs,hds⟩:=id hs;unfold Builtin.Slice.sliceApplied Builtin.Slice.sliceFields;refine Q0 (Q0 (Qp hos hds (x:=vl) rfl (Q0 (Qp hos hds (x:=vu) rfl (Q0 (Qp hos hds (x:=.none) rfl (Q5 ?_)))))));refine Q0 (slicePart_none ?_);show wpAny _ _ (if ((1:Int) == 0)=true then _ else _) _ _ s;rw[if_neg (by decide)];refine Q0 (kX pl (Q0 (kX pu (Q0 (Q5 ?_)))));show wpAny _ _ (match Builtin.Slice.sliceAdjust lo hi 1 (n:Int)with|(lo,hi)=>pure (lo,(1:Int),Builtin.Slice.slicePlaces lo hi 1)) _ _ s;rw[tH lo hi n];show wpAny _ _ (pure (((sIx n 0 lo:Nat):Int),(1:Int),Builtin.Slice.slicePlaces ((sIx n 0 lo:Nat):Int) ((sIx n n hi:Nat):Int) 1)) _ _ s;rw[sO];exact Q5 h
theorem yT(xs:Array Value)(i k:Nat):((Qy k).filterMap fun(m:Nat)=>xs[((i:Int)+(m:Int)*1).toNat]?).toArray=((xs.toList.drop i).take k).toArray:=by
 have e:(fun(m:Nat)=>xs[((i:Int)+(m:Int)*1).toNat]?)=fun m=>xs[i+m]?:=by
  funext m;have:((i:Int)+(m:Int)*1).toNat=i+m:=by omega
  rw[this]
 rw[e];have:=pick_run xs i k;rw[List.filterMap_map]at this;have e2:((fun x=>xs[x]?) ∘ fun x=>i+x)=fun m=>xs[i+m]?:=rfl;rw[e2]at this;rw[this]
theorem getItem_tuple_cut{t sl:Addr}{items:Array Value}{vl vu:Value}{lo hi:Option Int}{Q:Value->Shared->Prop}(ht:IsTup s.heap t items)(hs:s.heap.IsSliceOf sl vl vu .none)(pl:IsPart vl lo)(pu:IsPart vu hi)
  (hw:¬(sIx items.size 0 lo=0/\sIx items.size items.size hi=items.size))
  (h:Q (.ref s.heap.objs.size) { s with heap:=s.heap.push { cls:=.type "tuple",data:=.seq ((items.toList.drop (sIx items.size 0 lo)).take (sIx items.size items.size hi-sIx items.size 0 lo)).toArray } })
  (hsz:items.size<=sizeLine):wpAny (model prog w) A (getItem (.ref t) (.ref sl)) Q E s:=by
 have htake:sizeOk (.seq ((items.toList.drop (sIx items.size 0 lo)).take (sIx items.size items.size hi-sIx items.size 0 lo)).toArray):=by
  show((items.toList.drop (sIx items.size 0 lo)).take (sIx items.size items.size hi-sIx items.size 0 lo)).toArray.size<=sizeLine;rw[QC,Zr,List.length_drop,QD];omega
 have hj:sIx items.size items.size hi<=items.size:=E4 _ _ (QJ _) hi;obtain⟨os,hos,hcs,hds⟩:=id hs;have hTs:s.TypeIs (.ref sl) "slice":=⟨os,hos,hcs⟩;unfold getItem;try with_reducible refine wpAny_holding ?_
 first|refine Q0 (Q5 ?_)|skip
 refine Q0 (wpAny_sequenceKey ht.typeIs (by decide) ?_);refine Q0 (wpAny_callSpecial?_slot (name:=Str.ofString "__getitem__") ht.typeIs PyProof.Rows.slot_tuple_getitem
  (wpAny_call_entry PyProof.Rows.slot_tuple_getitem ht.typeIs entry_tuple_getitem ?_ (args_tuple_getitem _ _)))
 show wpAny _ _ (Builtin.Tuple.tupleItemsOf (.ref t) >>= _) _ _ s;refine Q0 (tupleItemsOf_ ht ?_);refine Q0 (wpAny_typeOf hTs ?_);rw[if_pos (by decide)];refine Q0 (eL hs pl pu ?_);have hno:¬((((sIx items.size 0 lo:Nat):Int) == 0&&(1:Int) == 1&&(sIx items.size items.size hi-sIx items.size 0 lo) == items.size)=true):=by
  intro q;rw[ZI,ZI]at q;have q1:((sIx items.size 0 lo:Nat):Int)=0:=eq_of_beq q.1.1;have q2:sIx items.size items.size hi-sIx items.size 0 lo=items.size:=eq_of_beq q.2;exact hw ⟨by omega,by omega⟩
 show wpAny _ _ (if (((sIx items.size 0 lo:Nat):Int) == 0&&(1:Int) == 1&&(sIx items.size items.size hi-sIx items.size 0 lo) == items.size)=true then _ else _) _ _ s;rw[if_neg hno,yT];first
  |exact Q0 (m:=Builtin.Tuple.tupleExact _) (wpAny_newObj_type (Q5 ⟨_,rfl,Q5 h⟩) htake)
  |exact Q0 (m:=Builtin.Tuple.tupleExact _) (wpAny_newObj_type (Q0 (Q5 (Q5 ⟨_,rfl,Q5 h⟩))) htake)
  |exact Q0 (Q0 (m:=Builtin.Tuple.tupleExact _) (wpAny_newObj_type (Q5 (Q5 ⟨_,rfl,Q5 h⟩)) htake))
  |exact Q0 (Q0 (m:=Builtin.Tuple.tupleExact _) (wpAny_newObj_type (Q5 ⟨_,rfl,Q5 h⟩) htake))
end
end HT
namespace L2
open PySem PySem.Spec PyProof.Rows
abbrev TO:=St->Hp->(Option Int->Hp->Prop)->Prop
def PO(X:Cx)(e:Option Expr)(t:TO):Prop:=
 ∀(pins:List (Addr×Obj)) (s:Shared) (σ:St) (H:Hp) (Q:Option Int->Hp->Prop),Inv X pins σ H s->t σ H Q->
  wpAny (model X.prog X.w) X.A (evalPart e X.env) (fun u s'=>∃o H',Inv X pins σ H' s'/\IsPart u o/\Q o H') X.xe s
def uH:TO:=fun _ H Q=>Q none H
def EN(t:TE):TO:=fun σ H Q=>t σ H fun x H1=>∃i,x=.int i/\Q (some i) H1
section
variable{X:Cx}{e:Expr}{te:TE}{lo hi:Option Expr}{tl th:TO}{pos p2:Pos}
theorem Ct:PO X none uH:=by
 intro pins s σ H Q I h;rw[evalPart_none];exact Q5 ⟨none,H,I,.none,h⟩
theorem Cs(h:PE X e te):PO X (some e) (EN te):=by
 intro pins s σ H Q I hw;rw[evalPart_some];refine thn (h pins s σ H _ I hw) fun u s1 hz=>?_;obtain⟨x,H1,I1,r1,q1⟩:=hz;obtain⟨i,rfl,q⟩:=q1;obtain⟨t,rfl⟩:=r1;exact⟨some i,H1,I1,.int i t,q⟩
def SlR(X:Cx)(r:V->Option Int->Option Int->Hp->VK->Prop):Prop:=
 ∀(pins:List (Addr×Obj)) (s:Shared) (σ:St) (H:Hp) (x:V) (v vl vu:Value) (lo hi:Option Int) (sl:Addr) (Q:VK),Inv X pins σ H s->bP x v->s.heap.IsSliceOf sl vl vu .none->IsPart vl lo->IsPart vu hi->r x lo hi H Q->
  ∃T id,typeLookup (.type T) "__getitem__"=pure (some (.builtin id))/\s.TypeIs v T/\wpAny (model X.prog X.w) X.A (getItem v (.ref sl)) (EP X pins σ Q) X.xe s
theorem SlR.or{r r':V->Option Int->Option Int->Hp->VK->Prop}(h:SlR X r)(h':SlR X r'):SlR X (fun x lo hi H Q=>r x lo hi H Q\/r' x lo hi H Q):=by
 intro pins s σ H x v vl vu lo hi sl Q I rx hs pl pu q;rcases q with q|q
 ·exact h pins s σ H x v vl vu lo hi sl Q I rx hs pl pu q
 ·exact h' pins s σ H x v vl vu lo hi sl Q I rx hs pl pu q
def tSl(r:V->Option Int->Option Int->Hp->VK->Prop)(te:TE)(tl th:TO):TE:=fun σ H Q=>te σ H fun x H1=>tl σ H1 fun l H2=>th σ H2 fun u H3=>r x l u H3 Q
theorem yW{r:V->Option Int->Option Int->Hp->VK->Prop}(hr:SlR X r)(he:PE X e te)(hl:PO X lo tl)(hu:PO X hi th):PE X (.Subscript e (.Slice lo hi none p2) pos) (tSl r te tl th):=by
 intro pins s σ H Q I h;refine Subscript_ (thn (he pins s σ H _ I h) fun v s1 hz=>?_);obtain⟨x,H1,I1,r1,q1⟩:=hz;refine wpAny_Slice (thn (hl pins s1 σ H1 _ I1 q1) fun vl s2 ⟨l,H2,I2,pl,q2⟩=>thn (hu pins s2 σ H2 _ I2 q2) fun vu s3 hz=>?_);obtain⟨u,H3,I3,pu,q3⟩:=hz;rw[evalPart_none];refine Q5 ?_;have I4:Inv X pins σ H3 { s3 with heap:=s3.heap.push { cls:=.type "slice",data:=.fields #[vl,vu,.none] } }:=I3.kept (t':=s3.toks) fun b ob q=>Q3 _ q;obtain⟨T,id,hT,ht,hg⟩:=hr pins { s3 with heap:=s3.heap.push { cls:=.type "slice",data:=.fields #[vl,vu,.none] } } σ H3 x v vl vu l u s3.heap.objs.size Q I4 r1 (Heap.IsSliceOf.new ..) pl pu q3;show wpAny (model X.prog X.w) X.A (subscriptTail e (.Slice lo hi none p2) v (.ref s3.heap.objs.size)) (EP X pins σ Q) X.xe { s3 with heap:=s3.heap.push { cls:=.type "slice",data:=.fields #[vl,vu,.none] } };exact tail_any (ops:=[.ref s3.heap.objs.size,v]) ht hT hg (by with_unfolding_all rfl)
def AX(xs:List V)(lo hi:Option Int):List V:=(xs.drop (HT.sIx xs.length 0 lo)).take (HT.sIx xs.length xs.length hi-HT.sIx xs.length 0 lo)
theorem kA(xs:List V)(lo hi:Option Int):(AX xs lo hi).length<=xs.length:=by
 unfold AX;rw[Zr,List.length_drop];omega
def JX(K:Q4):V->Option Int->Option Int->Hp->VK->Prop:=fun x lo hi H Q=>∃a xs,x=.ref a/\SqT K H a xs/\
 ¬(HT.sIx xs.length 0 lo=0/\HT.sIx xs.length xs.length hi=xs.length)/\∀p,H p=none->Q (.ref p) (upd H p (.tup (AX xs lo hi)))
theorem Ar:SlR X (JX X.K):=by
 intro pins s σ H x v vl vu lo hi sl Q I rx hs pl pu h;obtain⟨a,xs,rfl,hx,hw,q⟩:=h;cases rx;obtain⟨its,r,ht,hz⟩:=I.tuple hx;have hlen:its.toArray.size=xs.length:=by rw[QC];exact r.length.symm
 refine⟨"tuple",_,PyProof.Rows.slot_tuple_getitem.lookup,ht.typeIs,?_⟩;refine HT.getItem_tuple_cut ht hs pl pu (by rw[hlen];exact hw) ?_ (by rw[hlen];exact hz);rw[hlen];refine⟨.ref s.heap.objs.size,_,I.laid (t':=s.toks) (o:=.tup (AX xs lo hi)) (fun b ob q=>Q3 _ q) (QJ _) ?_,rfl,q _ (I.hok.fresh (QJ _))⟩;exact⟨Qc (kA xs lo hi) hz,_,(r.drop (HT.sIx xs.length 0 lo)).take (HT.sIx xs.length xs.length hi-HT.sIx xs.length 0 lo),IsTup.new _ _⟩
def HU(K:Q4):R2:=fun x y H Q=>∃a b xs ys,x=.ref a/\y=.ref b/\SqT K H a xs/\SqT K H b ys/\xs≠[]/\xs.length+ys.length<=sizeLine/\
 (ys=[]->Q (.ref a) H)/\(ys≠[]->∀p,H p=none->Q (.ref p) (upd H p (.tup (xs++ys))))
theorem a5.nil_iff{xs:List V}{us:List Value}(r:a5 xs us):us=[]↔xs=[]:=by
 cases r with
 |nil=>simp
 |cons _ _=>simp
theorem CQ:OpR X (binaryOp .Add) (HU X.K):=by
 intro pins s σ H x y v u Q I rx ry h;obtain⟨a,b,xs,ys,rfl,rfl,ha,hb,hx,hz,q1,q2⟩:=h;cases rx;cases ry;obtain⟨its,r1,p1,_⟩:=I.tuple ha;obtain⟨its2,r2,p2,_⟩:=I.tuple hb;refine HT.cat_tup p1 p2 (fun z=>hx (r1.nil_iff.mp z)) (fun z=>⟨.ref a,H,I,rfl,q1 (r2.nil_iff.mp z)⟩) (fun z=>?_) (by rw[<-r1.length,<-r2.length];exact hz);refine⟨.ref s.heap.objs.size,_,I.laid (t':=s.toks) (o:=.tup (xs++ys)) (fun b ob q=>Q3 _ q) (QJ _) ?_,rfl,q2 (fun w=>z (r2.nil_iff.mpr w)) _ (I.hok.fresh (QJ _))⟩;exact⟨by rw[QV];exact hz,_,r1.append r2,IsTup.new _ _⟩
end
def ixN(n:Nat)(i:Int):Option Nat:=if 0<=i then(if i<n then some i.toNat else none)else if -(n:Int)<=i then some (i+n).toNat else none
def atI{α:Type}(xs:List α)(i:Int):Option α:=(ixN xs.length i).bind fun j=>xs[j]?
theorem wg{n:Nat}{i:Int}{j:Nat}(h:ixN n i=some j):seqIndex? i n=some j/\j<n/\-(n:Int)<=i/\i<n:=by
 unfold ixN at h;by_cases h0:0<=i
 ·rw[if_pos h0]at h;by_cases h1:i<n
  ·rw[if_pos h1]at h;have e:i.toNat=j:=Option.some.inj h;exact⟨by rw[seqIndex_of h0 h1,e],by omega,by omega,h1⟩
  ·rw[if_neg h1]at h;cases h
 ·rw[if_neg h0]at h;by_cases h1:-(n:Int)<=i
  ·rw[if_pos h1]at h;have e:(i+n).toNat=j:=Option.some.inj h;exact⟨by rw[seqIndex_neg (by omega) h1,e],by omega,h1,by omega⟩
  ·rw[if_neg h1]at h;cases h
theorem xy{α:Type}{xs:List α}{i:Int}{v:α}(h:atI xs i=some v):∃j,seqIndex? i xs.length=some j/\xs[j]?=some v/\j<xs.length/\-(xs.length:Int)<=i/\i<xs.length:=by
 unfold atI at h;cases e:ixN xs.length i with
 |none=>rw[e]at h;cases h
 |some j=>
  rw[e]at h;obtain⟨h1,h2,h3,h4⟩:=wg e;exact⟨j,h1,h,h2,h3,h4⟩
theorem gC{α:Type}{xs:List α}{j:Nat}{v:α}(h:xs[j]?=some v):atI xs (j:Int)=some v:=by
 have hj:j<xs.length:=(Q7.mp h).1;have e:ixN xs.length (j:Int)=some j:=by
  unfold ixN;rw[if_pos (by omega),if_pos (by omega)];simp
 unfold atI;rw[e];exact h
def qq(b:Expr):Prop:=∀o i,subscripted b false o i=operate [o,i] (getItem o i)
def IxR(X:Cx)(r:R2):Prop:=
 ∀(value slice:Expr) (pins:List (Addr×Obj)) (s:Shared) (σ:St) (H:Hp) (x y:V) (v u:Value) (Q:VK),Inv X pins σ H s->bP x v->bP y u->r x y H Q->
  subscripted slice false v u=operate [v,u] (getItem v u)->wpAny (model X.prog X.w) X.A (subscriptTail value slice v u) (EP X pins σ Q) X.xe s
def MtR(X:Cx)(id:String)(r:V->List V->Hp->VK->Prop):Prop:=
 ∀(pins:List (Addr×Obj)) (s:Shared) (σ:St) (H:Hp) (x:V) (xs:List V) (v:Value) (us:List Value) (Q:VK),Inv X pins σ H s->bP x v->a5 xs us->r x xs H Q->
  wpAny (model X.prog X.w) X.A (call (.builtin id) (v::us)) (EP X pins σ Q) X.xe s
section
variable{X:Cx}{a b:Expr}{ta tb:TE}{pos:Pos}
theorem IxR.or{r r':R2}(h:IxR X r)(h':IxR X r'):IxR X (fun x y H Q=>r x y H Q\/r' x y H Q):=by
 intro value slice pins s σ H x y v u Q I rx ry q hs;rcases q with q|q
 ·exact h value slice pins s σ H x y v u Q I rx ry q hs
 ·exact h' value slice pins s σ H x y v u Q I rx ry q hs
theorem Ie{r:R2}(hr:IxR X r)(ha:PE X a ta)(hb:PE X b tb)(hs:qq b):PE X (.Subscript a b pos) (tOp r ta tb):=by
 intro pins s σ H Q I h;exact Subscript_ (I0 ha hb I h fun v u s2 x y H2 I2 rx ry q=>hr a b pins s2 σ H2 x y v u Q I2 rx ry q (hs _ _))
def J1(K:Q4):R2:=fun x y H Q=>∃p xs i v,x=.ref p/\y=.int i/\SqL K H p xs/\atI xs i=some v/\Q v H
def J0(K:Q4):R2:=fun x y H Q=>∃p xs i v,x=.ref p/\y=.int i/\SqT K H p xs/\atI xs i=some v/\Q v H
theorem C5:IxR X (J1 X.K):=by
 intro value slice pins s σ H x y v u Q I rx ry h hs;obtain⟨p,xs,i,z,rfl,rfl,hq,he,q⟩:=h;cases rx;obtain⟨t,rfl⟩:=ry;obtain⟨its,r,pl,hz⟩:=I.list hq;obtain⟨j,h1,h2,h3,h4,h5⟩:=xy he;obtain⟨w,ew,rw'⟩:=r.get h2;have hl:=r.length;have hn:=rz;have fin:EP X pins σ Q w s:=⟨z,H,I,rw',q⟩;by_cases h0:0<=i
 ·have hj:i.toNat=j:=by
   rw[seqIndex_of h0 h5]at h1;exact Option.some.inj h1
  exact item_listR pl.isList h0 (by omega) (by rw[hj];simpa using ew) fin hs
 ·have hj:(i+(its.toArray.size:Int)).toNat=j:=by
   rw[seqIndex_neg (by omega) h4]at h1;rw[QC,<-hl];exact Option.some.inj h1
  exact subscriptTail_builtinR (x:=w) pl.isList.typeIs slot_list_getitem.lookup
   (wpAny_getItem_list_neg (Q:=fun r s'=>r=w/\EP X pins σ Q r s') pl.isList (by omega) (by rw[QC]<;>omega) (by omega) (by rw[hj];simpa using ew) ⟨rfl,fin⟩) hs
theorem Gf:IxR X (J0 X.K):=by
 intro value slice pins s σ H x y v u Q I rx ry h hs;obtain⟨p,xs,i,z,rfl,rfl,hq,he,q⟩:=h;cases rx;obtain⟨t,rfl⟩:=ry;obtain⟨its,r,pl,hz⟩:=I.tuple hq;obtain⟨j,h1,h2,h3,h4,h5⟩:=xy he;obtain⟨w,ew,rw'⟩:=r.get h2;have hl:=r.length;have hn:=rz;have fin:EP X pins σ Q w s:=⟨z,H,I,rw',q⟩;exact subscriptTail_builtinR (x:=w) pl.typeIs slot_tuple_getitem.lookup
  (getItem_tuple (j:=j) (Q:=fun r s'=>r=w/\EP X pins σ Q r s') pl (by omega) (by omega) (by rw[QC,<-hl];exact h1) (by simpa using ew) ⟨rfl,fin⟩) hs
theorem sS(its:List Value)(n j:Nat)(u:Value):Obj.mapSeq (·.setIfInBounds j u) { cls:=.type "list",data:=.seq its.toArray n }={ cls:=.type "list",data:=.seq (its.set j u).toArray n }:=by
 simp[Obj.mapSeq]
theorem Inv.lst{pins:List (Addr×Obj)}{σ:St}{H:Hp}{s:Shared}{p:Addr}{xs:List V}(I:Inv X pins σ H s)(h:H p=some (.lst xs)) :
  ∃(its:List Value) (n:Nat),a5 xs its/\s.heap.get? p=some { cls:=.type "list",data:=.seq its.toArray n }/\xs.length<=sizeLine:=by
 obtain⟨z,its,n,r,e⟩:=I.hok p _ h;exact⟨its,n,r,e,z⟩
theorem Inv.lstUpd{pins:List (Addr×Obj)}{σ:St}{H:Hp}{s:Shared}{p:Addr}{xs ys:List V}{its its':List Value}{n n':Nat}{f:Obj->Obj}(I:Inv X pins σ H s)(h:H p=some (.lst xs))
  (ho:s.heap.get? p=some { cls:=.type "list",data:=.seq its.toArray n }) (hf:f { cls:=.type "list",data:=.seq its.toArray n }={ cls:=.type "list",data:=.seq its'.toArray n' }) (r:a5 ys its') (hz:ys.length<=sizeLine) (t:Nat) :
  Inv X pins σ (upd H p (.lst ys)) { s with heap:=s.heap.update p f,toks:=t }:=by
 have e:(s.heap.update p f).get? p=some { cls:=.type "list",data:=.seq its'.toArray n' }:=by
  rw[ZT f ho (by rw[hf]<;>rfl),hf]
 refine I.write (x:=p) (e:=p) (by rw[h];trivial) (.inl rfl) (fun b u hb q=>(Zv _ _ (Ne.symm hb)).trans q) ⟨_,e⟩ ?_;exact⟨hz,its',n',r,e⟩
def HN:V->V->V->Hp->(Hp->Prop)->Prop:=fun o i v H Q=>∃p xs k j,o=.ref p/\i=.int k/\H p=some (.lst xs)/\ixN xs.length k=some j/\Q (upd H p (.lst (xs.set j v)))
theorem mm:Je X HN:=by
 intro pins s σ H o i v ov iv u Q I ro ri rv h;obtain⟨p,xs,k,j,rfl,rfl,hp,hj,q⟩:=h;cases ro;obtain⟨t,rfl⟩:=ri;obtain⟨its,n,r,ho,hz⟩:=I.lst hp;obtain⟨h1,h2,h3,h4⟩:=wg hj;have hl:=r.length;have hn:=rz;have I':Inv X pins σ (upd H p (.lst (xs.set j v))) { s with heap:=s.heap.update p (Obj.mapSeq (·.setIfInBounds j u)) }:=
  I.lstUpd hp ho (sS its n j u) (r.set rv j) (by rw[Zc];exact hz) s.toks
 by_cases h0:0<=k
 ·have hk:k.toNat=j:=by
   rw[seqIndex_of h0 h4]at h1;exact Option.some.inj h1
  exact PySem.W.ki_setAt ho h0 (by omega) (by rw[QC,<-hl];exact h4) (by rw[hk];exact⟨_,I',q⟩)
 ·have hk:(k+(its.toArray.size:Int)).toNat=j:=by
   rw[seqIndex_neg (by omega) h3]at h1;rw[QC,<-hl];exact Option.some.inj h1
  exact PySem.W.ki_setBack ho (by omega) (by rw[QC,<-hl];exact h3) (by omega) (by rw[hk];exact⟨_,I',q⟩)
theorem nL(lo hi:Option Int)(n:Nat):(sliceBounds lo hi none n).1=((HT.sIx n 0 lo:Nat):Int)/\(sliceBounds lo hi none n).2.1=((HT.sIx n n hi:Nat):Int)/\(sliceBounds lo hi none n).2.2=1:=by
 refine⟨?_,?_,rfl⟩
 ·cases lo with
  |none=>simp[sliceBounds,HT.sIx]
  |some i=>
   simp only[sliceBounds,HT.sIx,Option.getD_none,show(1:Int)>0 by decide,if_true];by_cases h:i<0
   ·simp only[h,if_true]<;>omega
   ·simp only[h,if_false]<;>omega
 ·cases hi with
  |none=>simp[sliceBounds,HT.sIx]
  |some i=>
   simp only[sliceBounds,HT.sIx,Option.getD_none,show(1:Int)>0 by decide,if_true];by_cases h:i<0
   ·simp only[h,if_true]<;>omega
   ·simp only[h,if_false]<;>omega
theorem mj(its:List Value)(lo hi:Option Int):slicePick its.toArray lo hi none=((its.drop (HT.sIx its.length 0 lo)).take (HT.sIx its.length its.length hi-HT.sIx its.length 0 lo)).toArray:=by
 obtain⟨h1,h2,h3⟩:=nL lo hi its.toArray.size;unfold slicePick;rw[h1,h2,h3];simp only[sliceRange_one,pick_run,QC]<;>rfl
def JY(K:Q4):V->Option Int->Option Int->Hp->VK->Prop:=fun x lo hi H Q=>∃a xs,x=.ref a/\SqL K H a xs/\∀p,H p=none->Q (.ref p) (upd H p (.lst (AX xs lo hi)))
theorem uN:SlR X (JY X.K):=by
 intro pins s σ H x v vl vu lo hi sl Q I rx hs pl pu h;obtain⟨a,xs,rfl,hx,q⟩:=h;cases rx;obtain⟨its,r,ht,hz⟩:=I.list hx;have hlen:=r.length;refine⟨"list",_,slot_list_getitem.lookup,ht.isList.typeIs,?_⟩;refine wpAny_getItem_list_slice ht.isList hs pl pu .none (by simp) ?_ (by rw[QC]<;>omega);rw[mj,<-hlen];refine⟨.ref s.heap.objs.size,_,I.laid (t':=s.toks) (o:=.lst (AX xs lo hi)) (fun b ob q=>Q3 _ q) (QJ _) ?_,rfl,q _ (I.hok.fresh (QJ _))⟩;exact⟨Qc (kA xs lo hi) hz,_,0,(r.drop (HT.sIx xs.length 0 lo)).take (HT.sIx xs.length xs.length hi-HT.sIx xs.length 0 lo),QY _ rfl⟩
def kO:V->Bool
 |.non=>true
 |.bl _=>true
 |.int _=>true
 |.str _=>true
 |_=>false
def eqV:V->V->Bool
 |.non,.non=>true
 |.bl a,.bl b=>a == b
 |.bl a,.int b=>(if a then 1 else 0) == b
 |.int a,.bl b=>a == (if b then 1 else 0)
 |.int a,.int b=>a == b
 |.str a,.str b=>a == b
 |_,_=>false
theorem Gz{A:Around}{s:Shared}{y x:V}{u v:Value}(ry:bP y u)(rx:bP x v)(fy:kO y=true)(fx:kO x=true):SeqAt.EqAt A s u v (eqV y x):=by
 cases y with
 |non=>
  cases ry;cases x with
  |non=>cases rx;exact SeqAt.EqAt.same _
  |bl b=>cases rx;exact SeqAt.EqAt.none_bool b
  |int b=>obtain⟨t,rfl⟩:=rx;exact SeqAt.EqAt.none_int b t
  |str b=>obtain⟨t,rfl⟩:=rx;exact SeqAt.EqAt.none_str b t
  |_=>exact absurd (show false=true from fx) QM
 |bl a=>
  cases ry;cases x with
  |non=>cases rx;exact SeqAt.EqAt.bool_none a
  |bl b=>cases rx;exact SeqAt.EqAt.bool_bool a b
  |int b=>obtain⟨t,rfl⟩:=rx;exact SeqAt.EqAt.bool_int a b t
  |str b=>obtain⟨t,rfl⟩:=rx;exact SeqAt.EqAt.bool_str a b t
  |_=>exact absurd (show false=true from fx) QM
 |int a=>
  obtain⟨t',rfl⟩:=ry;cases x with
  |non=>cases rx;exact SeqAt.EqAt.int_none a t'
  |bl b=>cases rx;exact SeqAt.EqAt.int_bool a t' b
  |int b=>obtain⟨t,rfl⟩:=rx;exact SeqAt.EqAt.int_int a t' b t
  |str b=>obtain⟨t,rfl⟩:=rx;exact SeqAt.EqAt.int_str a t' b t
  |_=>exact absurd (show false=true from fx) QM
 |str a=>
  obtain⟨t',rfl⟩:=ry;cases x with
  |non=>cases rx;exact SeqAt.EqAt.str_none a t'
  |bl b=>cases rx;exact SeqAt.EqAt.str_bool a t' b
  |int b=>obtain⟨t,rfl⟩:=rx;exact SeqAt.EqAt.str_int a t' b t
  |str b=>obtain⟨t,rfl⟩:=rx;exact SeqAt.EqAt.str_str a t' b t
  |_=>exact absurd (show false=true from fx) QM
 |_=>exact absurd (show false=true from fy) QM
def eqU(x:V)(u:Value):Bool:=match u with
 |.none=>eqV .non x
 |.bool b=>eqV (.bl b) x
 |.int i _=>eqV (.int i) x
 |.str z _=>eqV (.str z) x
 |_=>false
theorem AU{x y:V}{u:Value}(r:bP y u)(f:kO y=true):eqU x u=eqV y x:=by
 cases y with
 |non=>cases r;rfl
 |bl b=>cases r;rfl
 |int i=>obtain⟨t,rfl⟩:=r;rfl
 |str z=>obtain⟨t,rfl⟩:=r;rfl
 |_=>exact absurd (show false=true from f) QM
theorem kG{x:V}:∀{xs:List V} {us:List Value},a5 xs us->xs.all kO=true->us.any (eqU x)=xs.any fun y=>eqV y x
 |_,_,.nil,_=>rfl
 |y::xs,u::us,.cons r t,f=>by
  rw[Zo,ZI]at f;rw[Zi,Zi,AU r f.1,kG t f.2]
theorem hU{A:Around}{s:Shared}{x:V}{v:Value}(rx:bP x v)(fx:kO x=true):∀{xs:List V} {us:List Value},a5 xs us->xs.all kO=true->∀u∈us,SeqAt.EqAt A s u v (eqU x u)
 |_,_,.nil,_=>fun u hu=>by cases hu
 |y::xs,u::us,.cons r t,f=>fun u' hu=>by
  rw[Zo,ZI]at f;rcases QH.mp hu with rfl|hu
  ·rw[AU r f.1];exact Gz r rx f.1 fx
  ·exact hU rx fx t f.2 u' hu
def inV(x:V)(xs:List V):Bool:=xs.any fun y=>eqV y x
def rIn(K:Q4)(neg:Bool):R2:=fun x y H Q=>∃p xs,y=.ref p/\(SqL K H p xs\/SqT K H p xs)/\kO x=true/\xs.all kO=true/\Q (.bl (if neg then !inV x xs else inV x xs)) H
theorem n6:OpR X (compareOp .In) (rIn X.K false):=by
 intro pins s σ H x y v u Q I rx ry h;obtain⟨p,xs,rfl,hq,fx,fs,q⟩:=h;cases ry;rcases hq with hq|hq
 ·obtain⟨its,r,pl,hz⟩:=I.list hq;refine SeqAt.in_listAt (eqU x) pl.isList (fun w hw=>hU rx fx r fs w (by simpa using hw)) ⟨.bl _,H,I,rfl,?_⟩;rw[show its.toArray.any (eqU x)=its.any (eqU x)by simp,kG r fs];exact q
 ·obtain⟨its,r,pl,hz⟩:=I.tuple hq;refine SeqAt.in_tupleAt (eqU x) pl (fun w hw=>hU rx fx r fs w (by simpa using hw)) ⟨.bl _,H,I,rfl,?_⟩;rw[show its.toArray.any (eqU x)=its.any (eqU x)by simp,kG r fs];exact q
theorem nY:OpR X (compareOp .NotIn) (rIn X.K true):=by
 intro pins s σ H x y v u Q I rx ry h;obtain⟨p,xs,rfl,hq,fx,fs,q⟩:=h;cases ry;rcases hq with hq|hq
 ·obtain⟨its,r,pl,hz⟩:=I.list hq;refine SeqAt.notIn_listAt (eqU x) pl.isList (fun w hw=>hU rx fx r fs w (by simpa using hw)) ⟨.bl _,H,I,rfl,?_⟩;rw[show its.toArray.any (eqU x)=its.any (eqU x)by simp,kG r fs];exact q
 ·obtain⟨its,r,pl,hz⟩:=I.tuple hq;refine SeqAt.notIn_tupleAt (eqU x) pl (fun w hw=>hU rx fx r fs w (by simpa using hw)) ⟨.bl _,H,I,rfl,?_⟩;rw[show its.toArray.any (eqU x)=its.any (eqU x)by simp,kG r fs];exact q
theorem oP:bX X (.builtin "len") (fun xs H Q=>∃p ys,xs=[.ref p]/\(SqL X.K H p ys\/SqT X.K H p ys)/\Q (.int ys.length) H):=by
 intro pins s σ H xs us Q I r h;obtain⟨p,ys,rfl,hq,q⟩:=h;obtain⟨u,rfl,rx⟩:=fP r;cases rx;have hn:=rz;rcases hq with hq|hq
 ·obtain⟨its,r',pl,hz⟩:=I.list hq;have hlen:=r'.length;exact Calls.call_len_list pl.isList (by simp only[QC]<;>omega) ⟨.int ys.length,H,I.tok _,⟨s.toks+1,by rw[QC,hlen]⟩,q⟩
 ·obtain⟨its,r',pl,hz⟩:=I.tuple hq;have hlen:=r'.length;exact len_tuple pl (by simp only[QC]<;>omega) ⟨.int ys.length,H,I.tok _,⟨s.toks+1,by rw[QC,hlen]⟩,q⟩
theorem bX.or{f:Value}{r r':List V->Hp->VK->Prop}(h:bX X f r)(h':bX X f r'):bX X f (fun xs H Q=>r xs H Q\/r' xs H Q):=by
 intro pins s σ H xs us Q I rs q;rcases q with q|q
 ·exact h pins s σ H xs us Q I rs q
 ·exact h' pins s σ H xs us Q I rs q
theorem cG:bX X (.type "list") (fun xs H Q=>∃p ys,xs=[.ref p]/\(SqL X.K H p ys\/SqT X.K H p ys)/\∀l,H l=none->Q (.ref l) (upd H l (.lst ys))):=by
 intro pins s σ H xs us Q I r h;obtain⟨p,ys,rfl,hq,q⟩:=h;obtain⟨u,rfl,rx⟩:=fP r;cases rx;have fin:∀(its:List Value),a5 ys its->ys.length<=sizeLine->∀(h':Heap) (c':Nat),(∀b o',s.heap.get? b=some o'->h'.get? b=some o')->
   h'.get? s.heap.objs.size=some { cls:=.type "list",dict:=none,data:=.seq its.toArray c',slots:=#[] }->EP X pins σ Q (.ref s.heap.objs.size) { s with heap:=h' }:=fun its r' hz h' c' kp e=>
  ⟨.ref s.heap.objs.size,_,I.laid (t':=s.toks) kp (QJ _) (show bx X.prog X.w _ h' _ (.lst ys)from⟨hz,its,c',r',e⟩),rfl,q _ (I.hok.fresh (QJ _))⟩
 rcases hq with hq|hq
 ·obtain⟨its,r',pl,hz⟩:=I.list hq;have hlen:=r'.length;obtain⟨o,ho,hc,n,hd⟩:=pl.isList;exact call_list_seq p (.inl rfl) ho hc hd (fun h' c' kp e=>fin its r' hz h' c' kp e) (by simp only[QC]<;>omega)
 ·obtain⟨its,r',pl,hz⟩:=I.tuple hq;have hlen:=r'.length;obtain⟨o,ho,hc,n,hd⟩:=pl;exact call_list_seq p (.inr rfl) ho hc hd (fun h' c' kp e=>fin its r' hz h' c' kp e) (by simp only[QC]<;>omega)
theorem cT:bX X (.type "tuple") (fun xs H Q=>∃p ys,xs=[.ref p]/\((SqL X.K H p ys/\∀l,H l=none->Q (.ref l) (upd H l (.tup ys)))\/(SqT X.K H p ys/\Q (.ref p) H))):=by
 intro pins s σ H xs us Q I r h;obtain⟨p,ys,rfl,h⟩:=h;obtain⟨u,rfl,rx⟩:=fP r;cases rx;rcases h with⟨hq,q⟩|⟨hq,q⟩
 ·obtain⟨its,r',pl,hz⟩:=I.list hq;have hlen:=r'.length;refine call_tuple_list pl.isList (fun h' kp=>?_) (by simp only[QC]<;>omega);have I1:Inv X pins σ H { s with heap:=h' }:=I.kept (t':=s.toks) kp;have I2:Inv X pins σ (upd H h'.objs.size (.tup ys)) { s with heap:=h'.push { cls:=.type "tuple",data:=.seq its.toArray } }:=
   I1.laid (t':=s.toks) (fun b o e=>Q3 _ e) (QJ _) (show bx X.prog X.w _ _ _ (.tup ys)from⟨hz,its,r',IsTup.new _ _⟩)
  exact⟨.ref h'.objs.size,_,I2,rfl,q _ (I1.hok.fresh (QJ _))⟩
 ·obtain⟨its,r',pl,hz⟩:=I.tuple hq;exact call_tuple_same pl ⟨.ref p,H,I,rfl,q⟩
def tyV(K:Q4)(T:String)(x:V)(H:Hp):Prop:=match x with
 |.str _=>T="str"
 |.int _=>T="int"
 | .ref p=>(T="list"/\∃xs,SqL K H p xs)\/(T="tuple"/\∃o,K.lookup p=some o/\o.cls=.type "tuple"/\o.dict=none)\/
   (T="dict"/\((∃kvs,H p=some (.dK kvs))\/∃kvs,H p=some (.dT kvs)))\/(T="set"/\∃S n,H p=some (.set S n))
 |_=>False
theorem EK{pins:List (Addr×Obj)}{σ:St}{H:Hp}{s:Shared}{T:String}{x:V}{v:Value}(I:Inv X pins σ H s)(r:bP x v)(ty:tyV X.K T x H) :
  s.TypeIs v T/\∀a,v=.ref a->∃ob,s.heap.get? a=some ob/\ob.dict=none:=by
 cases x with
 |str z=>
  obtain⟨t,rfl⟩:=r;cases (show T="str" from ty);exact⟨typeIs_str s z t,fun _ e=>nomatch e⟩
 |int i=>
  obtain⟨t,rfl⟩:=r;cases (show T="int" from ty);exact⟨typeIs_int s i t,fun _ e=>nomatch e⟩
 |ref p=>
  cases r;rcases ty with⟨rfl,xs,hq⟩|⟨rfl,o,hk,hc,hd⟩|⟨rfl,hk⟩|⟨rfl,S,n,hk⟩
  ·obtain⟨its,_,pl,_⟩:=I.list hq;refine⟨pl.isList.typeIs,fun a e=>?_⟩;cases e;obtain⟨o,n,e,c,hd,_⟩:=pl;exact⟨o,e,hd⟩
  ·refine⟨⟨o,I.kIn p o hk,hc⟩,fun a e=>?_⟩;cases e;exact⟨o,I.kIn _ o hk,hd⟩
  ·have z:∃o,s.heap.get? p=some o/\o.ExactDict:=by
    rcases hk with⟨kvs,hk⟩|⟨kvs,hk⟩
    ·obtain⟨_,_,_,_,o,_,_,e,ex,_⟩:=I.hok p _ hk;exact⟨o,e,ex⟩
    ·obtain⟨_,_,_,_,o,_,_,e,ex,_⟩:=I.hok p _ hk;exact⟨o,e,ex⟩
   obtain⟨o,e,ex⟩:=z;refine⟨⟨o,e,ex.1⟩,fun a e2=>?_⟩;cases e2;exact⟨o,e,ex.2.1⟩
  ·obtain⟨o,_,_,_,e,ex,_⟩:=I.hok p _ hk;refine⟨⟨o,e,ex.1⟩,fun a e2=>?_⟩;cases e2;exact⟨o,e,ex.2.1⟩
 |_=>exact False.elim ty
def tBM(K:Q4)(T:String)(r:V->List V->Hp->VK->Prop)(to:TE)(t:TA):TE:=fun σ H Q=>to σ H fun x H1=>tyV K T x H1/\t σ H1 fun xs H2=>r x xs H2 Q
variable{o e:Expr}{es:List Expr}{to:TE}{t:TA}{name:Str}{apos cpos:Pos}{T id:String}{r:V->List V->Hp->VK->Prop}
theorem Ig(pa:PlainAttrs T)(slot:Slot T name id)(hty:typeOf (.builtin id)=pure (.type "method_descriptor"))(hm:MtR X id r)(ho:PE X o to)(ha:PA X (e::es) t)
  (hbase:attributeBase o name X.env (eval o X.env)=eval o X.env:=by rfl)
  (hfew:((backTo cpos (starEach (e::es) X.env)).all (fun x=>!x.1)&&(backToKw cpos (keywordEach [] X.env)).all (fun x=>x.1.isSome)
   && decide ((e::es).length+([]:List Keyword).length+(if ([]:List Keyword).isEmpty then 0 else 1)<30))=true:=by rfl)
  (hline:(apos.endLine == cpos.line)=true:=by rfl) (hs:starEach (e::es) X.env=(false,eval e X.env)::starEach es X.env:=by rfl) (hplain:(backTo cpos (starEach es X.env)).any (·.1)=false:=by rfl) :
  PE X (.Call (.Attribute o name apos) (e::es) [] cpos) (tBM X.K T r to t):=by
 intro pins s σ H Q I h;refine wpAny_Call_method_late hbase hfew hline rfl (thn (ho pins s σ H _ I h) fun v s1 hz=>?_);obtain⟨x,H1,I1,r1,ty,q1⟩:=hz;obtain⟨h1,h2⟩:=EK I1 r1 ty;refine⟨T,id,pa,slot,hty,h1,h2,?_⟩;have hA:=ha cpos pins s1 σ H1 _ I1 q1;rw[hs]at hA ⊢;refine Calls.callWith_builtin (by show(false||(backTo cpos (starEach es X.env)).any (·.1))=false;rw[hplain]<;>rfl) (Calls.evalArgs_plain ?_);exact thn hA fun us s2 ⟨vs,H2,I2,r2,q2⟩=>hm pins s2 σ H2 x vs v us Q I2 r1 r2 q2
end
def MtM(X:Cx)(id:String)(r:V->List V->Hp->VK->Prop):Prop:=
 ∀(pins:List (Addr×Obj)) (s:Shared) (σ:St) (H:Hp) (x:V) (xs:List V) (v:Value) (us:List Value) (Q:VK),Inv X pins σ H s->bP x v->a5 xs us->r x xs H Q->
  wpAny (model X.prog X.w) X.A (call (.builtin id) (v::us)) (EP X pins σ Q) X.xe s
theorem a5.one:∀{x:V} {us:List Value},a5 [x] us->∃u,us=[u]/\bP x u
 |_,_,.cons r .nil=>⟨_,rfl,r⟩
theorem a5.eraseIdx:∀{xs:List V} {us:List Value} (i:Nat),a5 xs us->a5 (xs.eraseIdx i) (us.eraseIdx i)
 |_,_,_,.nil=>.nil
 |_,_,0,.cons _ t=>t
 |_,_,i+1,.cons r t=>.cons r (a5.eraseIdx i t)
theorem og{α:Type}:∀(l:List α) (i:Nat),(l.eraseIdx i).length<=l.length
 |[],_=>QJ _
 |_::_,0=>X7 _
 |_::r,i+1=>Nat.succ_le_succ (og r i)
section
variable{X:Cx}{pins:List (Addr×Obj)}{σ:St}{H:Hp}{s:Shared}{l:Addr}{xs ys:List V}
theorem Inv.lset{its its':List Value}{n:Nat}{f:Array Value->Array Value}{t':Nat}(I:Inv X pins σ H s)(hH:H l=some (.lst xs))
  (e:s.heap.get? l=some { cls:=.type "list",data:=.seq its.toArray n }) (hf:f its.toArray=its'.toArray) (hv:a5 ys its') (hz:ys.length<=sizeLine) :
  Inv X pins σ (upd H l (.lst ys)) { s with heap:=s.heap.update l (Obj.mapSeq f),toks:=t' }:=by
 have q:=PySem.IsL.update e f;rw[hf]at q;refine I.write (x:=l) (e:=l) (by rw[hH];exact trivial) (.inl rfl) (fun b' u hb hu=>(Zv s.heap (Obj.mapSeq f) (Ne.symm hb)).trans hu) ⟨_,q⟩ ?_;exact⟨hz,its',_,hv,q⟩
theorem Inv.lnew{its:List Value}{t':Nat}(I:Inv X pins σ H s)(hv:a5 ys its)(hz:ys.length<=sizeLine) :
  Inv X pins σ (upd H s.heap.objs.size (.lst ys)) { s with heap:=s.heap.push { cls:=.type "list",data:=.seq its.toArray },toks:=t' }:=
 I.laid (fun _ _ q=>Q3 _ q) (QJ _) ⟨hz,its,0,hv,QY _ rfl⟩
theorem Inv.fresh(I:Inv X pins σ H s):H s.heap.objs.size=none:=I.hok.fresh (QJ _)
theorem Inv.lstM(I:Inv X pins σ H s)(hH:H l=some (.lst xs)):xs.length<=sizeLine/\∃(its:List Value) (n:Nat),a5 xs its/\xs.length=its.length/\s.heap.get? l=some { cls:=.type "list",data:=.seq its.toArray n }:=by
 obtain⟨z,its,n,r,e⟩:=I.hok l _ hH;exact⟨z,its,n,r,r.length,e⟩
theorem zg{n:Nat}(h:n<=sizeLine):Builtin.List.listTooLong n=false:=by
 unfold Builtin.List.listTooLong;exact decide_eq_false (by omega)
end
section
variable{X:Cx}
def vc:V->List V->Hp->VK->Prop:=fun x vs H Q=>∃l xs y,x=.ref l/\vs=[y]/\H l=some (.lst xs)/\xs.length<sizeLine/\Q .non (upd H l (.lst (xs++[y])))
theorem jT:MtM X "list.append" vc:=by
 intro pins s σ H x vs v us Q I rx rv h;obtain⟨l,xs,y,rfl,rfl,hH,hz,q⟩:=h;cases rx;obtain⟨u,rfl,ru⟩:=rv.one;obtain⟨z,its,n,r,hl,e⟩:=I.lstM hH;refine call_meets F.slot_list_append ⟨_,e,rfl⟩ F.entry_list_append (F.args_list_append_2 _ _) (PySem.list_append l its.toArray n u (by rw[QC];omega)) ⟨e,?_⟩;refine⟨.non,_,I.lset (its':=its++[u]) hH e (by simp) (r.append (.cons ru .nil)) ?_,rfl,q⟩;rw[QV,Qs];omega
def vb:V->List V->Hp->VK->Prop:=fun x vs H Q=>∃l b xs zs,x=.ref l/\vs=[.ref b]/\H l=some (.lst xs)/\H b=some (.lst zs)/\xs.length+zs.length<=sizeLine/\Q .non (upd H l (.lst (xs++zs)))
theorem vM:MtM X "list.extend" vb:=by
 intro pins s σ H x vs v us Q I rx rv h;obtain⟨l,b,xs,zs,rfl,rfl,hH,hB,hz,q⟩:=h;cases rx;obtain⟨u,rfl,ru⟩:=rv.one;cases ru;obtain⟨z,its,n,r,hl,e⟩:=I.lstM hH;obtain⟨z2,its2,n2,r2,hl2,e2⟩:=I.lstM hB;have hsz:its.toArray.size+its2.toArray.size<=sizeLine:=by rw[QC,QC];omega
 have hlong:¬(!its.toArray.isEmpty&&Builtin.List.listTooLong (its.toArray.size+its2.toArray.size))=true:=by
  rw[zg hsz,Bool.and_false];exact QM
 refine call_meets F.slot_list_extend ⟨_,e,rfl⟩ F.entry_list_extend (F.args_list_extend_2 _ _)
  (AutoSeq1.list_extend_list_list_0 l its.toArray n b its2.toArray n2 hlong (by rw[QC];omega) (by omega)) ⟨e,e2,?_⟩
 refine⟨.non,_,I.lset (its':=its++its2) hH e (by simp) (r.append r2) ?_,rfl,q⟩;rw[QV];omega
def Aw:V->List V->Hp->VK->Prop:=fun x vs H Q=>∃l xs i k y,x=.ref l/\vs=[.int i]/\H l=some (.lst xs)/\-(2^63)<=i/\i<2^63/\seqIndex? i xs.length=some k/\xs[k]?=some y/\Q y (upd H l (.lst (xs.eraseIdx k)))
theorem zh:MtM X "list.pop" Aw:=by
 intro pins s σ H x vs v us Q I rx rv h;obtain⟨l,xs,i,k,y,rfl,rfl,hH,h1,h2,hk,hy,q⟩:=h;cases rx;obtain⟨u,rfl,ru⟩:=rv.one;obtain⟨t,rfl⟩:=ru;obtain⟨z,its,n,r,hl,e⟩:=I.lstM hH;obtain⟨w,hw,rw'⟩:=r.get hy;refine call_meets F.slot_list_pop ⟨_,e,rfl⟩ F.entry_list_pop (F.args_list_pop_2 _ _)
  (MeetsSeq.list_pop_at l its.toArray n i t k w (fitsIndex_both h1 h2) (by rw[QC,<-hl];exact hk) (by rw[<-Qk];exact hw) (by rw[QC];omega)) ⟨e,?_⟩
 refine⟨y,_,I.lset (its':=its.eraseIdx k) hH e ?_ (r.eraseIdx k) ?_,rw',q⟩
 ·show its.toArray.eraseIdxIfInBounds k=(its.eraseIdx k).toArray;rw[List.eraseIdxIfInBounds_toArray]
 ·have:=og xs k;omega
def GS:R2:=fun x y H Q=>∃l b xs zs,x=.ref l/\y=.ref b/\H l=some (.lst xs)/\H b=some (.lst zs)/\xs.length+zs.length<=sizeLine/\∀p,H p=none->Q (.ref p) (upd H p (.lst (xs++zs)))
theorem FP:OpR X (binaryOp .Add) GS:=by
 intro pins s σ H x y v u Q I rx ry h;obtain⟨l,b,xs,zs,rfl,rfl,hH,hB,hz,q⟩:=h;cases rx;cases ry;obtain⟨z,its,n,r,hl,e⟩:=I.lstM hH;obtain⟨z2,its2,n2,r2,hl2,e2⟩:=I.lstM hB;refine PySem.P.add_list e e2 ?_ (by rw[QC,QC];omega);have ea:its.toArray++its2.toArray=(its++its2).toArray:=by simp
 rw[ea];exact⟨.ref _,_,I.lnew (t':=s.toks) (r.append r2) (by rw[QV];omega),rfl,q _ I.fresh⟩
end
section
variable{κ:Type}[DecidableEq κ]
def kK(kvs:List (κ×V))(k:κ):Option V:=(kvs.find? fun kv=>decide (kv.1=k)).map (·.2)
def o8(kvs:List (κ×V))(k:κ)(v:V):List (κ×V):=
 if (kvs.any fun kv=>decide (kv.1=k))=true then kvs.map (fun kv=>if kv.1=k then(kv.1,v)else kv)else kvs++[(k,v)]
theorem l0{p:κ×V}{r:List (κ×V)}{k:κ}(e:p.1=k):kK (p::r) k=some p.2:=by simp[kK,Zy,e]
theorem ma{p:κ×V}{r:List (κ×V)}{k:κ}(e:¬p.1=k):kK (p::r) k=kK r k:=by simp[kK,Zy,e]
theorem qF(k:κ):∀kvs:List (κ×V),(kvs.any fun kv=>decide (kv.1=k))=(kK kvs k).isSome
 |[]=>rfl
 |p::r=>by
  rw[Zi];by_cases e:p.1=k
  ·simp only[l0 e,decide_eq_true e,Bool.true_or,Option.isSome_some]
  ·rw[ma e,decide_eq_false e,Bool.false_or];exact qF k r
theorem jW(kvs:List (κ×V))(k:κ)(v:V):(o8 kvs k v).length<=kvs.length+1:=by
 unfold o8;split
 ·rw[Q9];omega
 ·rw[QV,QB,List.length_nil];omega
theorem tQ.isSome_eq{o:Option V}{u:Option Value}(r:tQ o u):o.isSome=u.isSome:=by
 cases o with
 |none=>cases u with
  |none=>rfl
  |some _=>exact(show False from r).elim
 |some _=>cases u with
  |none=>exact(show False from r).elim
  |some _=>rfl
theorem KV.val{kvs:List (κ×V)}{vs:List (κ×Value)}(r:KV kvs vs)(k:κ):tQ (kK kvs k) (valueAt vs k):=by
 unfold KV at r;induction r with
 |nil=>exact True.intro
 |@cons p q ps qs h t ih=>
  obtain⟨h1,h2⟩:=h;by_cases e:p.1=k
  ·have e':q.1=k:=h1.symm.trans e;have b:valueAt (q::qs) k=some q.2:=by simp[valueAt,Zy,e']
   rw[l0 e,b];exact h2
  ·have e':¬q.1=k:=fun z=>e (h1.trans z);have b:valueAt (q::qs) k=valueAt qs k:=by simp[valueAt,Zy,e']
   rw[ma e,b];exact ih
theorem KV.any{kvs:List (κ×V)}{vs:List (κ×Value)}(r:KV kvs vs)(k:κ):(kvs.any fun kv=>decide (kv.1=k))=vs.any fun kv=>decide (kv.1=k):=by
 unfold KV at r;induction r with
 |nil=>rfl
 |cons h t ih=>rw[Zi,Zi,ih,h.1]
theorem KV.repl{kvs:List (κ×V)}{vs:List (κ×Value)}(r:KV kvs vs)(k:κ){y:V}{u:Value}(ry:bP y u) :
  KV (kvs.map fun kv=>if kv.1=k then(kv.1,y)else kv) (vs.map fun kv=>if kv.1=k then(kv.1,u)else kv):=by
 unfold KV at r ⊢;induction r with
 |nil=>exact .nil
 |@cons p q ps qs h t ih=>
  rw[QF,QF];refine .cons ?_ ih;obtain⟨h1,h2⟩:=h;by_cases e:p.1=k
  ·rw[if_pos e,if_pos (h1.symm.trans e)];exact⟨h1,ry⟩
  ·rw[if_neg e,if_neg (fun z=>e (h1.trans z))];exact⟨h1,h2⟩
theorem KV.put{kvs:List (κ×V)}{vs:List (κ×Value)}(r:KV kvs vs)(k:κ){y:V}{u:Value}(ry:bP y u):KV (o8 kvs k y) (stored vs k u):=by
 unfold o8 stored;rw[r.any k];by_cases e:(vs.any fun kv=>decide (kv.1=k))=true
 ·rw[if_pos e,if_pos e];exact r.repl k ry
 ·rw[if_neg e,if_neg e];exact Paired.snoc r ⟨rfl,ry⟩
theorem KV.length{kvs:List (κ×V)}{vs:List (κ×Value)}(r:KV kvs vs):kvs.length=vs.length:=Paired.length r
end
theorem wc{P:Program}{w:World}{k:Key}{u:Value}(r:bP (kV k) u):(bw P w).is k u=true:=by
 cases k with
 |inl i=>obtain⟨t,e⟩:=(show ∃t,u=Value.int i t from r);subst e;exact pQ P w i t
 |inr x=>obtain⟨t,e⟩:=(show ∃t,u=Value.str x t from r);subst e;exact pO P w x t
theorem jZ{P:Program}{w:World}:∀{ks:List Key} {us:List Value},a5 (ks.map kV) us->ItemsAre (bw P w) ks us
 |[],_,r=>by rw[Zj]at r;cases r;exact .nil
 |k::ks,_,r=>by
  rw[QF]at r;cases r with
  |cons h t=>exact .cons (wc h) (jZ t)
abbrev KT(H:Hp):List (List Key×V)->List (List Key×Addr×Value)->Prop:=Paired fun p q=>p.1=q.1/\H q.2.1=some (.tup (p.1.map kV))/\bP p.2 q.2.2
theorem KT.val{H:Hp}{kvs:List (List Key×V)}{xs:List (List Key×Addr×Value)}(r:KT H kvs xs)(k:List Key):tQ (kK kvs k) ((atKey xs k).map (·.2)):=by
 induction r with
 |nil=>exact True.intro
 |@cons p q ps qs h t ih=>
  obtain⟨h1,_,h2⟩:=h;by_cases e:p.1=k
  ·have e':q.1=k:=h1.symm.trans e;have b:atKey (q::qs) k=some q.2:=by simp[atKey,Zy,e']
   rw[l0 e,b];exact h2
  ·have e':¬q.1=k:=fun z=>e (h1.trans z);have b:atKey (q::qs) k=atKey qs k:=by simp[atKey,Zy,e']
   rw[ma e,b];exact ih
theorem KT.repl{H:Hp}{kvs:List (List Key×V)}{xs:List (List Key×Addr×Value)}(r:KT H kvs xs)(k:List Key){y:V}{u:Value}(ry:bP y u) :
  KT H (kvs.map fun kv=>if kv.1=k then(kv.1,y)else kv) (xs.map (putAt k u)):=by
 induction r with
 |nil=>exact .nil
 |@cons p q ps qs h t ih=>
  rw[QF,QF];refine .cons ?_ ih;obtain⟨h1,h2,h3⟩:=h;unfold putAt;by_cases e:p.1=k
  ·rw[if_pos e,if_pos (h1.symm.trans e)];exact⟨h1,h2,ry⟩
  ·rw[if_neg e,if_neg (fun z=>e (h1.trans z))];exact⟨h1,h2,h3⟩
theorem KT.put{H:Hp}{kvs:List (List Key×V)}{xs:List (List Key×Addr×Value)}(r:KT H kvs xs)(k:List Key){b:Addr}{y:V}{u:Value}(hb:H b=some (.tup (k.map kV)))(ry:bP y u) :
  KT H (o8 kvs k y) (storedH xs k b u):=by
 have e:(kvs.any fun kv=>decide (kv.1=k))=(atKey xs k).isSome:=by
  rw[qF,(r.val k).isSome_eq,Option.isSome_map]
 unfold o8 storedH;rw[e];by_cases q:(atKey xs k).isSome=true
 ·rw[if_pos q,if_pos q];exact r.repl k ry
 ·rw[if_neg q,if_neg q];exact Paired.snoc r ⟨rfl,hb,ry⟩
theorem KT.keeps{H H':Hp}{kvs:List (List Key×V)}{xs:List (List Key×Addr×Value)}(r:KT H kvs xs)(ht:∀b ys,H b=some (.tup ys)->H' b=some (.tup ys)):KT H' kvs xs:=
 Paired.mapP r fun _ _ z=>⟨z.1,ht _ _ z.2.1,z.2.2⟩
section
variable{P:Program}{w:World}{H:Hp}{h:Heap}{a:Addr}
theorem Fb{u:HO}(ok:HOk P w H h)(e:Rd H a u):bx P w H h a u:=e.ok ok
theorem tD{kvs:List (Key×V)}(ok:HOk P w H h)(e:Rd H a (.dK kvs)):kvs.length<=sizeLine/\(a == sysModules)=false/\∃vs,KV kvs vs/\h.DictOf (bw P w) a vs:=
 show bx P w H h a (.dK kvs)from Fb ok e
theorem Ds{kvs:List (Key×V)}(ok:HOk P w H h)(e:H a=some (.dK kvs)):kvs.length<=sizeLine/\(a == sysModules)=false/\∃vs,KV kvs vs/\h.DictOf (bw P w) a vs:=tD ok (.inl e)
theorem oh{ks:List Key}(ok:HOk P w H h)(e:H a=some (.tup (ks.map kV))):(tupleKind (bw P w)).is h ks a:=by
 obtain⟨_,its,r,o,h1,h2,n,h3⟩:=(show bx P w H h a (.tup (ks.map kV))from ok a _ e);exact⟨o,its.toArray,n,h1,h2,h3,by simpa using jZ r⟩
theorem qd{kvs:List (List Key×V)}(ok:HOk P w H h)(e:Rd H a (.dT kvs)):kvs.length<=sizeLine/\(a == sysModules)=false/\
  ∃xs,KT H kvs xs/\h.DictOfH (tupleKind (bw P w)) a xs:=by
 obtain⟨z,y,xs,r,o,es,ep,h1,h2,h3,h4,h5⟩:=(show bx P w H h a (.dT kvs)from Fb ok e);refine⟨z,y,xs,r,o,es,ep,h1,h2,h3,h4,fun x hx=>?_,h5⟩;have all:∀{l:List (List Key×V)} {m:List (List Key×Addr×Value)},KT H l m->∀x∈m,(tupleKind (bw P w)).is h x.1 x.2.1:=by
  intro l m q;induction q with
  |nil=>intro x hx;exact nomatch hx
  |@cons p q ps qs hq t ih=>
   intro x hx;rcases QH.mp hx with e|hx
   ·subst e;exact oh ok (by rw[<-hq.1];exact hq.2.1)
   ·exact ih x hx
 exact all r x hx
theorem IX{kvs:List (List Key×V)}(ok:HOk P w H h)(e:H a=some (.dT kvs)):kvs.length<=sizeLine/\(a == sysModules)=false/\
  ∃xs,KT H kvs xs/\h.DictOfH (tupleKind (bw P w)) a xs:=qd ok (.inl e)
end
def DGet(H:Hp)(a:Addr)(y:V)(r:Option V):Prop:=
 (∃kvs k,Rd H a (.dK kvs)/\y=kV k/\r=kK kvs k)\/∃kvs k b,Rd H a (.dT kvs)/\y=.ref b/\H b=some (.tup (k.map kV))/\r=kK kvs k
def A4(H:Hp)(a:Addr)(y v:V)(H':Hp):Prop:=
 (∃kvs k,H a=some (.dK kvs)/\y=kV k/\kvs.length<sizeLine/\H'=upd H a (.dK (o8 kvs k v)))\/
 ∃kvs k b,H a=some (.dT kvs)/\y=.ref b/\H b=some (.tup (k.map kV))/\kvs.length<sizeLine/\H'=upd H a (.dT (o8 kvs k v))
theorem DGet.k{H:Hp}{a:Addr}{kvs:List (Key×V)}{k:Key}(e:H a=some (.dK kvs)):DGet H a (kV k) (kK kvs k):=.inl ⟨kvs,k,.inl e,rfl,rfl⟩
theorem A4.k{H:Hp}{a:Addr}{kvs:List (Key×V)}{k:Key}{v:V}(e:H a=some (.dK kvs))(hl:kvs.length<sizeLine):A4 H a (kV k) v (upd H a (.dK (o8 kvs k v))):=.inl ⟨kvs,k,e,rfl,hl,rfl⟩
theorem A4.t{H:Hp}{a b:Addr}{kvs:List (List Key×V)}{k:List Key}{v:V}(e:H a=some (.dT kvs))(eb:H b=some (.tup (k.map kV)))(hl:kvs.length<sizeLine) :
  A4 H a (.ref b) v (upd H a (.dT (o8 kvs k v))):=.inr ⟨kvs,k,b,e,rfl,eb,hl,rfl⟩
section
variable{X:Cx}{pins:List (Addr×Obj)}{σ:St}{H:Hp}{s:Shared}{a:Addr}{y v:V}{u r:Value}{o:Option V}{A:Around}{E:Value->Shared->Prop}
theorem Inv.big(I:Inv X pins σ H s):sysModules<s.heap.objs.size:=by
 have h:mainGlobals<s.heap.objs.size:=(I.mod.glob.keeps I.bk).lt;exact Nat.lt_trans (by decide) h
theorem w9{Q:Value->Shared->Prop}(hu:A.units+1<cLine)(I:Inv X pins σ H s)(g:DGet H a y (some v))(ry:bP y u)(h:∀w' s',Inv X pins σ H s'->bP v w'->Q w' s') :
  wpAny (model X.prog X.w) A (getItem (.ref a) u) Q E s:=by
 rcases g with⟨kvs,k,e,ey,l⟩|⟨kvs,k,b,e,ey,eb,l⟩
 ·subst ey;obtain⟨z,hd,vs,rel,dd⟩:=tD I.hok e;obtain⟨w',hw,rw'⟩:=tQ.some_of (v:=v) (o:=valueAt vs k) (by rw[l];exact rel.val k);exact wpAny_getItem_of (wc ry) dd.mapOf hw (h w' _ (I.tok _) rw')
 ·subst ey;cases (show u=Value.ref b from ry);obtain⟨z,hd,xs,rel,dd⟩:=qd I.hok e;obtain⟨w',hw,rw'⟩:=tQ.some_of (v:=v) (o:=(atKey xs k).map (·.2)) (by rw[l];exact rel.val k);obtain⟨p,hp,hp2⟩:=Qt.mp hw;refine wpAny_getItem_heap (tupleKind_room_in1 hu) (oh I.hok eb) dd hp ?_;rw[hp2];exact h w' _ (I.tok _) rw'
theorem J7{Q:Value->Shared->Prop}(hu:A.units+1<cLine)(I:Inv X pins σ H s)(g:DGet H a y o)(ry:bP y u)(h:∀s',Inv X pins σ H s'->Q (.bool o.isSome) s') :
  wpAny (model X.prog X.w) A (compareOp .In u (.ref a)) Q E s:=by
 rcases g with⟨kvs,k,e,ey,l⟩|⟨kvs,k,b,e,ey,eb,l⟩
 ·subst ey;obtain⟨z,hd,vs,rel,dd⟩:=tD I.hok e;refine wpAny_in_of (wc ry) hd dd.mapOf ?_;rw[<-(rel.val k).isSome_eq,<-l];exact h _ (I.tok _)
 ·subst ey;cases (show u=Value.ref b from ry);obtain⟨z,hd,xs,rel,dd⟩:=qd I.hok e;refine wpAny_in_heap (tupleKind_room_in1 hu) (oh I.hok eb) hd dd ?_;have q:=(rel.val k).isSome_eq;rw[Option.isSome_map]at q;rw[<-q,<-l];exact h _ (I.tok _)
theorem Dy{Q:Value->Shared->Prop}(hu:A.units+1<cLine)(I:Inv X pins σ H s)(g:DGet H a y o)(ry:bP y u)(h:∀s',Inv X pins σ H s'->Q (.bool (!o.isSome)) s') :
  wpAny (model X.prog X.w) A (compareOp .NotIn u (.ref a)) Q E s:=by
 rcases g with⟨kvs,k,e,ey,l⟩|⟨kvs,k,b,e,ey,eb,l⟩
 ·subst ey;obtain⟨z,hd,vs,rel,dd⟩:=tD I.hok e;refine wpAny_notIn_of (wc ry) hd dd.mapOf ?_;rw[<-(rel.val k).isSome_eq,<-l];exact h _ (I.tok _)
 ·subst ey;cases (show u=Value.ref b from ry);obtain⟨z,hd,xs,rel,dd⟩:=qd I.hok e;refine wpAny_notIn_heap (tupleKind_room_in1 hu) (oh I.hok eb) hd dd ?_;have q:=(rel.val k).isSome_eq;rw[Option.isSome_map]at q;rw[<-q,<-l];exact h _ (I.tok _)
theorem wY{h':Heap}{t':Nat}{ob:HO}(I:Inv X pins σ H s)(mu:Mut (H a))(hs:X4 a s.heap h')(he:∃q,h'.get? a=some q)(new:bx X.prog X.w (upd H a ob) h' a ob) :
  Inv X pins σ (upd H a ob) { s with heap:=h',toks:=t' }:=
 I.write (x:=a) (e:=a) mu (.inl rfl) (fun b q hb z=>(hs.2 b hb).trans z) he new
theorem GA{P:Program}{w:World}{H':Hp}{h':Heap}{kvs:List (Key×V)}{vs:List (Key×Value)}(z:kvs.length<=sizeLine)(hd:(a == sysModules)=false)(rel:KV kvs vs)(dd:h'.DictOf (bw P w) a vs) :
  bx P w H' h' a (.dK kvs):=⟨z,hd,vs,rel,dd⟩
theorem wZ{H':Hp}{Q:Unit->Shared->Prop}(hu:A.units+1<cLine)(I:Inv X pins σ H s)(g:A4 H a y v H')(ry:bP y u)(rv:bP v r)(h:∀s',Inv X pins σ H' s'->Q () s') :
  wpAny (model X.prog X.w) A (setItem (.ref a) u r) Q E s:=by
 rcases g with⟨kvs,k,e,ey,l,eH⟩|⟨kvs,k,b,e,ey,eb,l,eH⟩
 ·subst ey eH;obtain⟨z,hd,vs,rel,dd⟩:=Ds I.hok e;have hz:vs.length<=sizeLine:=by rw[<-rel.length];exact z
  have hl:(o8 kvs k v).length<=sizeLine:=by have:=jW kvs k v;omega
  refine wpAny_setItem_pairs (hsz:=hz) (wc ry) dd fun h' dd' hs=>h _ ?_;have he:∃q,h'.get? a=some q:=let ⟨q,_,_,hq,_⟩:=dd';⟨q,hq⟩
  exact wY I (by rw[e];exact True.intro) hs he (GA hl hd (rel.put k rv) dd')
 ·subst ey eH;cases (show u=Value.ref b from ry);obtain⟨z,hd,xs,rel,dd⟩:=IX I.hok e;have hz:xs.length<=sizeLine:=by rw[<-Paired.length rel];exact z
  have hl:(o8 kvs k v).length<=sizeLine:=by have:=jW kvs k v;omega
  refine wpAny_setItem_heap (hsz:=hz) (tupleKind_room_in1 hu) (oh I.hok eb) dd fun h' dd' hs=>h _ ?_;obtain⟨q,es,ep,hq,h2,h3,h4,_,h5⟩:=dd';refine wY I (by rw[e];exact True.intro) hs ⟨q,hq⟩ ⟨hl,hd,_,(rel.put k eb rv).keeps fun c ys ec=>?_,q,es,ep,hq,h2,h3,h4,h5⟩;rw[aT (Iy ec e (fun z=>nomatch z))];exact ec
end
section
variable{X:Cx}{pins:List (Addr×Obj)}{σ:St}{H:Hp}{s:Shared}{a:Addr}{kvs:List (Key×V)}{A:Around}{E:Value->Shared->Prop}
theorem IY{Q:Value->Shared->Prop}(I:Inv X pins σ H s)(e:Rd H a (.dK kvs))(h:∀t s',Inv X pins σ H s'->Q (.int kvs.length t) s'):wpAny (model X.prog X.w) A (call (.builtin "len") [.ref a]) Q E s:=by
 obtain⟨z,hd,vs,rel,dd⟩:=tD I.hok e;refine call_len_dict hd dd (by rw[<-rel.length];rw[sizeLine_eq]at z;omega) ?_;rw[<-rel.length];exact h _ _ (I.tok _)
end
def DY(i:Expr):Prop:=∀ov iv,subscripted i false ov iv=operate [ov,iv] (getItem ov iv)
theorem uI{prog:Program}{w:World}{A:Around}{E:Value->Shared->Prop}{s:Shared}{env:Env}{value slice:Expr}{pos:Pos}{T id:String}{Q:Value->Shared->Prop}
  (hl:typeLookup (.type T) "__getitem__"=pure (some (.builtin id))) (hs:DY slice)
  (h:wpAny (model prog w) A (eval value env) (fun o s₁=>wpAny (model prog w) A (eval slice env) (fun i s₂=>s₂.TypeIs o T/\wpAny (model prog w) A (getItem o i) Q E s₂) E s₁) E s) :
  wpAny (model prog w) A (eval (.Subscript value slice pos) env) Q E s:=by
 refine Subscript_ (ZY h (fun o s₁ h₁=>ZY h₁ (fun i s₂ h₂=>?_) fun _ _ x=>x) fun _ _ x=>x);obtain⟨hT,h₂⟩:=h₂;unfold subscriptTail;refine Q0 ?_;rw[getitemInPython_of_ne hT.not_modules];refine Q0 (wpAny_specialOf hT hl ?_);have fin:wpAny (model prog w) A (subscripted slice false o i) (fun r s₃=>wpAny (model prog w) A (letTemporaryGo value o r >>= fun _=>pure r) Q E s₃) E s₂:=by
  rw[hs o i];exact wpAny_operating (ZY h₂ (fun r s₃ h₃=>Q0 (wpAny_letTemporaryGo (Q5 h₃))) fun _ _ x=>x)
 first
  |exact Q5 (Q0 fin)
  |exact Q0 (Q5 (Q0 fin))
  |exact Q0 fin
theorem qe{X:Cx}{pins:List (Addr×Obj)}{σ:St}{H:Hp}{s:Shared}{a:Addr}{y:V}{o:Option V}(I:Inv X pins σ H s)(g:DGet H a y o):s.TypeIs (.ref a) "dict":=by
 rcases g with⟨kvs,k,e,_,_⟩|⟨kvs,k,b,e,_,_,_⟩
 ·obtain⟨_,_,vs,_,dd⟩:=tD I.hok e;exact dd.typeIs
 ·obtain⟨_,_,xs,_,dd⟩:=qd I.hok e;exact dd.typeIs
def EU(td ty:TE):TE:=fun σ H Q=>td σ H fun x H1=>ty σ H1 fun y H2=>∃a v,x=.ref a/\DGet H2 a y (some v)/\Q v H2
def GP(ty td:TE):TE:=fun σ H Q=>ty σ H fun y H1=>td σ H1 fun x H2=>∃a o,x=.ref a/\DGet H2 a y o/\Q (.bl o.isSome) H2
def pE(ty td:TE):TE:=fun σ H Q=>ty σ H fun y H1=>td σ H1 fun x H2=>∃a o,x=.ref a/\DGet H2 a y o/\Q (.bl (!o.isSome)) H2
def E5(td ty tv:TE):TS:=fun D σ H=>tv σ H fun v H1=>td σ H1 fun x H2=>ty σ H2 fun y H3=>∃a H4,x=.ref a/\A4 H3 a y v H4/\D.nx σ H4
section
variable{X:Cx}{o i value:Expr}{pos pos':Pos}{td ty tv:TE}
theorem Cz(hu:X.A.units+1<cLine)(ho:PE X o td)(hi:PE X i ty)(hs:DY i):PE X (.Subscript o i pos) (EU td ty):=by
 intro pins s σ H Q I h;refine uI PySem.F.slot_dict_getitem.lookup hs (thn (ho pins s σ H _ I h) fun u s1 ⟨x,H1,I1,rx,q1⟩=>thn (hi pins s1 σ H1 _ I1 q1) fun iv s2 hz=>?_);obtain⟨y,H2,I2,ry,a,v,ex,g,q2⟩:=hz;subst ex;obtain rfl:u=Value.ref a:=rx;exact⟨qe I2 g,w9 hu I2 g ry fun w' s3 I3 rw'=>⟨v,H2,I3,rw',q2⟩⟩
theorem FG(hu:X.A.units+1<cLine)(hi:PE X i ty)(ho:PE X o td):PC X .In i o (GP ty td):=by
 intro pins s σ H Q I h;refine thn (hi pins s σ H _ I h) fun iv s1 ⟨y,H1,I1,ry,q1⟩=>thn (ho pins s1 σ H1 _ I1 q1) fun u s2 hz=>?_;obtain⟨x,H2,I2,rx,a,ov,ex,g,q2⟩:=hz;subst ex;obtain rfl:u=Value.ref a:=rx;exact J7 hu I2 g ry fun s3 I3=>⟨.bl ov.isSome,H2,I3,rfl,q2⟩
theorem vB(hu:X.A.units+1<cLine)(hi:PE X i ty)(ho:PE X o td):PC X .NotIn i o (pE ty td):=by
 intro pins s σ H Q I h;refine thn (hi pins s σ H _ I h) fun iv s1 ⟨y,H1,I1,ry,q1⟩=>thn (ho pins s1 σ H1 _ I1 q1) fun u s2 hz=>?_;obtain⟨x,H2,I2,rx,a,ov,ex,g,q2⟩:=hz;subst ex;obtain rfl:u=Value.ref a:=rx;exact Dy hu I2 g ry fun s3 I3=>⟨.bl (!ov.isSome),H2,I3,rfl,q2⟩
theorem Cq(hu:X.A.units+1<cLine)(ho:PE X o td)(hi:PE X i ty)(hv:PE X value tv)(hs:swapsWith value (some (.Subscript o i pos')) pos.line X.env=pure false) :
  PS X (.Assign [.Subscript o i pos'] value pos) (E5 td ty tv):=by
 intro pins s σ H D I h;refine wpAny_Assign_Subscript (thn (hv pins s σ H _ I h) fun r s1 ⟨v,H1,I1,rv,q1⟩=>thn (ho pins s1 σ H1 _ I1 q1) fun u s2 ⟨x,H2,I2,rx,q2⟩=>thn (hi pins s2 σ H2 _ I2 q2) fun iv s3 hz=>?_) hs;obtain⟨y,H3,I3,ry,a,H4,ex,g,q3⟩:=hz;subst ex;obtain rfl:u=Value.ref a:=rx;exact wZ hu I3 g ry rv fun s4 I4=>⟨σ,H4,I4,q3⟩
end
theorem zR{P:Program}{w:World}{H:Hp}(h:Heap)(hb:sysModules<h.objs.size):bx P w H (h.push { cls:=.type "dict",data:=.dict #[] }) h.objs.size (.dK []):=
 ⟨ZQ _,beq_eq_false_iff_ne.mpr (Ne.symm (QL hb)),[],.nil,Heap.DictOf.new h⟩
theorem zQ{P:Program}{w:World}{H:Hp}(h:Heap)(hb:sysModules<h.objs.size):bx P w H (h.push { cls:=.type "dict",data:=.dict #[] }) h.objs.size (.dT []):=
 ⟨ZQ _,beq_eq_false_iff_ne.mpr (Ne.symm (QL hb)),[],.nil,_,#[],0,QY _ rfl,⟨rfl,rfl,rfl⟩,rfl,rfl,List.nodup_nil⟩
def Ao:TE:=fun _ H Q=>∀p,H p=none->Q (.ref p) (upd H p (.dK []))
def An:TE:=fun _ H Q=>∀p,H p=none->Q (.ref p) (upd H p (.dT []))
section
variable{X:Cx}{pos:Pos}
theorem yY:PE X (.Dict [] [] pos) Ao:=fun pins s σ H Q I h=>
 wpAny_Dict_empty ⟨.ref s.heap.objs.size,_,I.laid (a:=s.heap.objs.size) (o:=.dK []) (t':=s.toks) (fun _ _ q=>Q3 _ q) (QJ _) (zR s.heap I.big),rfl,h _ (I.hok.fresh (QJ _))⟩
theorem yX:PE X (.Dict [] [] pos) An:=fun pins s σ H Q I h=>
 wpAny_Dict_empty ⟨.ref s.heap.objs.size,_,I.laid (a:=s.heap.objs.size) (o:=.dT []) (t':=s.toks) (fun _ _ q=>Q3 _ q) (QJ _) (zQ s.heap I.big),rfl,h _ (I.hok.fresh (QJ _))⟩
end
end L2
namespace Att
open PySem PySem.W PySem.Calls PyProof.Rows
theorem j6{P:Params}{h:Heap}:∀(ns:List Int) (vs:List Value),WellAll P h vs (ns.map WData.int)->IntsAre vs ns:=by
 intro ns;induction ns with
 |nil=>
  intro vs w;rw[Zj]at w;cases w;exact .nil
 |cons n ns ih=>
  intro vs w;rw[QF]at w;cases w with
  |cons a b=>
   cases a;exact .cons _ _ (ih _ b)
theorem uS{l:OpenLaw}{n:Nat}(hn:l.most=some n){P:Params}{h:Heap}{args:List WData}{vals:List Value}
  (hpre:l.row.toRowW.claim.pre args=true) (hwl:WellAll P h vals args) :
  ∃a vs ns,vals=[Value.ref a]/\args=[WData.list (ns.map WData.int)]/\h.get? a=some { cls:=.type "list",data:=.seq vs.toArray }/\IntsAre vs ns/\ns.length<=n:=by
 have hsh:WShape.hasAll [] args [.list .int]=true:=(pre_splitW hpre).1;have hc:l.pre.holds [] { args:=args }=true:=(pre_splitW hpre).2;obtain⟨d,r,rfl,h1,h2⟩:=hasAllW_cons hsh;obtain rfl:=hasAllW_nil h2;obtain⟨xs,rfl,h3⟩:=hasW_list h1;obtain⟨ns,rfl⟩:=items_int h3;have hlen:ns.length<=n:=by
  unfold OpenLaw.pre at hc;have h4:(WTm.not (.lt (.lit (.int (n:Int))) (.len (.arg 0)))).holds [] { args:=[.list (ns.map .int)] }=true:=by
   have h4:=(holds_andW hc).1;rw[hn]at h4;exact h4
  have h5:=condW_of h4 (w_not (w_lt w_lit (w_len_list (w_arg rfl))));rw[Q9]at h5;refine Nat.le_of_not_lt fun q=>?_;have q':(n:Int)<((ns.length:Nat):Int):=by omega
  first
   |(rw[decide_eq_true q']at h5;exact absurd h5 (by decide))
   |(simp at h5;omega)
 cases hwl with
 |cons w1 w2=>
  cases w2;cases w1 with
  |list ho hall=>exact⟨_,_,ns,rfl,rfl,ho,j6 ns _ hall,hlen⟩
theorem vt(l:OpenLaw)(args:List WData):l.row.toRowW.claim.post args (.bool true) args=true:=
 postW_of (r:=l.row.toRowW) (X:=(true == true))
  (show WShape.has [] (.bool true) .bool=true by first|rfl|decide|simp[WShape.has,WShape.arms,WShape.armsAll])
  (show(WTm.eq .res (.lit (.bool true))).value [] { args:=args,res:=some (.bool true),after:=args }=some (.bool (true == true))from w_eq_bool (w_res rfl) w_lit) rfl
theorem attach_call{l:OpenLaw}{n:Nat}{q:Program}{loose:List Str}{XP:(Str->Option Value)->Heap->Prop}{YP:World->Heap->Prop}{d:DefRec}
  (hn:l.most=some n) (hdf:d.params.defaults=[])
  (call:∀(w:World) (s₀ s₁:Shared) (mg mb:Str->Option Value) (fa:Addr) (o:Obj) (pm cd doc:Value) (a:Addr) (vs:List Value) (ns:List Int),
   Ground q loose [] XP w s₀ mg mb s₁.heap->YP w s₁.heap->
   s₁.heap.get? fa=some o->o.data=.func (docDef d.name d.params d.body d.scope pm cd doc)->s₁.heap.CodeRec cd d.name->mg d.name=some (.ref fa)->
   s₁.heap.get? a=some { cls:=.type "list",data:=.seq vs.toArray }->IntsAre vs ns->ns.length<=n->s₁.gens=#[]->
   codeAny (model l.prog w) callerA (.call (.ref fa) ⟨[.ref a],[]⟩) (fun r s'=>r=.ok (.ret (.bool true))/\OldK s₁.heap s'.heap/\s'.os=s₁.os/\AllBare s'.gens) s₁) :
  WalkO q loose XP YP l.row.toRowW d [] (fun f vs=>PySem.call f vs):=by
 intro w s₀ s₁ mg mb G Y fa o pm cd doc dV kV ho hd hcd hD hmg hg args vals as hpre hlay hrd hwl hlo;obtain rfl:dV=.none:=Dflts.none hD hdf;obtain rfl:kV=.none:=Dflts.noKw hD;obtain⟨a,vs,ns,rfl,rfl,hobj,hints,hlen⟩:=uS hn hpre hwl;refine enter_call (codeAny_mono (call w s₀ s₁ mg mb fa o pm cd doc a vs ns G Y ho (fd_plain hd) hcd hmg hobj hints hlen hg) fun r s' hq=>?_);obtain⟨rfl,h2,h3,h4⟩:=hq;exact⟨.inl ⟨.bool true,.bool true,[],rfl,fun _=>rfl,.bool true,vt l _,fun _=>⟨List.Pairwise.nil,fun _ hm=>(nomatch hm)⟩⟩,h2,h3,h4⟩
end Att
namespace L2
open PySem PySem.Spec PyProof.Rows
theorem eY:∀{vs:List Value} {ns:List Int},IntsAre vs ns->a5 (ns.map V.int) vs
 |_,_,.nil=>.nil
 |_,_,.cons n t h=>.cons ⟨t,rfl⟩ (eY h)
def G6(H:Hp):Prop:=∀b,H b=none\/∃o xs,H b=some (.frz o (.lst xs))
theorem zy{P:Program}{w:World}{K:Q4}{mg mb:Str->Option Value}{CX:CXT}{k:Nat}{fa a:Addr}{fd:FuncData}{x:Str}{sp:Sp}{s₁:Shared}{vs:List Value}{ns:List Int}
  (KX:K.In s₁.heap) (hns:s₁.heap.Ns mainGlobals mg) (hb:s₁.heap.Ns builtinsNs mb) (hbb:∀x:Str,x≠"__name__"->mb x=bootBuiltins x) (hlim:s₁.heap.NoLimit) (hg:s₁.gens=#[])
  (ha:s₁.heap.get? a=some { cls:=.type "list",data:=.seq vs.toArray }) (hi:IntsAre vs ns) (hl:ns.length<=sizeLine) (hr:kH k callerA)
  (F:∀base:Heap,K.In base->base.Ns mainGlobals mg->pd P w K mg base CX k fa fd [x] sp) (hbind:∀(s:Shared) (u:Value),BindsTo s fd ⟨[u],[]⟩ [(x,u)])
  (hsp:∀H:Hp,G6 H->SqL K H a (ns.map V.int)->sp [.ref a] H (fun v _=>v=.bl true) fun _ _ _=>False)
  (hCX:∀H e s',CX [] H s₁ (fun _ _ _=>False) e s'->False) :
  codeAny (model P w) callerA (.call (.ref fa) ⟨[.ref a],[]⟩) (fun r s'=>r=.ok (.ret (.bool true))/\OldK s₁.heap s'.heap/\s'.os=s₁.os/\AllBare s'.gens) s₁:=by
 have rv:=eY hi;have lenV:=hi.length;have core:∀H:Hp,G6 H->SqL K H a (ns.map V.int)->HOk P w H s₁.heap->(∀b,H b≠none->b=a)->(H a≠none->K.lookup a=none)->
   codeAny (model P w) callerA (.call (.ref fa) ⟨[.ref a],[]⟩) (fun r s'=>r=.ok (.ret (.bool true))/\OldK s₁.heap s'.heap/\s'.os=s₁.os/\AllBare s'.gens) s₁:=by
  intro H hO hS hok hA hK;have base_of:∀{b:Addr} {o:Obj},s₁.heap.get? b=some o->H b=none->(zJ s₁.heap H).get? b=some o:=fun e n=>zI e n;have noA:∀{b:Addr} {o:Obj} {es:Array DictEntry} {ep:Nat},s₁.heap.get? b=some o->o.data=.dict es ep->H b=none:=fun{b o es ep} e d=>by
   cases q:H b with
   |none=>rfl
   |some u=>
    have e':b=a:=hA b (by rw[q];simp);subst e';rw[ha]at e;cases e;have d':Data.seq vs.toArray _=Data.dict es ep:=d;cases d'
  have nsK:∀{b:Addr} {m:Str->Option Value},s₁.heap.Ns b m->(zJ s₁.heap H).Ns b m:=fun{b m} ⟨o,es,ep,e,d,r⟩=>⟨o,es,ep,base_of e (noA e d),d,r⟩;have hKb:K.In (zJ s₁.heap H):=fun b o e=>base_of (KX b o e) (by
   cases q:H b with
   |none=>rfl
   |some u=>
    have e':b=a:=hA b (by rw[q];simp);subst e';rw[hK (by rw[q];simp)]at e;cases e)
  have hM:Mod K mg (zJ s₁.heap H):=⟨hKb,nsK hns,⟨mb,nsK hb,hbb⟩,let ⟨mc,h1,h2⟩:=hlim;⟨mc,nsK h1,h2⟩⟩;have e0:G9 P w K mg (zJ s₁.heap H) callerA [] s₁ H:=⟨rfl,hM,fun b o e=>CV e,Nat.le_of_eq (wA _ _),trivial,fun b hb=>absurd (show b∈([]:List Addr)from hb) (by simp),hok,.of_eq hg⟩;refine codeAny_mono ((F _ hKb (nsK hns)).run callerA [] s₁ H ⟨[.ref a],[]⟩ [.ref a] [.ref a] _ _ hr e0 (hbind s₁ (.ref a)) (.cons rfl .nil) (hsp H hO hS)) fun r s' h=>?_;cases r with
  |error e=>exact(hCX H e s' h).elim
  |ok fl=>
   cases fl with
   |next=>exact False.elim h
   |brk=>exact False.elim h
   |cont=>exact False.elim h
   |ret u=>
    obtain⟨v,H',os,bare,un,hok',r',q⟩:=h;have q':v=.bl true:=q;subst q';obtain rfl:u=Value.bool true:=r';refine⟨rfl,OldK.of_keep fun b o e=>?_,os,bare⟩;cases q:H b with
    |none=>exact un.keep b o e q (by intro z;exact absurd (show b∈([]:List Addr)from z) (by simp)) (by simp)
    |some u=>
     rcases hO b with z|⟨ob,xs,z⟩
     ·rw[q]at z;cases z
     ·have z2:=un.frzs b ob _ z;obtain⟨e1,_⟩:=hok b _ z;obtain⟨e2,_⟩:=hok' b _ z2;rw[e]at e1;cases e1;exact e2
 cases hk:K.lookup a with
 |some o=>
  have e:=KX a o hk;rw[ha]at e;cases e;refine core (fun _=>none) (fun _=>.inl rfl) (.inr ⟨_,vs.toArray,_,hk,rfl,rfl,rfl,by rw[QC,lenV];exact hl,by simpa using rv⟩) (fun b u z=>by have z':(none:Option HO)=some u:=z;cases z') (fun b z=>absurd rfl z) fun z=>absurd rfl z
 |none=>
  refine core (fun b=>if b=a then some (.frz { cls:=.type "list",data:=.seq vs.toArray } (.lst (ns.map V.int)))else none) (fun b=>?_) (.inl (.inr ⟨{ cls:=.type "list",data:=.seq vs.toArray },if_pos rfl⟩)) (fun b u z=>?_) (fun b z=>?_) fun _=>hk
  ·by_cases hb:b=a
   ·exact .inr ⟨_,_,if_pos hb⟩
   ·exact .inl (if_neg hb)
  ·by_cases hb:b=a
   ·have z':=(if_pos hb).symm.trans z;cases z';subst hb;exact⟨ha,by rw[Q9];exact hl,vs,_,rv,ha⟩
   ·have z':=(if_neg hb).symm.trans z;cases z'
  ·by_cases hb:b=a
   ·exact hb
   ·exact absurd (if_neg hb) z
theorem BM{l:PySem.W.OpenLaw}{n k:Nat}{q:Program}{loose:List Str}{XP:(Str->Option Value)->Heap->Prop}{YP:World->Heap->Prop}{d:DefRec}{K:Params->Q4}{CX:World->CXT}{sp:World->Sp}{x:Str}
  (hn:l.most=some n) (hn2:n<=sizeLine) (hdf:d.params.defaults=[]) (hr:kH k callerA)
  (hY:∀(w:World) (h:Heap),YP w h->(K w.params).In h)
  (F:∀(w:World) (mg:Str->Option Value) (fa:Addr) (h:Heap),(K w.params).In h->h.Ns mainGlobals mg->mg d.name=some (.ref fa)->
   ∃fd:FuncData,(∀(s:Shared) (u:Value),BindsTo s fd ⟨[u],[]⟩ [(x,u)])/\
    ∀base:Heap,(K w.params).In base->base.Ns mainGlobals mg->pd l.prog w (K w.params) mg base (CX w) k fa fd [x] (sp w))
  (hsp:∀(w:World) (H:Hp) (a:Addr) (ns:List Int),ns.length<=n->G6 H->SqL (K w.params) H a (ns.map V.int)->sp w [.ref a] H (fun v _=>v=.bl true) fun _ _ _=>False)
  (hCX:∀(w:World) (H:Hp) (s:Shared) (e:Value) (s':Shared),CX w [] H s (fun _ _ _=>False) e s'->False) :
  PySem.W.WalkO q loose XP YP l.row.toRowW d [] (fun f vs=>PySem.call f vs):=by
 refine Att.attach_call hn hdf fun w s₀ s₁ mg mb fa o pm cd doc a vs ns G Y ho hd hcd hmg hobj hints hlen hg=>?_;have KX:=hY w _ Y;obtain⟨fd,hb,hF⟩:=F w mg fa _ KX G.T.g hmg;exact zy KX G.T.g G.T.b G.T.builtins G.T.nolimit hg hobj hints (Qc hlen hn2) hr hF hb (fun H hO hS=>hsp w H a ns hlen hO hS) fun H e s'=>hCX w H s₁ e s'
def gk(s:Stmt):Arguments:=match s with
 |.FunctionDef _ a _ _ _ _ _ _ _ _=>a
 |_=>{ posonlyargs:=[],args:=[],vararg:=none,kwonlyargs:=[],kw_defaults:=[],kwarg:=none,defaults:=[] }
def dj(s:Stmt):List Stmt:=match s with
 |.FunctionDef _ _ b _ _ _ _ _ _ _=>b
 |_=>[]
def aC(s:Stmt):Scope:=match s with
 |.FunctionDef _ _ _ _ _ _ sc _ _ _=>sc
 |_=>{ kind:=.function,names:=[],isGenerator:=false,isCoroutine:=false }
abbrev CX0:CXT:=fun _ _ _ _ _ _=>False
abbrev E0:XK:=fun _ _ _=>False
theorem Ik{X:Cx}:xI CX0 X E0:=fun _ _ _ _ _ _ _ h=>h.elim
structure Fun(K:Q4)(x qual:Str)(st:Stmt)(f:Addr)(fd:FuncData):Prop where
 ex:∃(oc:Value) (od:Option Addr) (kV doc pm:Value) (an:Option Addr) (cdv ct:Value) (osl:Array (Option Value)),
  fd=PySem.W.fnOf x qual (gk st) (dj st) (aC st) .none kV doc pm an cdv ct/\K.lookup f=some ⟨oc,od,.func fd,osl⟩/\PySem.W.codeIn K cdv qual=true
 kp:PySem.W.keepIn K (.ref f)=true
section
variable{P:Program}{w:World}{K:Q4}{mg:Str->Option Value}{base:Heap}
theorem Fun.ok{x qual:Str}{st:Stmt}{f:Addr}{fd:FuncData}{N ps:List Str}{k:Nat}{sp:Sp}(F:Fun K x qual st f fd)(S:aX N ps (aC st))(len:∀vs H Q E,sp vs H Q E->vs.length=ps.length)
  (hbody:∀(cdv:Value) (A:Around) (outer:List Env) (s:Shared) (H:Hp) (vs:List V) (Q:VK) (E:XK),kH k (A.deeper (envOfC qual (aC st) s.heap.objs.size f cdv))->sp vs H Q E->
   ∃t,PSs (xT CX0 P w K mg base N qual (aC st) f cdv A outer s H E).nox (dj st) t/\t { nx:=fun _ H'=>Q .non H',rt:=Q } (gK N vs) H):pd P w K mg base CX0 (k+1) f fd ps sp:=by
 obtain⟨oc,od,kV,doc,pm,an,cdv,ct,osl,rfl,lk,hcd⟩:=F.ex;refine IT lk hcd S len fun A outer s H vs Q E hr hsp=>?_;obtain⟨t,h,q⟩:=hbody cdv A outer s H vs Q E hr hsp;exact⟨t,h.nox,q⟩
theorem Fun.binds{x qual:Str}{st:Stmt}{f:Addr}{fd:FuncData}{ps:List Str}(F:Fun K x qual st f fd)
  (h:∀(kV doc pm:Value) (an:Option Addr) (cdv ct:Value) (us:List Value),us.length=ps.length->bindArgs (PySem.W.fnOf x qual (gk st) (dj st) (aC st) .none kV doc pm an cdv ct) ⟨us,[]⟩=pure (ps.zip us)):qu K fd ps []:=by
 obtain⟨oc,od,kV,doc,pm,an,cdv,ct,osl,rfl,lk,hcd⟩:=F.ex;exact .all (h kV doc pm an cdv ct)
theorem Gq{x qual:Str}{st:Stmt}{f:Addr}{oc:Value}{od an:Option Addr}{osl:Array (Option Value)}{kV doc pm cdv ct:Value}(l:K.lookup f=some ⟨oc,od,.func (PySem.W.fnOf x qual (gk st) (dj st) (aC st) .none kV doc pm an cdv ct),osl⟩)
  (c:PySem.W.codeIn K cdv qual=true) (k:PySem.W.keepIn K (.ref f)=true):Fun K x qual st f (PySem.W.fnOf x qual (gk st) (dj st) (aC st) .none kV doc pm an cdv ct):=⟨⟨oc,od,kV,doc,pm,an,cdv,ct,osl,rfl,l,c⟩,k⟩
end
theorem eU{A:Around}{k:Nat}(hr:kH k A):A.units+1<cLine:=X3 (Nat.add_le_add_left (by decide:1<=64) _) hr.units
theorem uL{n:Nat}(h:n<=1000):n<sizeLine:=X3 h (by decide)
section
variable{X:Cx}
theorem pv(i:Nat){x:Str}{pos:Pos}(hN:X.N[i]?=some x:=by rfl)(hv:Vis X.env.scope x:=by first|exact Or.inl rfl|exact Or.inr (Or.inl rfl)|exact Or.inr (Or.inr rfl))(hd:(x == ("__debug__":Str))=false:=by decide)
  (hcd:(x == ("__classdict__":Str))=false:=by decide):PE X (.Name x pos) (GO i):=Fv hN hv hd hcd
theorem xk:bX X (.builtin "len") (fun xs H Q=>∃a kvs,xs=[V.ref a]/\H a=some (.dK kvs)/\Q (.int kvs.length) H):=by
 intro pins s σ H xs us Q I r h;obtain⟨a,kvs,rfl,ha,q⟩:=h;obtain⟨u,rfl,ru⟩:=fP r;cases ru;exact IY I (.inl ha) fun t s' I'=>⟨.int kvs.length,H,I',⟨t,rfl⟩,q⟩
end
theorem Gh{A B:Prop}(h:B):if false=true then A else B:=by
 rw[if_neg QM];exact h
theorem Gg{A B:Prop}(h:A):if true=true then A else B:=by
 rw[if_pos rfl];exact h
def sd(H H':Hp):Prop:=∀b o,H b=some o->H' b=some o
theorem sd.refl(H:Hp):sd H H:=fun _ _ h=>h
end L2
namespace OG
open PySem PySem.Spec PyProof.Rows L2
structure WE(X:Cx)(e:Expr)(t:TE):Prop where
 h:PE X e t
structure WT(X:Cx)(e:Expr)(t:TT):Prop where
 h:PT X e t
structure WW(X:Cx)(e:Expr)(t:TT):Prop where
 h:PW X e t
structure WA(X:Cx)(es:List Expr)(t:TA):Prop where
 h:PA X es t
structure WS(X:Cx)(st:Stmt)(t:TS):Prop where
 h:PS X st t
structure WSs(X:Cx)(st:List Stmt)(t:TS):Prop where
 h:PSs X st t
structure WI(X:Cx)(tg iter:Expr)(wi:TI):Prop where
 h:PI X tg iter wi
structure WG(X:Cx)(target:Expr)(t:TG):Prop where
 h:PG X target t
structure WGs(X:Cx)(ts:List Expr)(t:TGs):Prop where
 h:PGs X ts t
structure WC(X:Cx)(op:CmpOp)(a b:Expr)(t:TE):Prop where
 h:PC X op a b t
structure WO(X:Cx)(e:Option Expr)(t:TO):Prop where
 h:PO X e t
section
variable{X:Cx}
theorem au{i j pos}:WE X (.Constant (.int i) j pos) (tC (.int i)):=⟨FD ⟩
theorem eK{b j pos}:WE X (.Constant (.bool b) j pos) (tC (.bl b)):=⟨Ih ⟩
theorem lU{x j pos}:WE X (.Constant (.str x) j pos) (tC (.str x)):=⟨Fy ⟩
end
section
variable{X:Cx}
variable{a b:Expr}{pos:Pos}
theorem BI{op:CmpOp}{t:TE}(h:WC X op a b t)(h1:behindInMarks op b=false:=by first|exact nobehind _ (by decide) (by decide)|rfl):WE X (.Compare a [op] [b] pos) t:=⟨FE h.h h1⟩
theorem ue{op:CmpOp}{t:TE}(h:WC X op a b t)(h1:behindInMarks op b=false:=by first|exact nobehind _ (by decide) (by decide)|rfl):WT X (.Compare a [op] [b] pos) (tB t):=⟨Fl h.h h1⟩
end
section
variable{X:Cx}
variable{pos:Pos}
theorem Bw{e:Expr}{t:TE}(h:WE X e t)(he:∀whole,isTrue e X.env whole=(do let v <-whole;standAt e.pos;holding [v] (truthy v)):=by intro _;rfl):WT X e (tB t):=⟨Fi h.h he⟩
end
section
variable{X:Cx}
variable{a:Expr}{pos:Pos}
variable{tA:TT}
theorem x8(ha:WT X a tA):WW X (.BoolOp .And [a] pos) tA:=⟨Ck ha.h⟩
theorem Bu(ha:WT X a tA):WW X (.BoolOp .Or [a] pos) tA:=⟨Ff ha.h⟩
end
section
variable{X:Cx}
variable{a b:Expr}{pos:Pos}
variable{tA tB':TT}{rest:List Expr}
theorem Bv(ha:WT X a tA)(hb:WW X (.BoolOp .And (b::rest) pos) tB'):WW X (.BoolOp .And (a::b::rest) pos) (Jo tA tB'):=⟨Fg ha.h hb.h⟩
theorem EA(ha:WT X a tA)(hb:WW X (.BoolOp .Or (b::rest) pos) tB'):WW X (.BoolOp .Or (a::b::rest) pos) (tOr tA tB'):=⟨HZ ha.h hb.h⟩
end
section
variable{X:Cx}
variable{a:Expr}{pos:Pos}
variable{tA:TT}
theorem Bx(ha:WT X a tA):WT X (.UnaryOp .Not a pos) (Jk tA):=⟨Fj ha.h⟩
end
section
variable{X:Cx}
variable{a:Expr}{pos:Pos}
theorem BF{op}{t:TE}(h:WE X a t):WE X (.BoolOp op [a] pos) t:=⟨Fz h.h⟩
end
section
variable{X:Cx}
variable{a b:Expr}{ta tb:TE}{pos:Pos}
variable{rest:List Expr}
theorem BJ(ha:WE X a ta)(hb:WE X (.BoolOp .And (b::rest) pos) tb):WE X (.BoolOp .And (a::b::rest) pos) (EY ta tb):=⟨FF ha.h hb.h⟩
end
section
variable{X:Cx}
variable{a:Expr}{ta:TE}{pos:Pos}
theorem BG(ha:WE X a ta):WE X (.UnaryOp .Not a pos) (EO ta):=⟨FA ha.h⟩
end
section
variable{X:Cx}
theorem yb :WSs X [] ER:=⟨Co ⟩
end
section
variable{X:Cx}{st:Stmt}{rest:List Stmt}{t u:TS}
theorem ug(h1:WS X st t)(h2:WSs X rest u):WSs X (st::rest) (Ji t u):=⟨yQ h1.h h2.h⟩
end
section
variable{X:Cx}{st:Stmt}{t:TS}
theorem ya(h1:WS X st t):WSs X [st] t:=⟨Cn h1.h⟩
end
section
variable{X:Cx}{e:Expr}{te:TE}{pos:Pos}
theorem yc(he:WE X e te)(hs:swapsWith e none pos.line X.env=pure false:=by rfl):WS X (.Expr e pos) (ES te):=⟨Cp he.h hs⟩
theorem Bz(he:WE X e te):WS X (.Return (some e) pos) (Jj te):=⟨Fo he.h⟩
end
section
variable{X:Cx}{t u:TS}{pos:Pos}
theorem EB{c:Expr}{a b:List Stmt}{tc:TT}(hc:WT X c tc)(ha:WSs X a t)(hb:WSs X b u):WS X (.If c a b pos) (Jn tc t u):=⟨H0 hc.h ha.h hb.h⟩
end
section
variable{X:Cx}{pos:Pos}
theorem aA{i:Nat}{x:Str}(hN:X.N.Nodup)(hi:X.N[i]?=some x)(hx:Loc X.env.scope x)(hf:X.fn x=true\/X.env.scope.names.lookup x=some .local:=by first|exact .inl rfl|exact .inr rfl|assumption):WG X (.Name x pos) (sZ i):=⟨Cw hN hi hx hf⟩
end
section
variable{X:Cx}
theorem yg :WGs X [] JF:=⟨Cv ⟩
theorem uj{e:Expr}{es:List Expr}{t:TG}{u:TGs}(h1:WG X e t)(h2:WGs X es u)(hs:(assignEach (e::es) X.env).map (·.2)=assign e X.env::(assignEach es X.env).map (·.2):=by rfl):WGs X (e::es) (Gp t u):=⟨yV h1.h h2.h hs⟩
end
section
variable{X:Cx}{pos:Pos}
theorem BC{es:List Expr}{k:Nat}{t:TGs}{n:Nat}(hc:X.calm=true)(h:WGs X es t)(hn:(assignEach es X.env).length=n:=by rfl)(hst:(assignEach es X.env).findIdx? (·.1)=none:=by rfl):WG X (.Tuple es k pos) (JD X.K n t):=⟨Ft hc h.h hn hst⟩
theorem BD {o i : Expr} {to ti : TE} {t : G0} (ho : WE X o to) (hi : WE X i ti) (hs : Je X t) (ha : ∀ v, assign (.Subscript o i pos) X.env v = (do
   let ov <-holding [v] (eval o X.env)
   let iv <-holding [v,ov] (eval i X.env)
   standAt pos
   holding [v,ov,iv] (setItem ov iv v)
   release [v,ov,iv] []):=by intro _;rfl):WG X (.Subscript o i pos) (JE to ti t):=⟨Fu ho.h hi.h hs ha⟩
theorem ui{tg e:Expr}{te:TE}{g:TG}(he:WE X e te)(hg:WG X tg g)(hs:swapsWithSole [tg] e pos.line X.env=pure false:=by rfl)(hw:swappedStores [tg] e X.env=pure none:=by rfl)(h1:(assignEach [tg] X.env).map (·.2)=[assign tg X.env]:=by rfl):WS X (.Assign [tg] e pos) (EX te g):=⟨Fq he.h hg.h hs hw h1⟩
theorem By{i:Nat}{x:Str}{e:Expr}{te:TE}{pos':Pos}(hN:X.N.Nodup)(hi:X.N[i]?=some x)(hx:Loc X.env.scope x)(he:WE X e te)(hs:swapsWith e (some (.Name x pos')) pos.line X.env=pure false:=by rfl)(hf:X.fn x=true\/X.env.scope.names.lookup x=some .local:=by first|exact .inl rfl|exact .inr rfl|assumption):WS X (.Assign [.Name x pos'] e pos) (EX te (sZ i)):=⟨Fm hN hi hx he.h hs hf⟩
theorem uh{c:Expr}{body:List Stmt}{tc:TT}{tb:TS}(hp:PassesOwn (model X.prog X.w) X.A X.env X.xe)(hc:WT X c tc)(hb:WSs X body tb):WS X (.While c body [] pos) (uG tc tb):=⟨yR hp hc.h hb.h⟩
end
section
variable{X:Cx}{tg:Expr}
theorem yf{l:Expr}{tl:TE}(hl:WE X l tl):WI X tg l (Gn X.K tl):=⟨Cu hl.h⟩
theorem BB{l:Expr}{tl:TE}(hl:WE X l tl):WI X tg l (JC X.K tl):=⟨Fs hl.h⟩
theorem si{a:Expr}{ta:TA}{p pos:Pos}(hg:Gl X "range")(hm:X.mg "range"=none)(ha:WA X [a] ta)(hs:starEach [a] X.env=[(false,eval a X.env)]:=by rfl):WI X tg (.Call (.Name "range" p) [a] [] pos) (Gm ta):=⟨vy hg hm ha.h hs⟩
theorem BA{iter:Expr}{body:List Stmt}{wi:TI}{g:TG}{tb:TS}{pos:Pos}(hp:PassesOwn (model X.prog X.w) X.A X.env X.xe)(hc:X.calm=true)(hi:WI X tg iter wi)(hg:WG X tg g)(hb:WSs X body tb)(hs:∀x,foldedSetIterable iter X.env x=pure x:=by intro _;rfl):WS X (.For tg iter body [] pos) (HI wi g tb):=⟨Fp hp hc hi.h hg.h hb.h hs⟩
end
section
variable{X:Cx}{a b:Expr}{ta tb:TE}{pos:Pos}
theorem ED{op:Operator}{r:R2}(ho:OpR X (binaryOp op) r)(ha:WE X a ta)(hb:WE X b tb):WE X (.BinOp a op b pos) (tOp r ta tb):=⟨Ib ho ha.h hb.h⟩
end
section
variable{X:Cx}{a:Expr}{ta:TE}{pos:Pos}
theorem EC{op:UnaryOp}{r:V->Hp->VK->Prop}(ho:UnR X (unaryOp op) r)(ha:WE X a ta):WE X (.UnaryOp op a pos) (tUn r ta):=⟨Ia ho ha.h⟩
end
section
variable{X:Cx}{a b:Expr}{ta tb:TE}{pos:Pos}
theorem qB{op:CmpOp}{r:R2}(ho:OpR X (compareOp op) r)(ha:WE X a ta)(hb:WE X b tb)(hm:behindInMarks op b=false):WE X (.Compare a [op] [b] pos) (tOp r ta tb):=⟨CB ho ha.h hb.h hm⟩
theorem lT{op:CmpOp}{r:R2}(ho:OpR X (compareOp op) r)(ha:WE X a ta)(hb:WE X b tb)(hm:behindInMarks op b=false):WT X (.Compare a [op] [b] pos) (EM (tOp r ta tb)):=⟨Cm ho ha.h hb.h hm⟩
end
section
variable{X:Cx}
theorem ej :WA X [] Jl:=⟨FH ⟩
end
section
variable{X:Cx}{e:Expr}{es:List Expr}{te:TE}{t:TA}
theorem bS(ha:WE X e te)(hr:WA X es t)(hs:starEach (e::es) X.env=(false,eval e X.env)::starEach es X.env:=by rfl):WA X (e::es) (EV te t):=⟨CH ha.h hr.h hs⟩
end
section
variable{X:Cx}{es:List Expr}{t:TA}{pos:Pos}
theorem um{x1}(h:WA X es t):WE X (.Tuple es x1 pos) (Jh t):=⟨Fx h.h⟩
theorem BH(h:WA X es t):WE X (.List es pos) (Jm t):=⟨FC h.h⟩
end
section
variable{X:Cx}{x:Str}{p pos:Pos}{e:Expr}{es:List Expr}{t:TA}{id:String}{r:List V->Hp->VK->Prop}
theorem gJ(hc:bX X (.builtin id) r)(hg:Gl X x)(hm:X.mg x=none)(hv:bootBuiltins x=some (.builtin id))(ha:WA X (e::es) t)(hn:x≠"__name__":=by decide)(hdb:(x == ("__debug__":Str))=false:=by decide)(he:starEach (e::es) X.env=(false,eval e X.env)::starEach es X.env:=by rfl)(hpl:(backTo pos (starEach es X.env)).any (·.1)=false:=by rfl):WE X (.Call (.Name x p) (e::es) [] pos) (tCB r t):=⟨yZ hc hg hm hv ha.h hn hdb he hpl⟩
end
section
variable{X:Cx}{x:Str}{p pos:Pos}{e:Expr}{es:List Expr}{t:TA}{T:String}{r:List V->Hp->VK->Prop}
theorem iI(hc:bX X (.type T) r)(hg:Gl X x)(hm:X.mg x=none)(hv:bootBuiltins x=some (.type T))(ha:WA X (e::es) t)(hn:x≠"__name__":=by decide)(hdb:(x == ("__debug__":Str))=false:=by decide)(he:starEach (e::es) X.env=(false,eval e X.env)::starEach es X.env:=by rfl)(hpl:(backTo pos (starEach es X.env)).any (·.1)=false:=by rfl):WE X (.Call (.Name x p) (e::es) [] pos) (tCB r t):=⟨vA hc hg hm hv ha.h hn hdb he hpl⟩
end
section
variable{X:Cx}
theorem ye :WO X none uH:=⟨Ct ⟩
end
section
variable{X:Cx}{e:Expr}{te:TE}
theorem yd(h:WE X e te):WO X (some e) (EN te):=⟨Cs h.h⟩
end
section
variable{X:Cx}{e:Expr}{te:TE}{lo hi:Option Expr}{tl th:TO}{pos p2:Pos}
theorem nA{r:V->Option Int->Option Int->Hp->VK->Prop}(hr:SlR X r)(he:WE X e te)(hl:WO X lo tl)(hu:WO X hi th):WE X (.Subscript e (.Slice lo hi none p2) pos) (tSl r te tl th):=⟨yW hr he.h hl.h hu.h⟩
end
section
variable{X:Cx}{a b:Expr}{ta tb:TE}{pos:Pos}
theorem EE{r:R2}(hr:IxR X r)(ha:WE X a ta)(hb:WE X b tb)(hs:qq b):WE X (.Subscript a b pos) (tOp r ta tb):=⟨Ie hr ha.h hb.h hs⟩
end
section
variable{X:Cx}
variable{o e:Expr}{es:List Expr}{to:TE}{t:TA}{name:Str}{apos cpos:Pos}{T id:String}{r:V->List V->Hp->VK->Prop}
theorem qC (pa : PlainAttrs T) (slot : Slot T name id) (hty : typeOf (.builtin id) = pure (.type "method_descriptor")) (hm : MtR X id r) (ho : WE X o to) (ha : WA X (e :: es) t) (hbase : attributeBase o name X.env (eval o X.env) = eval o X.env := by rfl) (hfew : ((backTo cpos (starEach (e :: es) X.env)).all (fun x => !x.1) && (backToKw cpos (keywordEach [] X.env)).all (fun x => x.1.isSome)
   && decide ((e::es).length+([]:List Keyword).length+(if ([]:List Keyword).isEmpty then 0 else 1)<30))=true:=by rfl) (hline:(apos.endLine == cpos.line)=true:=by rfl) (hs:starEach (e::es) X.env=(false,eval e X.env)::starEach es X.env:=by rfl) (hplain:(backTo cpos (starEach es X.env)).any (·.1)=false:=by rfl):WE X (.Call (.Attribute o name apos) (e::es) [] cpos) (tBM X.K T r to t):=⟨Ig pa slot hty hm ho.h ha.h hbase hfew hline hs hplain⟩
end
section
variable{X:Cx}{o i:Expr}{pos:Pos}{td ty:TE}
theorem yi(hu:X.A.units+1<cLine)(ho:WE X o td)(hi:WE X i ty)(hs:DY i):WE X (.Subscript o i pos) (EU td ty):=⟨Cz hu ho.h hi.h hs⟩
end
section
variable{X:Cx}{o i:Expr}{td ty:TE}
theorem uu(hu:X.A.units+1<cLine)(hi:WE X i ty)(ho:WE X o td):WC X .In i o (GP ty td):=⟨FG hu hi.h ho.h⟩
theorem sk(hu:X.A.units+1<cLine)(hi:WE X i ty)(ho:WE X o td):WC X .NotIn i o (pE ty td):=⟨vB hu hi.h ho.h⟩
end
section
variable{X:Cx}{o i value:Expr}{pos pos':Pos}{td ty tv:TE}
theorem qz(hu:X.A.units+1<cLine)(ho:WE X o td)(hi:WE X i ty)(hv:WE X value tv)(hs:swapsWith value (some (.Subscript o i pos')) pos.line X.env=pure false):WS X (.Assign [.Subscript o i pos'] value pos) (E5 td ty tv):=⟨Cq hu ho.h hi.h hv.h hs⟩
end
section
variable{X:Cx}{pos:Pos}
theorem uq :WE X (.Dict [] [] pos) Ao:=⟨yY ⟩
theorem uo :WE X (.Dict [] [] pos) An:=⟨yX ⟩
end
section
variable{X:Cx}
theorem wpv(i:Nat){x:Str}{pos:Pos}(hN:X.N[i]?=some x:=by rfl)(hv:Vis X.env.scope x:=by first|exact Or.inl rfl|exact Or.inr (Or.inl rfl)|exact Or.inr (Or.inr rfl))(hd:(x == ("__debug__":Str))=false:=by decide)(hcd:(x == ("__classdict__":Str))=false:=by decide):WE X (.Name x pos) (GO i):=⟨pv i hN hv hd hcd⟩
end
theorem WW.pt{X:Cx}{e:Expr}{t:TT}(h:WW X e t):WT X e t:=⟨h.h.pt⟩
section
variable{X:Cx}{e:Expr}
def tK(i j:Int):Prop:=0<j/\j.natAbs.log2<9000
theorem rm:OpR X (binaryOp .FloorDiv) (rI tK fun i j=>.int (i / j)):=opI fun i j _ _ _ _ _ hc q=>by
 refine PyProof.Rows.floordiv_int (by have:=hc.1;omega) ?_ (.inl (PyProof.noPylong_of_log2 hc.2));rw[Int.fdiv_eq_ediv_of_nonneg i (Int.le_of_lt hc.1)];exact q
theorem pM:OpR X (compareOp .IsNot) (fun x y H Q=>∃k l,x=.bl k/\y=.bl l/\Q (.bl (k !=l)) H):=by
 rintro pins s σ H x y v u Q I rx ry ⟨k,l,rfl,rfl,q⟩;cases rx;cases ry;exact PyProof.Rows.isnot_bool ⟨.bl (k !=l),H,I,rfl,q⟩
theorem qi:bX X (.builtin "isinstance") (fun xs H Q=>∃(x:V) (T:String) (t:Value) (k:Bool),xs=[x,.ty T]/\rZ X.K H x t/\PySem.W.kitOne X.K t (.type T)=some k/\Q (.bl k) H):=by
 rintro pins s σ H xs us Q I r ⟨x,T,t,k,rfl,ty,e,q⟩;obtain⟨u,w',rfl,ru,rw'⟩:=su r;cases rw';exact wj I ru ty e fun tk=>⟨.bl k,H,I.tok tk,rfl,q⟩
end
theorem eA{H:Hp}{p:Addr}(h:H p=none)(o:HO):sd H (upd H p o):=fun b u q=>by rw[aT (bY q h)];exact q
def Def(K:Q4)(mg:Str->Option Value)(x:Str)(st:Stmt)(ps:List Str):Prop:=
 ∃f fd,Fun K x x st f fd/\qu K fd ps []/\mg x=some (.ref f)
def Has(P:Program)(w:World)(K:Q4)(mg:Str->Option Value)(base:Heap)(x:Str)(k:Nat)(ps:List Str)(sp:Sp):Prop:=
 ∃f fd,pd P w K mg base CX0 k f fd ps sp/\qu K fd ps []/\PySem.W.keepIn K (.ref f)=true/\mg x=some (.ref f)
section
variable{P:Program}{w:World}{K:Q4}{mg:Str->Option Value}{base:Heap}{x:Str}{st:Stmt}{ps N:List Str}{k j:Nat}{sp:Sp}
theorem Has.mono(h:Has P w K mg base x j ps sp)(l:j<=k):Has P w K mg base x k ps sp:=by
 obtain⟨f,fd,a,b,c,d⟩:=h;exact⟨f,fd,a.mono l,b,c,d⟩
theorem Def.has(d:Def K mg x st ps)(S:aX N ps (aC st))(len:∀vs H Q E,sp vs H Q E->vs.length=ps.length)
  (hbody:∀(f:Addr) (cdv:Value) (A:Around) (outer:List Env) (s:Shared) (H:Hp) (vs:List V) (Q:VK) (E:XK),kH k (A.deeper (envOfC x (aC st) s.heap.objs.size f cdv))->sp vs H Q E->
   ∃t,WSs (xT CX0 P w K mg base N x (aC st) f cdv A outer s H E).nox (dj st) t/\t { nx:=fun _ H'=>Q .non H',rt:=Q } (gK N vs) H):Has P w K mg base x (k+1) ps sp:=by
 obtain⟨f,fd,F,b,m⟩:=d;exact⟨f,fd,F.ok S len (fun cdv A outer s H vs Q E hr h=>let ⟨t,a,b⟩:=hbody f cdv A outer s H vs Q E hr h;⟨t,a.h,b⟩),b,F.kp,m⟩
end
theorem EF{X:Cx}{k:Nat}{ps:List Str}{sp:Sp}{x:Str}{p pos:Pos}{e:Expr}{es:List Expr}{t:TA}(F:Has X.prog X.w X.K X.mg X.base x k ps sp)(hr:kH k X.A)(hg:Gl X x)
  (ha:WA X (e::es) t) (hdb:(x == ("__debug__":Str))=false:=by decide) (he:starEach (e::es) X.env=(false,eval e X.env)::starEach es X.env:=by rfl) (hpl:(backTo pos (starEach es X.env)).any (·.1)=false:=by rfl) :
  WE X (.Call (.Name x p) (e::es) [] pos) (EW sp [] E0 t):=by
 obtain⟨f,fd,a,b,c,d⟩:=F;exact⟨CC a hr hg d c b .nil Ik ha.h hdb he hpl⟩
structure Blt(mg:Str->Option Value):Prop where
 len:mg "len"=none
 isinstance:mg "isinstance"=none
 int:mg "int"=none
 bool:mg "bool"=none
 str:mg "str"=none
 tuple:mg "tuple"=none
 list:mg "list"=none
 range:mg "range"=none
 min:mg "min"=none
 sum:mg "sum"=none
 all:mg "all"=none
 zip:mg "zip"=none
 sorted:mg "sorted"=none
 dict:mg "dict"=none
 enumerate:mg "enumerate"=none
 any:mg "any"=none
 max:mg "max"=none
 set:mg "set"=none
theorem Aq{n:Nat}(h:n<=1000):n<=sizeLine:=Zb (uL h)
theorem sT{n:Nat}(h:n<2^60):n.log2<1920:=by
 by_cases e:n=0
 ·subst e;decide
 ·have:=(Nat.log2_lt e).mpr h;omega
theorem mY:bootBuiltins "int"=some (.type "int"):=rfl
theorem oS:bootBuiltins "bool"=some (.type "bool"):=rfl
theorem fO:bootBuiltins "tuple"=some (.type "tuple"):=rfl
theorem cg:bootBuiltins "list"=some (.type "list"):=rfl
theorem kF:bootBuiltins "isinstance"=some (.builtin "isinstance"):=rfl
theorem z9:bootBuiltins "min"=some (.builtin "min"):=rfl
theorem Aa:bootBuiltins "max"=some (.builtin "max"):=rfl
theorem jD:bootBuiltins "all"=some (.builtin "all"):=rfl
theorem Ab:bootBuiltins "any"=some (.builtin "any"):=rfl
theorem eE:bootBuiltins "sorted"=some (.builtin "sorted"):=rfl
theorem uk{X:Cx}{x:Str}{T:String}{pos:Pos}(hg:Gl X x)(hm:X.mg x=none)(hv:bootBuiltins x=some (.type T))(hn:x≠"__name__":=by decide)(hd:(x == ("__debug__":Str))=false:=by decide):WE X (.Name x pos) (tC (.ty T)):=
 ⟨CD hg hm hv rfl hn hd⟩
theorem yh{X:Cx}{x:Str}{i:Int}{pos:Pos}(hg:Gl X x)(hm:∃t,X.mg x=some (.int i t))(hd:(x == ("__debug__":Str))=false:=by decide):WE X (.Name x pos) (tC (.int i)):=by
 obtain⟨t,hm⟩:=hm;exact⟨Cy hg hm ⟨t,rfl⟩ hd⟩
theorem Fun.okW{P:Program}{w:World}{K:Q4}{mg:Str->Option Value}{base:Heap}{x qual:Str}{st:Stmt}{f:Addr}{fd:FuncData}{N ps:List Str}{k:Nat}{sp:Sp}(F:Fun K x qual st f fd)(S:aX N ps (aC st))(len:∀vs H Q E,sp vs H Q E->vs.length=ps.length)
  (hbody:∀(cdv:Value) (A:Around) (outer:List Env) (s:Shared) (H:Hp) (vs:List V) (Q:VK) (E:XK),kH k (A.deeper (envOfC qual (aC st) s.heap.objs.size f cdv))->sp vs H Q E->
   ∃t,WSs (xT CX0 P w K mg base N qual (aC st) f cdv A outer s H E).nox (dj st) t/\t { nx:=fun _ H'=>Q .non H',rt:=Q } (gK N vs) H):pd P w K mg base CX0 (k+1) f fd ps sp:=
 F.ok S len fun cdv A outer s H vs Q E hr h=>let ⟨t,a,b⟩:=hbody cdv A outer s H vs Q E hr h;⟨t,a.h,b⟩
def se(env:Env):List (Str×Addr)->Prop
 |[]=>True
 |p::r=>env.cells.lookup p.1=some p.2/\se env r
theorem se.look{env:Env}:∀{cl:List (Str×Addr)} {y:Str} {c:Addr},se env cl->cl.lookup y=some c->env.cells.lookup y=some c
 |[],_,_,_,h=>by simp at h
 |(n,d)::r,y,c,a,h=>by
  obtain⟨a1,a2⟩:=a;rw[List.lookup_cons]at h;by_cases e:(y == n)=true
  ·rw[e]at h;have e':y=n:=by simpa using e
   subst e';cases h;exact a1
  ·have e':(y == n)=false:=by simpa using e
   rw[e']at h;exact se.look a2 h
abbrev cxC(X:Cx)(Nc:List Str)(scope:Scope)(cl:List (Str×Addr))(s3:Shared)(H3:Hp)(fp:List Addr):Cx where
 prog:=X.prog
 w:=X.w
 K:=X.K
 mg:=X.mg
 base:=X.base
 A:=X.A
 N:=Nc
 s₀:=s3
 H₀:=H3
 env:=compEnvC scope cl s3.heap.objs.size X.env
 outer:=X.stack
 stack:=X.stack
 ex:=fp
 fn:=fun _=>false
 calm:=X.calm
 pn:=[]
 xe:=fun _ _=>False
def stC(n:Nat)(caps:List Nat)(σ:L2.St):L2.St:=ZU n none++caps.map fun i=>(σ[i]?).getD none
def BX(wi:TI)(g:TG)(te:TE)(n:Nat)(caps:List Nat):TE:=fun σ H Q=>wi σ H fun J H1=>∀l,H1 l=none->∃W:Nat->Nat->L2.St->Hp->Prop,(∃m,W 0 m (stC n caps σ) (upd H1 l (.lst [])))/\
 ∀i m σ' H2,W i m σ' H2->(J.stop i H2/\Q (.ref l) H2)\/(J.go i H2/\∃N:L2.St->Hp->Prop,(∀σ'' H',N σ'' H'->∃m',m'<m/\W (i+1) m' σ'' H')/\
  ∀x H3,J.yld i H2 x H3->g x σ' H3 fun σ2 H4=>te σ2 H4 fun v H5=>∃ys,H5 l=some (.lst ys)/\ys.length<sizeLine/\N σ2 (upd H5 l (.lst (ys++[v]))))
theorem oM{prog:Program}{w:World}{A:Around}{R:Result->Shared->Prop}{s:Shared}{elt target iter:Expr}{scope:Scope}{pos:Pos}{it acc:Value}{env:Env}(I:Nat->Shared->Prop)
  (turn:∀n s,I n s->wpAny (model prog w) A (pyNext it) (fun r s₁=>match r with
   |none=>R (.ok .next) s₁
   | some v=>wpAny (model prog w) A (letOwnedTupleGo target it v) (fun _ s₁'=>wpAny (model prog w) A (assign target env v) (fun _ s₂=>wpAny (model prog w) A (eval elt env) (fun x s₃=>
     wpAny (model prog w) A (call (.builtin "list.append") [acc,x]) (fun _ s₄=>∃m,m<n/\I m s₄) (fun _ _=>False) s₃)
     (fun _ _=>False) s₂) (fun _ _=>False) s₁') (fun _ _=>False) s₁) (fun _ _=>False) s)
  (n:Nat) (h:I n s) :
  codeAny (model prog w) A (.compLoop (.ListComp elt [⟨target,iter,[],0⟩] scope pos) 0 it acc env) R s:=by
 refine codeAny_loop rfl I (fun n s hI=>?_) n h;show wpAny _ _ ((compTurn (.ListComp elt [⟨target,iter,[],0⟩] scope pos) 0 it acc env).onRaise (fun x=>do noteFrame x env;theTreesLotGoes x)) _ _ s;refine wpAny_noted ?_;rw[compTurn_list1];refine Q0 (wpAny_standAt (Q0 (ZY (turn n s hI) (fun r s₁ h₁=>?_) fun _ _ h'=>h'.elim)));cases r with
 |none=>exact Q5 h₁
 |some v=>
  refine Q0 (ZY h₁ (fun _ s₁' h₁'=>?_) fun _ _ h'=>h'.elim);exact Q0 (ZY h₁' (fun _ s₂ h₂=>Q0 (Q0 (ZY h₂ (fun x s₃ h₃=>Q0 (ZY h₃
   (fun _ s₄ h₄=>Q5 (Q5 ⟨rfl,h₄⟩)) fun _ _ h'=>h'.elim)) fun _ _ h'=>h'.elim))) fun _ _ h'=>h'.elim)
section
variable{X:Cx}{pins:List (Addr×Obj)}{σ:L2.St}{H:Hp}{s:Shared}{Nc capN:List Str}{scope:Scope}{cl:List (Str×Addr)}{fp:List Addr}{n:Nat}{caps:List Nat}
def Cap(X:Cx)(scope:Scope)(cl:List (Str×Addr))(i:Nat)(y:Str):Prop:=X.N[i]?=some y/\X.env.scope.names.lookup y=some .cell/\(relabel scope X.env).names.lookup y=some .cell/\∃c,cl.lookup y=some c
theorem Inv.comp{h1:Heap}{t':Nat}(I:Inv X pins σ H s)(hc:X.calm=true)(f2:∀b∈fp,tV X pins H b)(fo:∀b∈fp,b<s.heap.objs.size)(hkind:scope.kind=.function)(hcl:se X.env cl)
  (hhas:((relabel scope X.env).names.all fun p=>!(p.2 == .cell||p.2 == .free)||(cl.lookup p.1).isSome)=true)
  (hcap:Paired (Cap X scope cl) caps capN) (tn:List Str) (hN:Nc=tn++capN) (hn:tn.length=n)
  (hns:h1.Ns s.heap.objs.size (fun _=>none)) (hk:∀b o,s.heap.get? b=some o->h1.get? b=some o) :
  Inv (cxC X Nc scope cl s H fp) [] (stC n caps σ) H { s with heap:=h1,toks:=t' }:=by
 have lkc:∀y c,cl.lookup y=some c->X.env.cells.lookup y=some c:=fun y c e=>hcl.look e;refine⟨⟨I.ok.mod,?_,I.ok.glob,I.ok.blt,QJ _,fun x y c a b=>I.ok.inj x y c (lkc _ _ a) (lkc _ _ b),fun x hx=>?_,fun x c z=>(nomatch z),I.ok.hd,I.ok.frames,.inl rfl,fun b hb=>⟨QL (fo b hb),fun x c e=>(f2 b hb).2.2.2.2.1 x c (lkc _ _ e)⟩,I.bs,Qc I.ok.bsz I.sz,
  fun b o e hb=>?_,fun b hb z=>?_,I.stack,I.stkFree⟩,rfl,I.bare,Un.kept hk,⟨_,hns,fun i y v h1' h2 h3=>?_⟩,fun y c e=>?_,I.hok.fresh (QJ _),fun y c e=>I.freeC y c (lkc _ _ e),fun p hp=>(by simp at hp),I.hok.kept hk,?_⟩
 ·exact hkind
 ·have hx':(relabel scope X.env).names.lookup x=some .cell\/(relabel scope X.env).names.lookup x=some .free:=hx;have mem:∀{k},(relabel scope X.env).names.lookup x=some k->(x,k)∈(relabel scope X.env).names:=fun{k} e=>by
   generalize (relabel scope X.env).names=L at e;induction L with
   |nil=>simp at e
   |cons p r ih=>
    obtain⟨a,b⟩:=p;rw[List.lookup_cons]at e;by_cases q:(x == a)=true
    ·rw[q]at e;cases e;have:x=a:=by simpa using q
     subst this;exact QK
    ·rw[show(x == a)=false by simpa using q]at e;exact QU _ (ih e)
  have fin:∀{k},(k=NameKind.cell\/k=.free)->(relabel scope X.env).names.lookup x=some k->∃c,cl.lookup x=some c:=fun{k} hk' e=>by
   have:=List.all_eq_true.mp hhas _ (mem e);dsimp only at this;have q:(cl.lookup x).isSome=true:=by
    rcases hk' with z|z<;>subst z<;>simpa using this
   exact Option.isSome_iff_exists.mp q
  rcases hx' with e|e
  ·exact fin (.inl rfl) e
  ·exact fin (.inr rfl) e
 ·rcases(f2 b hb).2.2.2.1 with z|z
  ·exact I.ok.noex b o e z
  ·exact absurd (Qj (QX e) I.ok.bsz) (Zl.mpr z)
 ·rcases QH.mp (I.stkSub b z)with q|q
  ·exact(f2 b hb).2.1 q
  ·exact(f2 b hb).2.2.1 q
 ·obtain⟨m,hm,hl⟩:=I.loc;have h2':(stC n caps σ)[i]?=some (some v):=h2;have h1'':Nc[i]?=some y:=h1';unfold stC at h2';by_cases hi:i<n
  ·rw[Qz (by simpa using hi),X1,if_pos hi]at h2';cases h2'
  ·rw[QN (by simp;omega),List.length_replicate,Qr]at h2';rw[hN,QN (by omega),hn]at h1'';have key:∀(j:Nat) {caps:List Nat} {capN:List Str},Paired (Cap X scope cl) caps capN->capN[j]?=some y->(Option.map (fun i=>(σ[i]?).getD none) caps[j]?)=some (some v)->∃k,Cap X scope cl k y/\σ[k]?=some (some v):=by
    intro j;induction j with
    |zero=>
     intro caps capN P e1 e2;cases P with
     |nil=>simp at e1
     |@cons a b l r p t=>
      simp at e1 e2;subst e1;cases q:σ[a]? with
      |none=>rw[q]at e2;simp at e2
      |some w'=>rw[q]at e2;simp at e2;subst e2;exact⟨a,p,q⟩
    |succ j ih=>
     intro caps capN P e1 e2;cases P with
     |nil=>simp at e1
     |cons p t=>exact ih t (by simpa using e1) (by simpa using e2)
   obtain⟨k,⟨c1,c2,c3,c,c4⟩,e⟩:=key _ hcap h1'' h2';obtain⟨u,r,lk⟩:=hl k y v c1 e (.inr (.inl c2));refine⟨u,r,.inr ⟨.inl c3,c,c4,?_⟩⟩;rcases lk with⟨z,_⟩|⟨_,c',e',o,ho,hd⟩
   ·have z':X.env.scope.names.lookup y=some .local:=z;rw[c2]at z';cases z'
   ·rw[lkc _ _ c4]at e';cases e';exact⟨o,hk _ _ ho,hd⟩
 ·obtain⟨v,o,ho,hd⟩:=I.cell y c (lkc _ _ e);exact⟨v,o,hk _ _ ho,hd⟩
 ·show(stC n caps σ).length=Nc.length;have pl:caps.length=capN.length:=Paired.length hcap;unfold stC;rw[QV,List.length_replicate,Q9,hN,QV,hn,pl]
end
theorem zV{X:Cx}{Nc capN tn:List Str}{scope:Scope}{cl:List (Str×Addr)}{n:Nat}{caps:List Nat}{tg iter elt:Expr}{pos:Pos}{wi:TI}{g:TG}{te:TE}
  (hc:X.calm=true) (hi:WI X tg iter wi) (hg:∀s3 H3 fp,WG (cxC X Nc scope cl s3 H3 fp) tg g) (he:∀s3 H3 fp,WE (cxC X Nc scope cl s3 H3 fp) elt te)
  (hclos:closureFor scope X.env=pure cl) (hkind:scope.kind=.function) (hnl:∀x∈scope.names,x.2=.local->scope.names.lookup x.1=some .local) (hcell:∀x∈scope.names,x.2≠.cell)
  (hcl:se X.env cl) (hhas:((relabel scope X.env).names.all fun p=>!(p.2 == .cell||p.2 == .free)||(cl.lookup p.1).isSome)=true)
  (hcap:Paired (Cap X scope cl) caps capN) (hN:Nc=tn++capN) (hn:tn.length=n)
  {use:Option (Value->Sem Unit)} {pins:List (Addr×Obj)} {σ:L2.St} {H:Hp} {s:Shared} {Q:VK} {Qf:Value->Shared->Prop} (I:Inv X pins σ H s) (h:BX wi g te n caps σ H Q)
  (hend:∀(D C:Addr) (s6:Shared) (H5:Hp) (m:Str->Option Value),Inv X pins σ H5 s6->s6.heap.Ns C m->H5 C=none->C≠X.env.locals->X.s₀.heap.objs.size<=C->(∀x c,X.env.cells.lookup x=some c->c≠C)->(∀p∈X.pn++pins,p.1≠C)->Q (.ref D) H5->compPost (model X.prog X.w) X.A X.xe use Qf (.ref D) C (.ok .next) s6)
  (hs:∀x,foldedSetIterable iter X.env x=pure x) :
  wpAny (model X.prog X.w) X.A (comprehension (.ListComp elt [⟨tg,iter,[],0⟩] scope pos) scope X.env (firstIterPos [⟨tg,iter,[],0⟩] pos) (newList []) (firstAsync [⟨tg,iter,[],0⟩]) (firstIter [⟨tg,iter,[],0⟩] X.env) use) Qf X.xe s:=by
 refine wpAny_comprehension_free (use:=use) (g:=⟨tg,iter,[],0⟩) (gs:=[]) rfl hs hclos hkind hnl (thn (hi.h pins s σ H _ I h) fun v s1 h1=>thn h1 fun itv s2 h2=>?_);obtain⟨it,fp,tnn,J,H2,rfl,I2,T,st2,f2,hW⟩:=h2;have hD:=I2.fresh;obtain⟨W,⟨m0,w0⟩,turn⟩:=hW _ hD;refine wpAny_newObj_type (wpAny_newFunctionEnv hcell (by intro y hy;simp at hy) (fun h₁ hns₁ hsb₁=>?_) hkind);dsimp only at hns₁ hsb₁ ⊢;have I3:Inv X pins σ (upd H2 s2.heap.objs.size (.lst [])) { s2 with heap:=s2.heap.push { cls:=.type "list",dict:=none,data:=.seq ([]:List Value).toArray },toks:=s2.toks }:=I2.lnew (its:=[]) .nil (ZQ _);generalize hs3:({ s2 with heap:=s2.heap.push { cls:=.type "list",dict:=none,data:=.seq ([]:List Value).toArray },toks:=s2.toks }:Shared)=s3 at I3;have es3:s3.heap=s2.heap.push { cls:=.type "list",dict:=none,data:=.seq ([]:List Value).toArray }:=by rw[<-hs3]
 generalize hDD:s2.heap.objs.size=D at *;have kept:∀b o,s3.heap.get? b=some o->h₁.get? b=some o:=fun b o e=>by
  have lt:=QX e;rw[es3]at lt e;exact hsb₁.extBut b o (QL lt) (Q3 _ e)
 have old:∀b o,s2.heap.get? b=some o->s3.heap.get? b=some o:=fun b o e=>by rw[es3];exact Q3 _ e
 have ltD:∀b∈fp,b<D:=fun b hb=>by
  obtain⟨o,e,_⟩:=T.obj 0 _ st2 b hb;rw[<-hDD];exact QX e
 have fo:∀b∈fp,b<s3.heap.objs.size:=fun b hb=>by
  obtain⟨o,e,_⟩:=T.obj 0 _ st2 b hb;exact QX (old _ _ e)
 have f3:∀b∈fp,tV X pins (upd H2 D (.lst [])) b:=fun b hb=>by
  refine⟨?_,(f2 b hb).2⟩;rw[aT (QL (ltD b hb))];exact(f2 b hb).1
 rw[<-es3]at hns₁ hsb₁ ⊢;have Ic:=fun t'=>Inv.comp (h1:=h₁) (t':=t') (Nc:=Nc) (n:=n) I3 hc f3 fo hkind hcl hhas hcap tn hN hn hns₁ kept;have stat:∀{H':Hp},(∀b∈fp,H' b=none)->∀b∈fp,tV (cxC X Nc scope cl s3 (upd H2 D (.lst [])) fp) [] H' b:=fun hn' b hb=>by
  refine⟨hn' b hb,QL (fo b hb),fun z=>?_,.inl hb,fun x c e=>(f2 b hb).2.2.2.2.1 x c (hcl.look e),fun p hp=>(by simp at hp)⟩;rcases QH.mp (I3.stkSub b z)with q|q
  ·exact(f2 b hb).2.1 q
  ·exact(f2 b hb).2.2.1 q
 have loop:∀s4:Shared,(∃t',s4={ s3 with heap:=h₁,toks:=t' })->codeAny (model X.prog X.w) X.A (.compLoop (.ListComp elt [⟨tg,iter,[],0⟩] scope pos) 0 (.ref it) (.ref D) (compEnvC scope cl s3.heap.objs.size X.env))
   (compPost (model X.prog X.w) X.A X.xe use Qf (.ref D) s3.heap.objs.size) s4:=by
  rintro s4 ⟨t',rfl⟩;refine oM (fun n' s'=>∃i σ' H',Inv (cxC X Nc scope cl s3 (upd H2 D (.lst [])) fp) [] σ' H' s'/\tnn i s'.heap/\(∀b∈fp,H' b=none)/\W i n' σ' H') ?_ m0
   ⟨0,_,_,Ic t',T.keep 0 _ _ st2 fun b hb o e=>kept _ _ (old _ _ e),fun b hb=>(f3 b hb).1,w0⟩
  rintro n' s5 ⟨i,σ5,H5,I5,st5,fr5,w5⟩;rcases turn i n' σ5 H5 w5 with⟨stop,qn⟩|⟨go,N,hN',step⟩
  ·refine thn (T.done (cxC X Nc scope cl s3 (upd H2 D (.lst [])) fp) rfl rfl rfl hc i [] s5 σ5 H5 (fun _ _=>False) I5 (stat fr5) st5 stop) fun r s6 ⟨hr,I6⟩=>?_;subst hr;obtain⟨m,hm,_⟩:=I6.loc;have I7:Inv X pins σ H5 s6:=Inv.call' (ch:=fp) I3 I6.os I6.base I6.hok I6.bare fun b hb=>⟨(f2 b hb).2.2.2.1,(f2 b hb).2.1,(f2 b hb).2.2.2.2.1,(f2 b hb).2.2.2.2.2⟩;exact hend D _ s6 H5 m I7 hm I6.free (Ne.symm (QL I3.lt)) I3.sz (fun x c e=>by
     obtain⟨v',o,ho,_⟩:=I3.cell x c e;exact QL (QX ho)) (fun p hp=>QL (QX (I3.pin p hp).1)) qn
  ·refine thn (T.item (cxC X Nc scope cl s3 (upd H2 D (.lst [])) fp) rfl rfl rfl hc i [] s5 σ5 H5 (fun _ _=>False) I5 (stat fr5) st5 go) fun r s6 ⟨u,hr,h6⟩=>?_;subst hr;refine thn h6 fun _ s7 hz=>?_;obtain⟨x,H7,I7,r7,y7,st7,fr7⟩:=hz;have I7':=I7.pinned (stat fr7) (T.obj _ _ st7);refine thn ((hg s3 (upd H2 D (.lst [])) fp).h _ s7 σ5 H7 x u _ I7' r7 (step x H7 y7)) fun _ s8 hz=>?_;obtain⟨σ8,H8,I8,q8⟩:=hz;refine thn ((he s3 (upd H2 D (.lst [])) fp).h _ s8 σ8 H8 _ I8 q8) fun v9 s9 hz=>?_;obtain⟨x9,H9,I9,r9,ys,hy,hlt,q9⟩:=hz;refine thn (jT (X:=cxC X Nc scope cl s3 (upd H2 D (.lst [])) fp) _ s9 σ8 H9 (.ref D) [x9] (.ref D) [v9] (fun _ H'=>N σ8 H') I9 rfl (.cons r9 .nil) ⟨D,ys,x9,rfl,rfl,hy,hlt,q9⟩) fun _ s10 hz=>?_;obtain⟨_,H10,I10,_,q10⟩:=hz;obtain⟨m',hm,w10⟩:=hN' σ8 H10 q10;refine⟨m',hm,i+1,σ8,H10,I10.unpinned,T.keep _ _ _ st7 fun b hb o e=>(I10.pin (b,o) (Qm _ (Qm _ (cY hb e)))).1,fun b hb=>?_,w10⟩;obtain⟨o,e,d⟩:=T.obj _ _ st7 b hb;exact(I10.pin (b,o) (Qm _ (Qm _ (cY hb e)))).2.1
 have e4:∀t',({ s2 with heap:=h₁,toks:=t' }:Shared)={ s3 with heap:=h₁,toks:=t' }:=fun t'=>by rw[<-hs3]
 refine codeAny_compStart_list (loop _ ⟨_,e4 _⟩) (T.self _ 0 _ _ _ (T.keep 0 _ _ st2 fun b hb o e=>kept _ _ (old _ _ e)) (loop _ ⟨_,e4 _⟩))
theorem qA{X:Cx}{Nc capN tn:List Str}{scope:Scope}{cl:List (Str×Addr)}{n:Nat}{caps:List Nat}{tg iter elt:Expr}{pos:Pos}{wi:TI}{g:TG}{te:TE}
  (hc:X.calm=true) (hi:WI X tg iter wi) (hg:∀s3 H3 fp,WG (cxC X Nc scope cl s3 H3 fp) tg g) (he:∀s3 H3 fp,WE (cxC X Nc scope cl s3 H3 fp) elt te)
  (hclos:closureFor scope X.env=pure cl) (hkind:scope.kind=.function) (hnl:∀x∈scope.names,x.2=.local->scope.names.lookup x.1=some .local) (hcell:∀x∈scope.names,x.2≠.cell)
  (hcl:se X.env cl) (hhas:((relabel scope X.env).names.all fun p=>!(p.2 == .cell||p.2 == .free)||(cl.lookup p.1).isSome)=true)
  (hcap:Paired (Cap X scope cl) caps capN) (hN:Nc=tn++capN) (hn:tn.length=n)
  (hs:∀x,foldedSetIterable iter X.env x=pure x:=by intro _;rfl) :
  WE X (.ListComp elt [⟨tg,iter,[],0⟩] scope pos) (BX wi g te n caps):=by
 constructor;intro pins s σ H Q I h;rw[eval_ListComp];refine zV hc hi hg he hclos hkind hnl hcell hcl hhas hcap hN hn I h (fun D C s6 H5 m I7 hm fr nl sz cn pn qn=>⟨m,hm,fun h' hs'=>?_⟩) hs;exact⟨.ref D,H5,I7.turned (t':=s6.toks) (it:=C) (fun b o hb e=>hs'.extBut b o hb e) fr nl (.inr sz) cn pn,rfl,qn⟩
section
variable{X:Cx}
theorem pC:∀{bs:List Bool} {us:List Value} {i:Nat} {v:Value},a5 (bs.map V.bl) us->us[i]?=some v->∃b,bs[i]?=some b/\v=.bool b
 |[],_,_,_,r,e=>by cases r;simp at e
 |b::bs,_,0,_,.cons r _,e=>by
  have r':_=Value.bool b:=r;simp at e;subst e;exact⟨b,by simp,r'⟩
 |b::bs,_,i+1,v,.cons _ t,e=>by
  obtain⟨b',e1,e2⟩:=pC (i:=i) (v:=v) t (by simpa using e);exact⟨b',by simpa using e1,e2⟩
theorem Af(bs:List Bool):(Qy bs.length).all (fun i=>(bs[i]?).getD true)=bs.all id:=by
 rw[ZE,List.all_eq_true,List.all_eq_true];constructor
 ·intro h b hb;obtain⟨i,hi,e⟩:=List.mem_iff_getElem.mp hb;have:=h i (Qb.mpr hi);rw[Q6 hi,Ql,e]at this;exact this
 ·intro h i hi;have hi':=Qb.mp hi;have:=h _ (Z9 hi');rw[Q6 hi',Ql];exact this
theorem vL{h:Heap}{b:Addr}{o:Obj}(e:h.get? b=some o):¬b∈[h.objs.size]:=fun z=>by
 have z':b=h.objs.size:=by simpa using z
 exact absurd (QX e) (by rw[z'];exact Nat.lt_irrefl _)
theorem jA(hc:X.calm=true):bX X (.builtin "all") (fun xs H Q=>∃(p:Addr) (bs:List Bool),xs=[.ref p]/\SqL X.K H p (bs.map V.bl)/\Q (.bl (bs.all id)) H):=by
 intro pins s σ H xs us Q I r h;obtain⟨p,bs,rfl,hq,q⟩:=h;obtain⟨u,rfl,rx⟩:=fP r;cases rx;obtain⟨its,rv,pl,hz⟩:=I.list hq;have hlen:=rv.length;rw[Q9]at hlen;refine call_all_walk (wpAny_pyIter_list pl.isList ?_);have lt:p<s.heap.objs.size:=by obtain⟨o,e,_⟩:=pl.isList;exact QX e
 refine⟨s.heap.objs.size,_,_,_,_,_,fun i=>(bs[i]?).getD true,rfl,Walks.list (show X.A.in1.handled=none from I.ok.hd hc) s.heap.objs.size p (QL lt) its.toArray,⟨⟨_,QY _ rfl,rfl,rfl⟩,pl.isList.at fun o e=>Q3 _ e⟩,?_,fun h' tk hk=>?_⟩
 ·intro i v s' Q' E' hP hQ;have hP':its.toArray[i]?=some v:=hP;obtain⟨b,e1,e2⟩:=pC rv (by simpa using hP');subst e2;dsimp only at hQ;rw[e1,Ql]at hQ;exact wpAny_truthy_bool hQ
 ·have e:(Qy its.toArray.size).all (fun i=>(bs[i]?).getD true)=bs.all id:=by
   rw[QC,<-hlen];exact Af bs
  rw[e];exact⟨.bl (bs.all id),H,I.kept fun b o e=>hk b o (vL e) (Q3 _ e),rfl,q⟩
end
open PySem.AutoSeq1 (wpAny_loadPart')
theorem zX{prog:Program}{w:World}{A:Around}{E:Value->Shared->Prop}{s:Shared}{t b:Addr}{vs ws:List Value}{Q:Value->Shared->Prop}(ht:IsTup s.heap t vs.toArray)(hb:IsTup s.heap b ws.toArray)(hv:vs=[])
  (h1:Q (.ref b) s):wpAny (model prog w) A (binaryOp .Add (.ref t) (.ref b)) Q E s:=by
 obtain⟨⟨cls,dd,data,sl⟩,ho,hc,n,hd⟩:=id ht;obtain⟨⟨cls2,dd2,data2,sl2⟩,ho2,hc2,n2,hd2⟩:=id hb;simp only at hc hd hc2 hd2;subst hc hd hc2 hd2;exact concat_meets ⟨_,ho,rfl⟩ ⟨_,ho2,rfl⟩ noFill_tuple_add seq_tuple_add PySem.F.slot_tuple_add PySem.F.entry_tuple_add (PySem.F.args_tuple_add_2 _ _)
   (tuple_addW0 t b vs.toArray ws.toArray n n2 dd dd2 sl sl2 (by simp[hv])) ⟨ho,ho2,h1⟩
theorem vX{m:Int}(h0:0<=m)(h:m<2^60):m.natAbs.log2<9000:=by
 have:=sT (n:=m.natAbs) (by omega);omega
end OG
namespace OP
open PySem PySem.Spec PyProof.Rows L2 OG
inductive U where
 |non|bl (b:Bool)|int (i:Int)|str (x:Str)|tup (us:List U)|ref (l:Nat)|kl (ns:List Int)
structure Cl where
 C:Addr
 ns:List Str
inductive O where
 |lst (us:List U)|dic (kvs:List (Key×U))|ins (c:Cl) (fs:List (Option U))|fdc (ep:Nat) (kvs:List (Key×U))|dit (kvs:List (List Key×U))|fdt (ep:Nat) (kvs:List (List Key×U))|dnt (kvs:List (List (List Int)×U))|fdn (ep:Nat) (kvs:List (List (List Int)×U))
abbrev Sto:=List O
abbrev Rho:=List (Option U)
def KL(K:Q4)(H:Hp)(a:Addr)(ns:List Int):Prop:=
 (∃o,H a=some (.frz o (.lst (ns.map V.int))))\/
  ∃(o:Obj) (its:Array Value) (n:Nat),K.lookup a=some o/\o.cls=.type "list"/\o.dict=none/\o.data=.seq its n/\its.size<=sizeLine/\a5 (ns.map V.int) its.toList
theorem KL.sq{K:Q4}{H:Hp}{a:Addr}{ns:List Int}(h:KL K H a ns):SqL K H a (ns.map V.int):=by
 rcases h with h|h
 ·exact .inl (.inr h)
 ·exact .inr h
mutual
def Is(K:Q4)(m:List Addr)(H:Hp):V->U->Prop
 |v,.non=>v=.non
 |v,.bl b=>v=.bl b
 |v,.int i=>v=.int i
 |v,.str x=>v=.str x
 |v,.tup us=>∃a xs,v=.ref a/\SqT K H a xs/\IsL K m H xs us
 |v,.ref l=>∃a,m[l]?=some a/\v=.ref a
 |v,.kl ns=>∃a,v=.ref a/\KL K H a ns
def IsL(K:Q4)(m:List Addr)(H:Hp):List V->List U->Prop
 |xs,[]=>xs=[]
 |xs,u::us=>∃x r,xs=x::r/\Is K m H x u/\IsL K m H r us
end
structure A2(K:Q4)(H H':Hp):Prop where
 t:∀a xs,SqT K H a xs->SqT K H' a xs
 l:∀a ns,KL K H a ns->KL K H' a ns
structure Ext(K:Q4)(m:List Addr)(H:Hp)(m':List Addr)(H':Hp):Prop where
 pre:∃t,m'=m++t
 keep:A2 K H H'
section
variable{K:Q4}{m m' m'':List Addr}{H H' H'':Hp}{v x:V}{u:U}{xs ys:List V}{us ws:List U}{a q:Addr}{o:HO}
theorem Ext.refl:Ext K m H m H:=⟨⟨[],by simp⟩,fun _ _ h=>h,fun _ _ h=>h⟩
theorem Ext.trans(a:Ext K m H m' H')(b:Ext K m' H' m'' H''):Ext K m H m'' H'':=by
 obtain⟨t,rfl⟩:=a.pre;obtain⟨t',rfl⟩:=b.pre;exact⟨⟨t++t',by simp⟩,fun c ys h=>b.keep.t c ys (a.keep.t c ys h),fun c ys h=>b.keep.l c ys (a.keep.l c ys h)⟩
theorem Ext.of(k:A2 K H H'):Ext K m H m H':=⟨⟨[],by simp⟩,k⟩
theorem Ext.new(k:A2 K H H'):Ext K m H (m++[q]) H':=⟨⟨[q],rfl⟩,k⟩
theorem Ext.get{l:Nat}(e:Ext K m H m' H')(h:m[l]?=some a):m'[l]?=some a:=by
 obtain⟨t,rfl⟩:=e.pre;rw[Qz (Q7.mp h).1];exact h
mutual
theorem Is.mono(e:Ext K m H m' H'):∀{v:V} {u:U},Is K m H v u->Is K m' H' v u
 |v,.non,h=>by unfold Is at h ⊢;exact h
 |v,.bl b,h=>by unfold Is at h ⊢;exact h
 |v,.int i,h=>by unfold Is at h ⊢;exact h
 |v,.str x,h=>by unfold Is at h ⊢;exact h
 |v,.tup us,h=>by
  unfold Is at h ⊢;obtain⟨a,xs,e1,k,l⟩:=h;exact⟨a,xs,e1,e.keep.t _ _ k,IsL.mono e l⟩
 |v,.ref l,h=>by
  unfold Is at h ⊢;obtain⟨a,k,e1⟩:=h;exact⟨a,e.get k,e1⟩
 |v,.kl ns,h=>by
  unfold Is at h ⊢;obtain⟨a,e1,k⟩:=h;exact⟨a,e1,e.keep.l _ _ k⟩
theorem IsL.mono(e:Ext K m H m' H'):∀{xs:List V} {us:List U},IsL K m H xs us->IsL K m' H' xs us
 |xs,[],h=>by unfold IsL at h ⊢;exact h
 |xs,u::us,h=>by
  unfold IsL at h ⊢;obtain⟨x,r,e1,k,l⟩:=h;exact⟨x,r,e1,Is.mono e k,IsL.mono e l⟩
end
theorem Is.int_{i:Int}:Is K m H (.int i) (.int i):=by unfold Is;rfl
theorem Is.bl_{b:Bool}:Is K m H (.bl b) (.bl b):=by unfold Is;rfl
theorem Is.non_:Is K m H .non .non:=by unfold Is;rfl
theorem Is.str_{x:Str}:Is K m H (.str x) (.str x):=by unfold Is;rfl
theorem Is.of_int{i:Int}(h:Is K m H v (.int i)):v=.int i:=by unfold Is at h;exact h
theorem Is.of_bl{b:Bool}(h:Is K m H v (.bl b)):v=.bl b:=by unfold Is at h;exact h
theorem Is.of_non(h:Is K m H v .non):v=.non:=by unfold Is at h;exact h
theorem Is.of_str{x:Str}(h:Is K m H v (.str x)):v=.str x:=by unfold Is at h;exact h
theorem Is.of_tup(h:Is K m H v (.tup us)):∃a xs,v=.ref a/\SqT K H a xs/\IsL K m H xs us:=by unfold Is at h;exact h
theorem Is.of_ref{l:Nat}(h:Is K m H v (.ref l)):∃a,m[l]?=some a/\v=.ref a:=by unfold Is at h;exact h
theorem Is.of_kl{ns:List Int}(h:Is K m H v (.kl ns)):∃a,v=.ref a/\KL K H a ns:=by unfold Is at h;exact h
theorem Is.kl_{ns:List Int}(e:KL K H a ns):Is K m H (.ref a) (.kl ns):=by unfold Is;exact⟨a,rfl,e⟩
theorem Is.tup_(e:SqT K H a xs)(h:IsL K m H xs us):Is K m H (.ref a) (.tup us):=by unfold Is;exact⟨a,xs,rfl,e,h⟩
theorem Is.ref_{l:Nat}(e:m[l]?=some a):Is K m H (.ref a) (.ref l):=by unfold Is;exact⟨a,e,rfl⟩
theorem IsL.nil_:IsL K m H [] []:=by unfold IsL;rfl
theorem IsL.cons_(h:Is K m H x u)(t:IsL K m H xs us):IsL K m H (x::xs) (u::us):=by unfold IsL;exact⟨x,xs,rfl,h,t⟩
theorem IsL.of_nil(h:IsL K m H xs []):xs=[]:=by unfold IsL at h;exact h
theorem IsL.of_cons(h:IsL K m H xs (u::us)):∃x r,xs=x::r/\Is K m H x u/\IsL K m H r us:=by unfold IsL at h;exact h
theorem IsL.length:∀{xs:List V} {us:List U},IsL K m H xs us->xs.length=us.length
 |xs,[],h=>by rw[h.of_nil];rfl
 |xs,d::ds,h=>by
  obtain⟨x,r,rfl,_,t⟩:=h.of_cons;rw[QB,QB,IsL.length t]
theorem IsL.getD:∀{xs:List V} {us:List U} {i:Nat} {u:U},IsL K m H xs us->us[i]?=some u->∃x,xs[i]?=some x/\Is K m H x u
 |xs,[],i,x,h,e=>by simp at e
 |xs,d::ds,0,x,h,e=>by
  obtain⟨y,r,rfl,k,t⟩:=h.of_cons;simp at e;subst e;exact⟨y,by simp,k⟩
 |xs,d::ds,i+1,x,h,e=>by
  obtain⟨y,r,rfl,k,t⟩:=h.of_cons;obtain⟨d',e1,e2⟩:=IsL.getD (i:=i) (u:=x) t (by simpa using e);exact⟨d',by simpa using e1,e2⟩
theorem IsL.append:∀{xs:List V} {us:List U},IsL K m H xs us->IsL K m H ys ws->IsL K m H (xs++ys) (us++ws)
 |xs,[],h,k=>by rw[h.of_nil];exact k
 |xs,d::ds,h,k=>by
  obtain⟨y,r,rfl,z,t⟩:=h.of_cons;exact .cons_ z (IsL.append t k)
theorem IsL.set:∀{xs:List V} {us:List U} {j:Nat},IsL K m H xs us->Is K m H x u->IsL K m H (xs.set j x) (us.set j u)
 |xs,[],j,h,k=>by rw[h.of_nil];exact .nil_
 |xs,d::ds,0,h,k=>by
  obtain⟨y,r,rfl,z,t⟩:=h.of_cons;exact .cons_ k t
 |xs,d::ds,j+1,h,k=>by
  obtain⟨y,r,rfl,z,t⟩:=h.of_cons;exact .cons_ z (IsL.set t k)
theorem IsL.drop:∀{xs:List V} {us:List U} (n:Nat),IsL K m H xs us->IsL K m H (xs.drop n) (us.drop n)
 |xs,us,0,h=>h
 |xs,[],n+1,h=>by rw[h.of_nil];exact .nil_
 |xs,d::ds,n+1,h=>by
  obtain⟨y,r,rfl,z,t⟩:=h.of_cons;exact IsL.drop n t
theorem IsL.take:∀{xs:List V} {us:List U} (n:Nat),IsL K m H xs us->IsL K m H (xs.take n) (us.take n)
 |xs,us,0,h=>.nil_
 |xs,[],n+1,h=>by rw[h.of_nil];exact .nil_
 |xs,d::ds,n+1,h=>by
  obtain⟨y,r,rfl,z,t⟩:=h.of_cons;exact .cons_ z (IsL.take n t)
theorem IsL.erase:∀{xs:List V} {us:List U} (n:Nat),IsL K m H xs us->IsL K m H (xs.eraseIdx n) (us.eraseIdx n)
 |xs,[],n,h=>by rw[h.of_nil];exact .nil_
 |xs,d::ds,0,h=>by
  obtain⟨y,r,rfl,z,t⟩:=h.of_cons;exact t
 |xs,d::ds,n+1,h=>by
  obtain⟨y,r,rfl,z,t⟩:=h.of_cons;exact .cons_ z (IsL.erase n t)
theorem IsL.rev:∀{xs:List V} {us:List U},IsL K m H xs us->IsL K m H xs.reverse us.reverse
 |xs,[],h=>by rw[h.of_nil];exact .nil_
 |xs,d::ds,h=>by
  obtain⟨y,r,rfl,z,t⟩:=h.of_cons;rw[List.reverse_cons,List.reverse_cons];exact IsL.append (IsL.rev t) (.cons_ z .nil_)
theorem rD(h:H a=some o)(nt:∀xs,o≠.tup xs)(nf:∀ob xs,o≠.frz ob (.tup xs))(nl:∀ob xs,o≠.frz ob (.lst xs))(o':HO):A2 K H (upd H a o'):=by
 refine⟨fun b xs q=>?_,fun b ns q=>?_⟩
 ·rcases q with(q|⟨ob,q⟩)|q
  ·have n:b≠a:=fun z=>by subst z;rw[q]at h;cases h;exact nt _ rfl
   exact .inl (.inl (by rw[aT n];exact q))
  ·have n:b≠a:=fun z=>by subst z;rw[q]at h;cases h;exact nf _ _ rfl
   exact .inl (.inr ⟨ob,by rw[aT n];exact q⟩)
  ·exact .inr q
 ·rcases q with⟨ob,q⟩|q
  ·have n:b≠a:=fun z=>by subst z;rw[q]at h;cases h;exact nl _ _ rfl
   exact .inl ⟨ob,by rw[aT n];exact q⟩
  ·exact .inr q
theorem b8(s:sd H H'):A2 K H H':=by
 refine⟨fun b xs q=>?_,fun b ns q=>?_⟩
 ·rcases q with(q|⟨ob,q⟩)|q
  ·exact .inl (.inl (s _ _ q))
  ·exact .inl (.inr ⟨ob,s _ _ q⟩)
  ·exact .inr q
 ·rcases q with⟨ob,q⟩|q
  ·exact .inl ⟨ob,s _ _ q⟩
  ·exact .inr q
theorem bc(h:H q=none)(o':HO):A2 K H (upd H q o'):=b8 (eA h o')
end
abbrev NK:=List (List Int)
def hNK(ks:NK):Int:=reduceHash (Builtin.Tuple.tupleHashOf (ks.map fun k=>reduceHash (Builtin.Tuple.tupleHashOf (k.map hashInt))))
abbrev KN:List ((NK×Addr)×V)->List (NK×Addr×Value)->Prop:=Paired fun p q=>p.1.1=q.1/\p.1.2=q.2.1/\bP p.2 q.2.2
def dNo(a:Addr)(kvs:List ((NK×Addr)×V)):HO:=.ext fun h=>kvs.length<=sizeLine/\(a == sysModules)=false/\∃xs,KN kvs xs/\
 ∃o es ep,h.get? a=some o/\o.ExactDict/\o.data=.dict es ep/\es.toList=(xs.map fun x=>(⟨hNK x.1,.ref x.2.1,x.2.2⟩:DictEntry))/\(xs.map (·.1)).Nodup
def GH(K:Q4)(H:Hp)(b:Addr)(k:NK):Prop:=∃cs:List Addr,SqT K H b (cs.map V.ref)/\Paired (fun(l:List Int) c=>SqT K H c (l.map V.int)) k cs
theorem GH.mono{K:Q4}{H H':Hp}{b:Addr}{k:NK}(e:A2 K H H')(h:GH K H b k):GH K H' b k:=let ⟨cs,p,q⟩:=h;⟨cs,e.t _ _ p,Paired.mapP q fun _ _ z=>e.t _ _ z⟩
def nP(kvs:List ((NK×Addr)×V)):List (NK×V):=kvs.map fun p=>(p.1.1,p.2)
def IsP{κ:Type}(K:Q4)(m:List Addr)(H:Hp)(kvs:List (κ×V))(kus:List (κ×U)):Prop:=kvs.map (·.1)=kus.map (·.1)/\IsL K m H (kvs.map (·.2)) (kus.map (·.2))
def Rf(K:Q4)(m:List Addr)(H:Hp):Option V->Option U->Prop
 |some v,some u=>Is K m H v u
 |none,none=>True
 |_,_=>False
structure InF(K:Q4)(m:List Addr)(H:Hp)(c:Cl)(fs:List (Str×V))(fus:List (Option U)):Prop where
 nd:c.ns.Nodup
 few:c.ns.length<1000
 knd:(fs.map (·.1)).Nodup
 sub:∀x∈fs.map (·.1),x∈c.ns
 len:fus.length=c.ns.length
 at_:∀(i:Nat) (x:Str),c.ns[i]?=some x->Rf K m H (fs.lookup x) ((fus[i]?).join)
theorem Rf.mono{K:Q4}{m m':List Addr}{H H':Hp}{v:Option V}{u:Option U}(e:Ext K m H m' H')(h:Rf K m H v u):Rf K m' H' v u:=by
 cases v with
 |none=>cases u with
  |none=>trivial
  |some u=>exact h.elim
 |some v=>cases u with
  |none=>exact h.elim
  |some u=>exact Is.mono e h
theorem InF.mono{K:Q4}{m m':List Addr}{H H':Hp}{c:Cl}{fs:List (Str×V)}{fus:List (Option U)}(e:Ext K m H m' H')(h:InF K m H c fs fus):InF K m' H' c fs fus:=⟨h.nd,h.few,h.knd,h.sub,h.len,fun i x q=>(h.at_ i x q).mono e⟩
def Ob(K:Q4)(m:List Addr)(H:Hp)(a:Addr):O->Prop
 |.lst us=>∃xs,H a=some (.lst xs)/\IsL K m H xs us
 |.dic kus=>∃kvs,H a=some (.dK kvs)/\IsP K m H kvs kus
 |.ins c fus=>∃dx fs,H a=some (.ins c.C dx fs)/\InF K m H c fs fus
 |.fdc ep kus=>∃ob es kvs,H a=some (.frz ob (.dK kvs))/\ob.data=.dict es ep/\IsP K m H kvs kus
 |.dit kus=>∃kvs,H a=some (.dT kvs)/\IsP K m H kvs kus
 |.fdt ep kus=>∃ob es kvs,H a=some (.frz ob (.dT kvs))/\ob.data=.dict es ep/\IsP K m H kvs kus
 |.dnt kus=>∃kvs,H a=some (dNo a kvs)/\(∀p∈kvs,GH K H p.1.2 p.1.1)/\IsP K m H (nP kvs) kus
 |.fdn ep kus=>∃ob es kvs,H a=some (.frz ob (dNo a kvs))/\ob.data=.dict es ep/\(∀p∈kvs,GH K H p.1.2 p.1.1)/\IsP K m H (nP kvs) kus
structure Sr(K:Q4)(m:List Addr)(S:Sto)(H:Hp):Prop where
 len:m.length=S.length
 nd:m.Nodup
 ob:∀(l:Nat) (a:Addr) (o:O),m[l]?=some a->S[l]?=some o->Ob K m H a o
structure Lr(K:Q4)(m:List Addr)(H:Hp)(ρ:Rho)(σ:L2.St):Prop where
 len:ρ.length=σ.length
 at_:∀(i:Nat) (u:U),ρ[i]?=some (some u)->∃v,σ[i]?=some (some v)/\Is K m H v u
section
variable{κ:Type}{K:Q4}{m m':List Addr}{H H':Hp}{S:Sto}{ρ:Rho}{σ:L2.St}{a q:Addr}{l:Nat}{o:O}{ho:HO}{us:List U}{v:V}{u:U}{kvs:List (κ×V)}{kus:List (κ×U)}
theorem IsP.mono(e:Ext K m H m' H')(h:IsP K m H kvs kus):IsP K m' H' kvs kus:=⟨h.1,h.2.mono e⟩
theorem IsP.length(h:IsP K m H kvs kus):kvs.length=kus.length:=by have:=h.2.length;simpa using this
theorem IsP.nil_:IsP (κ:=κ) K m H [] []:=⟨rfl,.nil_⟩
theorem IsP.cons_{k:κ}(h:Is K m H v u)(t:IsP K m H kvs kus):IsP K m H ((k,v)::kvs) ((k,u)::kus):=⟨by simp[t.1],.cons_ h t.2⟩
theorem IsP.ind{P:List (κ×V)->List (κ×U)->Prop}(h0:P [] [])(h1:∀k v u kvs kus,Is K m H v u->IsP K m H kvs kus->P kvs kus->P ((k,v)::kvs) ((k,u)::kus)):∀{kvs:List (κ×V)} {kus:List (κ×U)},IsP K m H kvs kus->P kvs kus
 |[],[],_=>h0
 |[],p::r,h=>by have:=h.length;simp at this
 |p::r,[],h=>by have:=h.length;simp at this
 |(k,v)::r,(k',u)::r',h=>by
  obtain⟨e,i⟩:=h;simp only[QF,List.cons.injEq]at e;obtain⟨e1,e2⟩:=e;subst e1;obtain⟨x,t,e3,iu,it⟩:=i.of_cons;cases e3;exact h1 k v u r r' iu ⟨e2,it⟩ (IsP.ind h0 h1 (⟨e2,it⟩:IsP K m H r r'))
theorem Ob.mono(e:Ext K m H m' H')(h1:H' a=H a)(h:Ob K m H a o):Ob K m' H' a o:=by
 cases o with
 |lst us=>obtain⟨xs,k,i⟩:=h;exact⟨xs,h1.trans k,i.mono e⟩
 |dic kus=>obtain⟨xs,k,i⟩:=h;exact⟨xs,h1.trans k,i.mono e⟩
 |ins C fus=>obtain⟨dx,fs,k,i⟩:=h;exact⟨dx,fs,h1.trans k,i.mono e⟩
 |fdc ep kus=>obtain⟨ob,es,kvs,k,d,i⟩:=h;exact⟨ob,es,kvs,h1.trans k,d,i.mono e⟩
 |dit kus=>obtain⟨xs,k,i⟩:=h;exact⟨xs,h1.trans k,i.mono e⟩
 |fdt ep kus=>obtain⟨ob,es,kvs,k,d,i⟩:=h;exact⟨ob,es,kvs,h1.trans k,d,i.mono e⟩
 |dnt kus=>obtain⟨kvs,k,y,i⟩:=h;exact⟨kvs,h1.trans k,fun p hp=>(y p hp).mono e.keep,i.mono e⟩
 |fdn ep kus=>obtain⟨ob,es,kvs,k,d,y,i⟩:=h;exact⟨ob,es,kvs,h1.trans k,d,fun p hp=>(y p hp).mono e.keep,i.mono e⟩
theorem Ob.some(h:Ob K m H a o):∃ho,H a=some ho/\(∀xs,ho≠.tup xs)/\(∀ob xs,ho≠.frz ob (.tup xs))/\(∀ob xs,ho≠.frz ob (.lst xs)):=by
 cases o with
 |lst us=>obtain⟨xs,k,i⟩:=h;exact⟨_,k,by simp,by simp,by simp⟩
 |dic kus=>obtain⟨xs,k,i⟩:=h;exact⟨_,k,by simp,by simp,by simp⟩
 |ins C fus=>obtain⟨dx,fs,k,i⟩:=h;exact⟨_,k,by simp,by simp,by simp⟩
 |fdc ep kus=>obtain⟨ob,es,kvs,k,d,i⟩:=h;exact⟨_,k,by simp,by simp,by simp⟩
 |dit kus=>obtain⟨xs,k,i⟩:=h;exact⟨_,k,by simp,by simp,by simp⟩
 |fdt ep kus=>obtain⟨ob,es,kvs,k,d,i⟩:=h;exact⟨_,k,by simp,by simp,by simp⟩
 |dnt kus=>obtain⟨kvs,k,y,i⟩:=h;exact⟨_,k,by simp[dNo],by simp[dNo],by simp[dNo]⟩
 |fdn ep kus=>obtain⟨ob,es,kvs,k,d,y,i⟩:=h;exact⟨_,k,by simp,by simp[dNo],by simp[dNo]⟩
theorem Lr.mono(e:Ext K m H m' H')(h:Lr K m H ρ σ):Lr K m' H' ρ σ:=⟨h.len,fun i u e1=>let ⟨v,e2,e3⟩:=h.at_ i u e1;⟨v,e2,e3.mono e⟩⟩
theorem Lr.set(h:Lr K m H ρ σ)(i:Nat)(hv:Is K m H v u):Lr K m H (ρ.set i (some u)) (σ.set i (some v)):=by
 refine⟨by simp[h.len],fun j w e=>?_⟩;by_cases c:i=j
 ·subst c;rw[List.getElem?_set_self' ]at e;rw[List.getElem?_set_self'];have hl:=h.len;cases e1:ρ[i]? with
  |none=>rw[e1]at e;simp at e
  |some z=>
   rw[e1]at e;simp at e;subst e;have:i < σ.length:=by rw[<-hl];exact(Q7.mp e1).1
   rw[Q6 this];exact⟨v,rfl,hv⟩
 ·rw[Qg c]at e;rw[Qg c];exact h.at_ j w e
theorem Sr.get(r:Sr K m S H)(h:S[l]?=some o):∃a,m[l]?=some a/\Ob K m H a o:=by
 have hl:l<m.length:=by rw[r.len];exact(Q7.mp h).1
 exact⟨_,Q6 hl,r.ob _ _ _ (Q6 hl) h⟩
theorem Sr.at_(r:Sr K m S H)(h:m[l]?=some a):∃o,S[l]?=some o/\Ob K m H a o:=by
 have hl:l<S.length:=by rw[<-r.len];exact(Q7.mp h).1
 exact⟨_,Q6 hl,r.ob _ _ _ h (Q6 hl)⟩
theorem Sr.same(r:Sr K m S H)(s:sd H H'):Sr K m S H':=⟨r.len,r.nd,fun l a o h1 h2=>by
 have q:=r.ob l a o h1 h2;obtain⟨ho,e,_⟩:=q.some;exact q.mono (.of (b8 s)) (by rw[s _ _ e,e])⟩
theorem Sr.new(r:Sr K m S H)(h:H q=none)(n:Ob K (m++[q]) (upd H q ho) q o):Sr K (m++[q]) (S++[o]) (upd H q ho):=by
 have hq:q∉m:=fun z=>by
  obtain⟨l,e⟩:=ZH z;obtain⟨o,_,k⟩:=r.at_ e;obtain⟨ho,e2,_⟩:=k.some;rw[h]at e2;cases e2
 refine⟨by simp[r.len],?_,fun l a o' h1 h2=>?_⟩
 ·rw[X6];exact⟨r.nd,by simp,fun x hx y hy z=>by simp at hy;subst hy;subst z;exact hq hx⟩
 ·by_cases c:l<m.length
  ·rw[Qz c]at h1;rw[Qz (by rw[<-r.len];exact c)]at h2;have q':=r.ob l a o' h1 h2;obtain⟨ho',e,_⟩:=q'.some;exact q'.mono (.new (bc h _)) (by rw[aT (bY e h)])
  ·have e:l=m.length:=by
    have:=(Q7.mp h1).1;simp at this;omega
   subst e;rw[QN (QJ _)]at h1;rw[QN (by rw[r.len];exact QJ _)]at h2;simp[r.len]at h1 h2;subst h1;subst h2;exact n
theorem Sr.put(r:Sr K m S H)(h:m[l]?=some a)(n:Ob K m (upd H a ho) a o):Sr K m (S.set l o) (upd H a ho):=by
 obtain⟨o0,h0,k0⟩:=r.at_ h;obtain⟨ho',e,nt,nf,nl⟩:=k0.some;refine⟨by simp[r.len],r.nd,fun l' a' o' h1 h2=>?_⟩;by_cases c:l=l'
 ·subst c;rw[h]at h1;cases h1;rw[List.getElem?_set_self (Q7.mp h0).1]at h2;cases h2;exact n
 ·rw[Qg c]at h2;have na:a'≠a:=fun z=>by
   subst z;obtain⟨p1,e1⟩:=Q7.mp h;obtain⟨p2,e2⟩:=Q7.mp h1;exact c ((List.getElem_inj r.nd).mp (e1.trans e2.symm))
  exact(r.ob l' a' o' h1 h2).mono (.of (rD e nt nf nl _)) (by rw[aT na])
theorem Sr.keep(r:Sr K m S H)(h:m[l]?=some a)(ho:HO):A2 K H (upd H a ho):=by
 obtain⟨o0,h0,k0⟩:=r.at_ h;obtain⟨ho',e,nt,nf,nl⟩:=k0.some;exact rD e nt nf nl _
end
def iF(K:Q4)(m:List Addr)(H:Hp)(Q:VK)(u:U)(S':Sto):Prop:=∀m' v H',Ext K m H m' H'->Sr K m' S' H'->Is K m' H' v u->Q v H'
abbrev CE:=Rho->Sto->Option (U×Sto)
abbrev CT:=Rho->Sto->Option (Bool×Sto)
abbrev CA:=Rho->Sto->Option (List U×Sto)
inductive Out where
 |nx|rt (u:U)|bk|ct
abbrev CS:=Rho->Sto->Option (Out×Rho×Sto)
def Ai(K:Q4)(m:List Addr)(H:Hp)(Q:Bool->Hp->Prop)(b:Bool)(S':Sto):Prop:=∀m' H',Ext K m H m' H'->Sr K m' S' H'->Q b H'
def Jb(K:Q4)(m:List Addr)(H:Hp)(Q:List V->Hp->Prop)(us:List U)(S':Sto):Prop:=∀m' vs H',Ext K m H m' H'->Sr K m' S' H'->IsL K m' H' vs us->Q vs H'
def fT(K:Q4)(m:List Addr)(H:Hp)(Q:L2.St->Hp->Prop)(ρ':Rho)(S':Sto):Prop:=∀m' σ' H',Ext K m H m' H'->Sr K m' S' H'->Lr K m' H' ρ' σ'->Q σ' H'
def tJ(K:Q4)(m:List Addr)(H:Hp)(D:A3):Out->Rho->Sto->Prop
 |.nx,ρ',S'=>fT K m H D.nx ρ' S'
 |.bk,ρ',S'=>fT K m H D.bk ρ' S'
 |.ct,ρ',S'=>fT K m H D.ct ρ' S'
 |.rt u,_,S'=>iF K m H D.rt u S'
theorem iA{α β γ δ ε:Type}{A B C D:α->β->γ->δ->ε->Prop}{p:Prop}(h:∃a b c d e,A a b c d e/\B a b c d e/\C a b c d e/\D a b c d e)(f:∀a b c d e,A a b c d e->B a b c d e->C a b c d e->D a b c d e->p):p:=by
 obtain⟨a,b,c,d,e,h1,h2,h3,h4⟩:=h;exact f a b c d e h1 h2 h3 h4
theorem tP{α β γ δ ε ζ:Type}{A B C D:α->β->γ->δ->ε->ζ->Prop}{p:Prop}(h:∃a b c d e g,A a b c d e g/\B a b c d e g/\C a b c d e g/\D a b c d e g)(f:∀a b c d e g,A a b c d e g->B a b c d e g->C a b c d e g->D a b c d e g->p):p:=by
 obtain⟨a,b,c,d,e,g,h1,h2,h3,h4⟩:=h;exact f a b c d e g h1 h2 h3 h4
theorem JG{α β γ δ ε ζ:Type}{A B C D E:α->β->γ->δ->ε->ζ->Prop}{p:Prop}(h:∃a b c d e g,A a b c d e g/\B a b c d e g/\C a b c d e g/\D a b c d e g/\E a b c d e g)(f:∀a b c d e g,A a b c d e g->B a b c d e g->C a b c d e g->D a b c d e g->E a b c d e g->p):p:=by
 obtain⟨a,b,c,d,e,g,h1,h2,h3,h4,h5⟩:=h;exact f a b c d e g h1 h2 h3 h4 h5
def tE(K:Q4)(c:CE):TE:=fun σ H Q=>∃m ρ S u S',Sr K m S H/\Lr K m H ρ σ/\c ρ S=some (u,S')/\iF K m H Q u S'
def tT(K:Q4)(c:CT):TT:=fun σ H Q=>∃m ρ S u S',Sr K m S H/\Lr K m H ρ σ/\c ρ S=some (u,S')/\Ai K m H Q u S'
def tA(K:Q4)(c:CA):TA:=fun σ H Q=>∃m ρ S u S',Sr K m S H/\Lr K m H ρ σ/\c ρ S=some (u,S')/\Jb K m H Q u S'
def tS(K:Q4)(c:CS):TS:=fun D σ H=>∃m ρ S o ρ' S',Sr K m S H/\Lr K m H ρ σ/\c ρ S=some (o,ρ',S')/\tJ K m H D o ρ' S'
abbrev QE(X:Cx)(e:Expr)(c:CE):Prop:=WE X e (tE X.K c)
abbrev QT(X:Cx)(e:Expr)(c:CT):Prop:=WT X e (tT X.K c)
abbrev QW(X:Cx)(e:Expr)(c:CT):Prop:=WW X e (tT X.K c)
abbrev QS(X:Cx)(e:Stmt)(c:CS):Prop:=WS X e (tS X.K c)
abbrev QSs(X:Cx)(e:List Stmt)(c:CS):Prop:=WSs X e (tS X.K c)
structure QA(X:Cx)(es:List Expr)(c:CA):Prop where
 h:WA X es (tA X.K c)
 len:∀ρ S us S',c ρ S=some (us,S')->us.length=es.length
section
variable{X:Cx}{e:Expr}{es:List Expr}{st:Stmt}{sts:List Stmt}
theorem _root_.OG.WE.imp{t t':TE}(h:WE X e t)(i:∀σ H Q,t' σ H Q->t σ H Q):WE X e t':=⟨fun pins s σ H Q I k=>h.h pins s σ H Q I (i σ H Q k)⟩
theorem _root_.OG.WT.imp{t t':TT}(h:WT X e t)(i:∀σ H Q,t' σ H Q->t σ H Q):WT X e t':=⟨fun pins s σ H Q I k=>h.h pins s σ H Q I (i σ H Q k)⟩
theorem _root_.OG.WW.imp{t t':TT}(h:WW X e t)(i:∀σ H Q,t' σ H Q->t σ H Q):WW X e t':=⟨fun wh pins s σ H Q I k=>h.h wh pins s σ H Q I (i σ H Q k)⟩
theorem _root_.OG.WA.imp{t t':TA}(h:WA X es t)(i:∀σ H Q,t' σ H Q->t σ H Q):WA X es t':=⟨fun pos pins s σ H Q I k=>h.h pos pins s σ H Q I (i σ H Q k)⟩
theorem _root_.OG.WS.imp{t t':TS}(h:WS X st t)(i:∀D σ H,t' D σ H->t D σ H):WS X st t':=⟨fun pins s σ H D I k=>h.h pins s σ H D I (i D σ H k)⟩
theorem _root_.OG.WSs.imp{t t':TS}(h:WSs X sts t)(i:∀D σ H,t' D σ H->t D σ H):WSs X sts t':=⟨fun pins s σ H D I k=>h.h pins s σ H D I (i D σ H k)⟩
theorem _root_.OG.WI.imp{tg:Expr}{t t':TI}(h:WI X tg e t)(i:∀σ H R,t' σ H R->t σ H R):WI X tg e t':=⟨fun pins s σ H R I k=>h.h pins s σ H R I (i σ H R k)⟩
theorem _root_.OG.WG.imp{t t':TG}(h:WG X e t)(i:∀v σ H Q,t' v σ H Q->t v σ H Q):WG X e t':=⟨fun pins s σ H v u Q I r k=>h.h pins s σ H v u Q I r (i v σ H Q k)⟩
theorem _root_.OG.WGs.imp{t t':TGs}(h:WGs X es t)(i:∀v σ H Q,t' v σ H Q->t v σ H Q):WGs X es t':=⟨fun pins s σ H v u Q I r k=>h.h pins s σ H v u Q I r (i v σ H Q k)⟩
theorem _root_.OG.WE.or{t t':TE}(h:WE X e t)(h':WE X e t'):WE X e (fun σ H Q=>t σ H Q\/t' σ H Q):=⟨fun pins s σ H Q I k=>k.elim (h.h pins s σ H Q I) (h'.h pins s σ H Q I)⟩
theorem _root_.OG.WT.or{t t':TT}(h:WT X e t)(h':WT X e t'):WT X e (fun σ H Q=>t σ H Q\/t' σ H Q):=⟨fun pins s σ H Q I k=>k.elim (h.h pins s σ H Q I) (h'.h pins s σ H Q I)⟩
theorem _root_.OG.WS.or{t t':TS}(h:WS X st t)(h':WS X st t'):WS X st (fun D σ H=>t D σ H\/t' D σ H):=⟨fun pins s σ H D I k=>k.elim (h.h pins s σ H D I) (h'.h pins s σ H D I)⟩
theorem _root_.OG.WI.or{tg:Expr}{t t':TI}(h:WI X tg e t)(h':WI X tg e t'):WI X tg e (fun σ H D=>t σ H D\/t' σ H D):=⟨fun pins s σ H D I k=>k.elim (h.h pins s σ H D I) (h'.h pins s σ H D I)⟩
end
section
variable{K:Q4}{m m':List Addr}{H H':Hp}{Q:VK}{R:L2.St->Hp->Prop}{D:A3}{u:U}{o:Out}{S':Sto}{ρ':Rho}
theorem iF.mono(e:Ext K m H m' H')(p:iF K m H Q u S'):iF K m' H' Q u S':=fun m2 v H2 e2 r i=>p m2 v H2 (e.trans e2) r i
theorem Ai.mono{Q:Bool->Hp->Prop}{b:Bool}(e:Ext K m H m' H')(p:Ai K m H Q b S'):Ai K m' H' Q b S':=fun m2 H2 e2 r=>p m2 H2 (e.trans e2) r
theorem fT.mono(e:Ext K m H m' H')(p:fT K m H R ρ' S'):fT K m' H' R ρ' S':=fun m2 v H2 e2 r i=>p m2 v H2 (e.trans e2) r i
theorem tJ.mono(e:Ext K m H m' H')(p:tJ K m H D o ρ' S'):tJ K m' H' D o ρ' S':=by
 cases o with
 |nx=>exact fT.mono e p
 |rt u=>exact iF.mono e p
 |bk=>exact fT.mono e p
 |ct=>exact fT.mono e p
end
def LIM:Nat:=100000
theorem lim{n:Nat}(h:n<=LIM):n<=sizeLine:=Qc h (by unfold LIM sizeLine;decide)
theorem F0{n:Nat}(h:n<LIM):n<sizeLine:=Qj h (by unfold LIM sizeLine;decide)
def ao(i:Nat):CE:=fun ρ S=>match ρ[i]? with
 |some (some u)=>some (u,S)
 |_=>none
def cC(u:U):CE:=fun _ S=>some (u,S)
section
variable{X:Cx}{e a b c:Expr}{ca cb:CE}{pos:Pos}
theorem ae{i:Nat}(h:WE X e (GO i)):QE X e (ao i):=h.imp fun σ H Q hz=>iA hz fun m ρ S u S' sr lr hc post=>by
 unfold ao at hc;split at hc
 ·rename_i u' e;cases hc;obtain⟨v,e1,e2⟩:=lr.at_ i u e;exact⟨v,e1,post m v H .refl sr e2⟩
 ·cases hc
theorem q_c{v:V}{u:U}(h:WE X e (tC v))(hi:∀m H,Is X.K m H v u):QE X e (cC u):=h.imp fun σ H Q hz=>iA hz fun m ρ S u' S' sr lr hc post=>by
 cases hc;exact post m v H .refl sr (hi m H)
theorem aE{i:Int}(h:WE X e (tC (.int i))):QE X e (cC (.int i)):=q_c h fun _ _=>.int_
theorem tM{i:Bool}(h:WE X e (tC (.bl i))):QE X e (cC (.bl i)):=q_c h fun _ _=>.bl_
theorem yI{i:Str}(h:WE X e (tC (.str i))):QE X e (cC (.str i)):=q_c h fun _ _=>.str_
def cOp(f:U->U->Sto->Option (U×Sto))(ca cb:CE):CE:=fun ρ S=>(ca ρ S).bind fun p=>(cb ρ p.2).bind fun q=>f p.1 q.1 q.2
def OpP(K:Q4)(r:R2)(f:U->U->Sto->Option (U×Sto)):Prop:=
 ∀m S H x y v w u S' Q,Sr K m S H->Is K m H v x->Is K m H w y->f x y S=some (u,S')->iF K m H Q u S'->r v w H Q
theorem vG{K:Q4}{r:R2}{f:U->U->Sto->Option (U×Sto)}(hp:OpP K r f):∀σ H Q,tE K (cOp f ca cb) σ H Q->tOp r (tE K ca) (tE K cb) σ H Q:=by
 rintro σ H Q ⟨m,ρ,S,u,S',sr,lr,hc,post⟩;obtain⟨⟨x,S1⟩,h1,h⟩:=Q2.mp hc;obtain⟨⟨y,S2⟩,h2,h3⟩:=Q2.mp h;exact⟨m,ρ,S,x,S1,sr,lr,h1,fun m1 v1 H1 e1 sr1 i1=>⟨m1,ρ,S1,y,S2,sr1,lr.mono e1,h2,fun m2 v2 H2 e2 sr2 i2=>hp m2 S2 H2 x y v1 v2 u S' Q sr2 (i1.mono e2) i2 h3 (post.mono (e1.trans e2))⟩⟩
theorem eV{op:Operator}{r:R2}{f:U->U->Sto->Option (U×Sto)}(ho:OpR X (binaryOp op) r)(hp:OpP X.K r f)(ha:QE X a ca)(hb:QE X b cb):QE X (.BinOp a op b pos) (cOp f ca cb):=(ED ho ha hb).imp (vG hp)
theorem vh{op:CmpOp}{r:R2}{f:U->U->Sto->Option (U×Sto)}(ho:OpR X (compareOp op) r)(hp:OpP X.K r f)(ha:QE X a ca)(hb:QE X b cb)(hm:behindInMarks op b=false):QE X (.Compare a [op] [b] pos) (cOp f ca cb):=(qB ho ha hb hm).imp (vG hp)
def aL(c:CE):CT:=fun ρ S=>(c ρ S).bind fun p=>match p.1 with
 |.bl b=>some (b,p.2)
 |_=>none
theorem jc{K:Q4}{c:CE}{t:TE}(h:∀σ H Q,tE K c σ H Q->t σ H Q):∀σ H Q,tT K (aL c) σ H Q->t σ H fun x H'=>∃k,x=.bl k/\Q k H':=by
 rintro σ H Q ⟨m,ρ,S,u,S',sr,lr,hc,post⟩;obtain⟨⟨x,S1⟩,h1,h2⟩:=Q2.mp hc;refine h σ H _ ⟨m,ρ,S,x,S1,sr,lr,h1,fun m1 v1 H1 e1 sr1 i1=>?_⟩;cases x<;>simp at h2;obtain⟨rfl,rfl⟩:=h2;exact⟨_,i1.of_bl,post m1 H1 e1 sr1⟩
theorem br{op:CmpOp}{r:R2}{f:U->U->Sto->Option (U×Sto)}(ho:OpR X (compareOp op) r)(hp:OpP X.K r f)(ha:QE X a ca)(hb:QE X b cb)(hm:behindInMarks op b=false):QT X (.Compare a [op] [b] pos) (aL (cOp f ca cb)):=(lT ho ha hb hm).imp (jc (vG hp))
theorem lB(h:QE X e ca)(he:∀whole,isTrue e X.env whole=(do let v <-whole;standAt e.pos;holding [v] (truthy v)):=by intro _;rfl):QT X e (aL ca):=(Bw h he).imp (jc fun _ _ _ z=>z)
variable{ta tb:CT}{rest:List Expr}
def DG(ta tb:CT):CT:=fun ρ S=>(ta ρ S).bind fun p=>if p.1=true then tb ρ p.2 else some (false,p.2)
def cOr(ta tb:CT):CT:=fun ρ S=>(ta ρ S).bind fun p=>if p.1=true then some (true,p.2)else tb ρ p.2
def DV(ta:CT):CT:=fun ρ S=>(ta ρ S).bind fun p=>some (!p.1,p.2)
theorem xR(h:QW X e ta):QT X e ta:=WW.pt h
theorem qW(ha:QT X a ta):QW X (.BoolOp .And [a] pos) ta:=x8 ha
theorem sM(ha:QT X a ta):QW X (.BoolOp .Or [a] pos) ta:=Bu ha
theorem yL(ha:QT X a ta)(hb:QW X (.BoolOp .And (b::rest) pos) tb):QW X (.BoolOp .And (a::b::rest) pos) (DG ta tb):=(Bv ha hb).imp fun σ H Q hz=>iA hz fun m ρ S u S' sr lr hc post=>by
 obtain⟨⟨x,S1⟩,h1,h2⟩:=Q2.mp hc;refine⟨m,ρ,S,x,S1,sr,lr,h1,fun m1 H1 e1 sr1=>?_⟩;cases x with
 |true=>exact Gg ⟨m1,ρ,S1,u,S',sr1,lr.mono e1,h2,post.mono e1⟩
 |false=>cases h2;exact Gh (post m1 H1 e1 sr1)
theorem Cg(ha:QT X a ta)(hb:QW X (.BoolOp .Or (b::rest) pos) tb):QW X (.BoolOp .Or (a::b::rest) pos) (cOr ta tb):=(EA ha hb).imp fun σ H Q hz=>iA hz fun m ρ S u S' sr lr hc post=>by
 obtain⟨⟨x,S1⟩,h1,h2⟩:=Q2.mp hc;refine⟨m,ρ,S,x,S1,sr,lr,h1,fun m1 H1 e1 sr1=>?_⟩;cases x with
 |true=>cases h2;exact Gg (post m1 H1 e1 sr1)
 |false=>exact Gh ⟨m1,ρ,S1,u,S',sr1,lr.mono e1,h2,post.mono e1⟩
theorem qV(ha:QT X a ta):QT X (.UnaryOp .Not a pos) (DV ta):=(Bx ha).imp fun σ H Q hz=>iA hz fun m ρ S u S' sr lr hc post=>by
 obtain⟨⟨x,S1⟩,h1,h2⟩:=Q2.mp hc;cases h2;exact⟨m,ρ,S,x,_,sr,lr,h1,fun m1 H1 e1 sr1=>post m1 H1 e1 sr1⟩
def z0(ca cb:CE):CE:=fun ρ S=>(ca ρ S).bind fun p=>match p.1 with
 |.bl true=>cb ρ p.2
 |.bl false=>some (.bl false,p.2)
 |_=>none
def zZ(ca:CE):CE:=fun ρ S=>(ca ρ S).bind fun p=>match p.1 with
 |.bl b=>some (.bl (!b),p.2)
 |_=>none
theorem HX{op}(h:QE X a ca):QE X (.BoolOp op [a] pos) ca:=BF h
theorem Fe(ha:QE X a ca)(hb:QE X (.BoolOp .And (b::rest) pos) cb):QE X (.BoolOp .And (a::b::rest) pos) (z0 ca cb):=(BJ ha hb).imp fun σ H Q hz=>iA hz fun m ρ S u S' sr lr hc post=>by
 obtain⟨⟨x,S1⟩,h1,h2⟩:=Q2.mp hc;refine⟨m,ρ,S,x,S1,sr,lr,h1,fun m1 v1 H1 e1 sr1 i1=>?_⟩;cases x with
 |bl k=>
  refine⟨k,i1.of_bl,?_⟩;cases k with
  |true=>exact Gg ⟨m1,ρ,S1,u,S',sr1,lr.mono e1,h2,post.mono e1⟩
  |false=>cases h2;exact Gh (post m1 _ H1 e1 sr1 .bl_)
 |_=>simp at h2
theorem Fc(ha:QE X a ca):QE X (.UnaryOp .Not a pos) (zZ ca):=(BG ha).imp fun σ H Q hz=>iA hz fun m ρ S u S' sr lr hc post=>by
 obtain⟨⟨x,S1⟩,h1,h2⟩:=Q2.mp hc;refine⟨m,ρ,S,x,S1,sr,lr,h1,fun m1 v1 H1 e1 sr1 i1=>?_⟩;cases x with
 |bl k=>cases h2;exact⟨k,i1.of_bl,post m1 _ H1 e1 sr1 .bl_⟩
 |_=>simp at h2
variable{es:List Expr}{cr:CA}
def aB:CA:=fun _ S=>some ([],S)
def ag(ca:CE)(cr:CA):CA:=fun ρ S=>(ca ρ S).bind fun p=>(cr ρ p.2).bind fun q=>some (p.1::q.1,q.2)
theorem aw:QA X [] aB:=⟨ej.imp fun σ H Q hz=>iA hz fun m ρ S u S' sr lr hc post=>by cases hc;exact post m [] H .refl sr .nil_,fun ρ S us S' h=>by cases h;rfl⟩
theorem ah(ha:QE X e ca)(hr:QA X es cr)(hs:starEach (e::es) X.env=(false,eval e X.env)::starEach es X.env:=by rfl):QA X (e::es) (ag ca cr):=⟨(bS ha hr.h hs).imp fun σ H Q hz=>iA hz fun m ρ S u S' sr lr hc post=>by
 obtain⟨⟨x,S1⟩,h1,h⟩:=Q2.mp hc;obtain⟨⟨y,S2⟩,h2,h3⟩:=Q2.mp h;cases h3;exact⟨m,ρ,S,x,S1,sr,lr,h1,fun m1 v1 H1 e1 sr1 i1=>⟨m1,ρ,S1,y,S2,sr1,lr.mono e1,h2,fun m2 v2 H2 e2 sr2 i2=>post m2 _ H2 (e1.trans e2) sr2 (.cons_ (i1.mono e2) i2)⟩⟩,
 fun ρ S us S' h=>by
 obtain⟨⟨x,S1⟩,h1,h⟩:=Q2.mp h;obtain⟨⟨y,S2⟩,h2,h3⟩:=Q2.mp h;cases h3;simp[hr.len ρ S1 y S2 h2]⟩
def xm(cr:CA):CE:=fun ρ S=>(cr ρ S).bind fun p=>some (.tup p.1,p.2)
def fN(cr:CA):CE:=fun ρ S=>(cr ρ S).bind fun p=>some (.ref p.2.length,p.2++[.lst p.1])
theorem b6{m:List Addr}{S:Sto}{q:Addr}(h:m.length=S.length):(m++[q])[S.length]?=some q:=by rw[QN (by omega)];simp[h]
theorem jj{K:Q4}{m:List Addr}{H:Hp}{S:Sto}{us:List U}{xs:List V}{Q:VK}{p:Addr}(sr:Sr K m S H)(i:IsL K m H xs us)(post:iF K m H Q (.tup us) S)(hp:H p=none):Q (.ref p) (upd H p (.tup xs)):=
 post m _ _ (.of (bc hp _)) (sr.same (eA hp _)) (.tup_ (SqT.of aF) (i.mono (.of (bc hp _))))
theorem bB{K:Q4}{m:List Addr}{H:Hp}{S:Sto}{us:List U}{xs:List V}{Q:VK}{p:Addr}(sr:Sr K m S H)(i:IsL K m H xs us)(post:iF K m H Q (.ref S.length) (S++[.lst us]))(hp:H p=none):Q (.ref p) (upd H p (.lst xs)):=
 post (m++[p]) _ _ (.new (bc hp _)) (sr.new hp ⟨xs,aF,i.mono (.new (bc hp _))⟩) (.ref_ (b6 sr.len))
theorem sJ{x1}(h:QA X es cr)(hl:es.length<=1000:=by exact Nat.le_of_ble_eq_true rfl):QE X (.Tuple es x1 pos) (xm cr):=(um h.h).imp fun σ H Q hz=>iA hz fun m ρ S u S' sr lr hc post=>by
 obtain⟨⟨us,S1⟩,h1,h2⟩:=Q2.mp hc;cases h2;refine⟨m,ρ,S,us,_,sr,lr,h1,fun m1 v1 H1 e1 sr1 i1=>⟨Aq ?_,fun p hp=>jj sr1 i1 (post.mono e1) hp⟩⟩;rw[i1.length,h.len _ _ _ _ h1];exact hl
theorem dB(h:QA X es cr)(hl:es.length<=1000:=by exact Nat.le_of_ble_eq_true rfl):QE X (.List es pos) (fN cr):=(BH h.h).imp fun σ H Q hz=>iA hz fun m ρ S u S' sr lr hc post=>by
 obtain⟨⟨us,S1⟩,h1,h2⟩:=Q2.mp hc;cases h2;refine⟨m,ρ,S,us,_,sr,lr,h1,fun m1 v1 H1 e1 sr1 i1=>⟨Aq ?_,fun p hp=>bB sr1 i1 (post.mono e1) hp⟩⟩;rw[i1.length,h.len _ _ _ _ h1];exact hl
def cCB(f:List U->Sto->Option (U×Sto))(cr:CA):CE:=fun ρ S=>(cr ρ S).bind fun p=>f p.1 p.2
def iG(K:Q4)(r:List V->Hp->VK->Prop)(f:List U->Sto->Option (U×Sto)):Prop:=
 ∀m S H us vs u S' Q,Sr K m S H->IsL K m H vs us->f us S=some (u,S')->iF K m H Q u S'->r vs H Q
theorem AY{K:Q4}{r:List V->Hp->VK->Prop}{f:List U->Sto->Option (U×Sto)}(hp:iG K r f):∀σ H Q,tE K (cCB f cr) σ H Q->tCB r (tA K cr) σ H Q:=by
 rintro σ H Q ⟨m,ρ,S,u,S',sr,lr,hc,post⟩;obtain⟨⟨us,S1⟩,h1,h2⟩:=Q2.mp hc;exact⟨m,ρ,S,us,S1,sr,lr,h1,fun m1 v1 H1 e1 sr1 i1=>hp m1 S1 H1 us v1 u S' Q sr1 i1 h2 (post.mono e1)⟩
theorem bo{id:String}{x:Str}{p:Pos}{r:List V->Hp->VK->Prop}{f:List U->Sto->Option (U×Sto)}(hc:bX X (.builtin id) r)(hp:iG X.K r f)(hg:Gl X x)(hm:X.mg x=none)(hv:bootBuiltins x=some (.builtin id))(ha:QA X (e::es) cr)(hn:x≠"__name__":=by decide)(hdb:(x == ("__debug__":Str))=false:=by decide)(he:starEach (e::es) X.env=(false,eval e X.env)::starEach es X.env:=by rfl)(hpl:(backTo pos (starEach es X.env)).any (·.1)=false:=by rfl) :
  QE X (.Call (.Name x p) (e::es) [] pos) (cCB f cr):=(gJ hc hg hm hv ha.h hn hdb he hpl).imp (AY hp)
theorem bT{id:String}{x:Str}{p:Pos}{r:List V->Hp->VK->Prop}{f:List U->Sto->Option (U×Sto)}(hc:bX X (.type id) r)(hp:iG X.K r f)(hg:Gl X x)(hm:X.mg x=none)(hv:bootBuiltins x=some (.type id))(ha:QA X (e::es) cr)(hn:x≠"__name__":=by decide)(hdb:(x == ("__debug__":Str))=false:=by decide)(he:starEach (e::es) X.env=(false,eval e X.env)::starEach es X.env:=by rfl)(hpl:(backTo pos (starEach es X.env)).any (·.1)=false:=by rfl) :
  QE X (.Call (.Name x p) (e::es) [] pos) (cCB f cr):=(iI hc hg hm hv ha.h hn hdb he hpl).imp (AY hp)
end
def GQ(K:Q4)(f:List U->Sto->Option (U×Sto)):Sp:=fun vs H Q _=>∃m us S u S',IsL K m H vs us/\Sr K m S H/\f us S=some (u,S')/\iF K m H Q u S'
abbrev Fn:=List U->Sto->Option (U×Sto)
abbrev eG(P:Program)(w:World)(K:Q4)(mg:Str->Option Value)(base:Heap)(x:Str)(k:Nat)(ps:List Str)(f:Fn):Prop:=Has P w K mg base x k ps (GQ K f)
def nI(n:Nat)(us:List U):Rho:=us.map some++ZU (n-us.length) none
def fnU(n k:Nat)(c:CS):Fn:=fun us S=>if us.length=k then(c (nI n us) S).bind fun r=>match r.1 with
 |.rt u=>some (u,r.2.2)
 |.nx=>some (.non,r.2.2)
 |_=>none else none
section
variable{P:Program}{w:World}{K:Q4}{mg:Str->Option Value}{base:Heap}{x:Str}{st:Stmt}{ps N:List Str}{k:Nat}{c:CS}{f:Fn}
theorem zo{m:List Addr}{H:Hp}{vs:List V}{us:List U}(i:IsL K m H vs us):Lr K m H (nI N.length us) (L2.gK N vs):=by
 have hl:=i.length;refine⟨by simp[nI,L2.gK,hl],fun j u e=>?_⟩;unfold nI at e;unfold L2.gK;by_cases c:j<us.length
 ·rw[Qz (by simpa using c),Qr]at e;rw[Qz (by simpa [hl] using c),Qr];rw[Q6 c]at e;simp at e;obtain⟨v,e1,e2⟩:=i.getD (Q6 c);rw[e1];subst e;exact⟨v,rfl,e2⟩
 ·rw[QN (by simpa using c),X1]at e;split at e<;>cases e
theorem Df{X:Cx}{body:List Stmt}{Q:VK}{E:XK}{vs:List V}{H:Hp}(hK:X.K=K)(h:GQ K (fnU N.length ps.length c) vs H Q E):tS X.K c { nx:=fun _ H'=>Q .non H',rt:=Q } (L2.gK N vs) H:=by
 subst hK;obtain⟨m,us,S,u,S',i,sr,hf,post⟩:=h;unfold fnU at hf;split at hf
 ·obtain⟨⟨o,ρ',S2⟩,h1,h2⟩:=Q2.mp hf;refine⟨m,_,S,o,ρ',S2,sr,zo i,h1,?_⟩;cases o with
  |rt v=>cases h2;exact post
  |nx=>cases h2;exact fun m1 σ1 H1 e1 sr1 _=>post m1 _ H1 e1 sr1 .non_
  |bk=>simp at h2
  |ct=>simp at h2
 ·cases hf
theorem yx{vs:List V}{H:Hp}{Q:VK}{E:XK}{n k:Nat}(h:GQ K (fnU n k c) vs H Q E):vs.length=k:=by
 obtain⟨m,us,S,u,S',i,sr,hf,post⟩:=h;unfold fnU at hf;split at hf
 ·rename_i e;rw[i.length,e]
 ·cases hf
theorem _root_.OG.Def.pure(d:Def K mg x st ps)(S:aX N ps (aC st))
  (hb:∀(f:Addr) (cdv:Value) (A:Around) (outer:List Env) (s:Shared) (H:Hp) (E:XK),kH k (A.deeper (envOfC x (aC st) s.heap.objs.size f cdv))->
   WSs (xT CX0 P w K mg base N x (aC st) f cdv A outer s H E).nox (dj st) (tS K c)):eG P w K mg base x (k+1) ps (fnU N.length ps.length c):=
 d.has S (fun vs H Q E h=>yx h) fun f cdv A outer s H vs Q E hr h=>⟨_,hb f cdv A outer s H E hr,Df (X:=(xT CX0 P w K mg base N x (aC st) f cdv A outer s H E).nox) (body:=[]) (ps:=ps) rfl h⟩
theorem aU{X:Cx}{e:Expr}{es:List Expr}{cr:CA}{p pos:Pos}(F:Has X.prog X.w X.K X.mg X.base x k ps (GQ X.K f))(hr:kH k X.A)(hg:Gl X x)(ha:QA X (e::es) cr)
  (hdb:(x == ("__debug__":Str))=false:=by decide) (he:starEach (e::es) X.env=(false,eval e X.env)::starEach es X.env:=by rfl) (hpl:(backTo pos (starEach es X.env)).any (·.1)=false:=by rfl) :
  QE X (.Call (.Name x p) (e::es) [] pos) (cCB f cr):=(EF F hr hg ha.h hdb he hpl).imp fun σ H Q hz=>iA hz fun m ρ S u S' sr lr hc post=>by
 obtain⟨⟨us,S1⟩,h1,h2⟩:=Q2.mp hc;exact⟨m,ρ,S,us,S1,sr,lr,h1,fun m1 v1 H1 e1 sr1 i1=>⟨m1,us,S1,u,S',by simpa using i1,sr1,h2,post.mono e1⟩⟩
end
section
variable{X:Cx}{e a c:Expr}{ca cb:CE}{pos:Pos}{st:Stmt}{sts:List Stmt}{c1 c2:CS}
def d5:CS:=fun ρ S=>some (.nx,ρ,S)
def bq(c1 c2:CS):CS:=fun ρ S=>(c1 ρ S).bind fun r=>match r.1 with
 |.nx=>c2 r.2.1 r.2.2
 |o=>some (o,r.2.1,r.2.2)
theorem cx:QSs X [] d5:=yb.imp fun D σ H hz=>tP hz fun m ρ S o ρ' S' sr lr hc post=>by cases hc;exact post m σ H .refl sr lr
theorem av(h1:QS X st c1)(h2:QSs X sts c2):QSs X (st::sts) (bq c1 c2):=(ug h1 h2).imp fun D σ H hz=>tP hz fun m ρ S o ρ' S' sr lr hc post=>by
 obtain⟨⟨o1,ρ1,S1⟩,h1,h2⟩:=Q2.mp hc;refine⟨m,ρ,S,o1,ρ1,S1,sr,lr,h1,?_⟩;cases o1 with
 |nx=>exact fun m1 σ1 H1 e1 sr1 lr1=>⟨m1,ρ1,S1,o,ρ',S',sr1,lr1,h2,post.mono e1⟩
 |rt u=>cases h2;exact post
 |bk=>cases h2;exact post
 |ct=>cases h2;exact post
theorem aD(h1:QS X st c1):QSs X [st] c1:=ya h1
def iC(ca:CE):CS:=fun ρ S=>(ca ρ S).bind fun p=>some (.nx,ρ,p.2)
theorem cN(he:QE X e ca)(hs:swapsWith e none pos.line X.env=pure false:=by rfl):QS X (.Expr e pos) (iC ca):=(yc he hs).imp fun D σ H hz=>tP hz fun m ρ S o ρ' S' sr lr hc post=>by
 obtain⟨⟨u,S1⟩,h1,h2⟩:=Q2.mp hc;cases h2;exact⟨m,ρ,S,u,_,sr,lr,h1,fun m1 v1 H1 e1 sr1 i1=>post m1 σ H1 e1 sr1 (lr.mono e1)⟩
def fS(ca:CE):CS:=fun ρ S=>(ca ρ S).bind fun p=>some (.rt p.1,ρ,p.2)
theorem bp(he:QE X e ca):QS X (.Return (some e) pos) (fS ca):=(Bz he).imp fun D σ H hz=>tP hz fun m ρ S o ρ' S' sr lr hc post=>by
 obtain⟨⟨u,S1⟩,h1,h2⟩:=Q2.mp hc;cases h2;exact⟨m,ρ,S,u,_,sr,lr,h1,post⟩
def lP(t:CT)(c1 c2:CS):CS:=fun ρ S=>(t ρ S).bind fun p=>if p.1=true then c1 ρ p.2 else c2 ρ p.2
theorem fg{t:CT}{s1 s2:List Stmt}(hc:QT X c t)(h1:QSs X s1 c1)(h2:QSs X s2 c2):QS X (.If c s1 s2 pos) (lP t c1 c2):=(EB hc h1 h2).imp fun D σ H hz=>tP hz fun m ρ S o ρ' S' sr lr hc post=>by
 obtain⟨⟨x,S1⟩,h1,h2⟩:=Q2.mp hc;refine⟨m,ρ,S,x,S1,sr,lr,h1,fun m1 H1 e1 sr1=>?_⟩;cases x with
 |true=>exact Gg ⟨m1,ρ,S1,o,ρ',S',sr1,lr.mono e1,h2,post.mono e1⟩
 |false=>exact Gh ⟨m1,ρ,S1,o,ρ',S',sr1,lr.mono e1,h2,post.mono e1⟩
abbrev CG:=U->Rho->Sto->Option (Rho×Sto)
def tG(K:Q4)(g:CG):TG:=fun v σ H Q=>∃m ρ S u ρ' S',Sr K m S H/\Lr K m H ρ σ/\Is K m H v u/\g u ρ S=some (ρ',S')/\fT K m H Q ρ' S'
abbrev QG(X:Cx)(e:Expr)(g:CG):Prop:=WG X e (tG X.K g)
def gNm(i:Nat):CG:=fun u ρ S=>some (ρ.set i (some u),S)
theorem aK{i:Nat}(h:WG X e (sZ i)):QG X e (gNm i):=h.imp fun v σ H Q hz=>JG hz fun m ρ S u ρ' S' sr lr iu hc post=>by
 cases hc;exact post m _ H .refl sr (lr.set i iu)
def eM:List Nat->List U->Rho->Option Rho
 |[],[],ρ=>some ρ
 |i::is,u::us,ρ=>eM is us (ρ.set i (some u))
 |_,_,_=>none
def tGs(K:Q4)(is:List Nat):TGs:=fun vs σ H Q=>∃m ρ S us ρ',Sr K m S H/\Lr K m H ρ σ/\IsL K m H vs us/\eM is us ρ=some ρ'/\fT K m H Q ρ' S
abbrev QGs(X:Cx)(es:List Expr)(is:List Nat):Prop:=WGs X es (tGs X.K is)
theorem iM:QGs X [] []:=yg.imp fun v σ H Q ⟨m,ρ,S,us,ρ',sr,lr,iu,hc,post⟩=>by
 cases us with
 |nil=>cases hc;exact⟨iu.of_nil,post m σ H .refl sr lr⟩
 |cons a r=>simp[eM]at hc
theorem bu{i:Nat}{is:List Nat}{es:List Expr}(h:WG X e (sZ i))(h2:QGs X es is)(hs:(assignEach (e::es) X.env).map (·.2)=assign e X.env::(assignEach es X.env).map (·.2):=by rfl):QGs X (e::es) (i::is):=(uj h h2 hs).imp fun v σ H Q ⟨m,ρ,S,us,ρ',sr,lr,iu,hc,post⟩=>by
 cases us with
 |nil=>simp[eM]at hc
 |cons u r=>
  obtain⟨x,xr,rfl,i1,i2⟩:=iu.of_cons;exact⟨x,xr,rfl,m,ρ.set i (some u),S,r,ρ',sr,lr.set i i1,i2,hc,post⟩
def gTp(is:List Nat):CG:=fun u ρ S=>match u with
 |.tup us=>(eM is us ρ).bind fun ρ'=>some (ρ',S)
 |_=>none
theorem kY:∀{is:List Nat} {us:List U} {ρ ρ':Rho},eM is us ρ=some ρ'->us.length=is.length
 |[],[],_,_,_=>rfl
 |[],_::_,_,_,h=>by simp[eM]at h
 |_::_,[],_,_,h=>by simp[eM]at h
 |i::is,u::us,ρ,ρ',h=>by
  have:=kY (is:=is) (us:=us) h;simp[this]
theorem lA{is:List Nat}{es:List Expr}{k:Nat}(hc:X.calm=true)(h:QGs X es is)(hn:(assignEach es X.env).length=is.length:=by rfl)(hst:(assignEach es X.env).findIdx? (·.1)=none:=by rfl):QG X (.Tuple es k pos) (gTp is):=(BC hc h hn hst).imp fun v σ H Q hz=>JG hz fun m ρ S u ρ' S' sr lr iu hc post=>by
 cases u with
 |tup us=>
  obtain⟨ρ2,h1,h2⟩:=Q2.mp hc;cases h2;obtain⟨a,xs,rfl,sq,il⟩:=iu.of_tup;refine⟨a,xs,rfl,sq,?_,m,ρ,S,us,ρ',sr,lr,il,h1,post⟩;rw[il.length];exact kY h1
 |_=>simp[gTp]at hc
def DW(ca:CE)(g:CG):CS:=fun ρ S=>(ca ρ S).bind fun p=>(g p.1 ρ p.2).bind fun q=>some (.nx,q.1,q.2)
theorem DI{K:Q4}{g:CG}:∀D σ H,tS K (DW ca g) D σ H->EX (tE K ca) (tG K g) D σ H:=by
 rintro D σ H ⟨m,ρ,S,o,ρ',S',sr,lr,hc,post⟩;obtain⟨⟨u,S1⟩,h1,h2⟩:=Q2.mp hc;obtain⟨⟨ρ2,S2⟩,h3,h4⟩:=Q2.mp h2;cases h4;exact⟨m,ρ,S,u,S1,sr,lr,h1,fun m1 v1 H1 e1 sr1 i1=>⟨m1,ρ,S1,u,_,_,sr1,lr.mono e1,i1,h3,fT.mono e1 post⟩⟩
theorem Az{tg:Expr}{g:CG}(he:QE X e ca)(hg:QG X tg g)(hs:swapsWithSole [tg] e pos.line X.env=pure false:=by rfl)(hw:swappedStores [tg] e X.env=pure none:=by rfl)
  (h1:(assignEach [tg] X.env).map (·.2)=[assign tg X.env]:=by rfl):QS X (.Assign [tg] e pos) (DW ca g):=(ui he hg hs hw h1).imp DI
def cm(i:Nat)(ca:CE):CS:=fun ρ S=>(ca ρ S).bind fun p=>some (.nx,ρ.set i (some p.1),p.2)
theorem aI{i:Nat}{x:Str}{pos':Pos}(hN:X.N.Nodup)(hi:X.N[i]?=some x)(hx:Loc X.env.scope x)(he:QE X e ca)(hs:swapsWith e (some (.Name x pos')) pos.line X.env=pure false:=by rfl)(hf:X.fn x=true\/X.env.scope.names.lookup x=some .local:=by first|exact .inl rfl|exact .inr rfl|assumption) :
  QS X (.Assign [.Name x pos'] e pos) (cm i ca):=(By hN hi hx he hs hf).imp fun D σ H hz=>tP hz fun m ρ S o ρ' S' sr lr hc post=>by
 obtain⟨⟨u,S1⟩,h1,h2⟩:=Q2.mp hc;cases h2;exact⟨m,ρ,S,u,_,sr,lr,h1,fun m1 v1 H1 e1 sr1 i1=>post m1 _ H1 e1 sr1 ((lr.mono e1).set i i1)⟩
abbrev CI:=Rho->Sto->Option (List U×(Sto->Prop)×Sto)
def Aj(K:Q4)(J:It)(m:List Addr)(H:Hp)(us:List U)(ok:Sto->Prop):Prop:=∀m2 S2 H2 i,Ext K m H m2 H2->Sr K m2 S2 H2->ok S2->
 (∀u,us[i]?=some u->J.go i H2/\∀x H3,J.yld i H2 x H3->Ext K m2 H2 m2 H3/\Sr K m2 S2 H3/\Is K m2 H3 x u)/\(us.length<=i->J.stop i H2)
def tI(K:Q4)(ci:CI):TI:=fun σ H R=>∃m ρ S us ok S',Sr K m S H/\Lr K m H ρ σ/\ci ρ S=some (us,ok,S')/\∀m' H' J,Ext K m H m' H'->Sr K m' S' H'->Aj K J m' H' us ok->R J H'
abbrev QI(X:Cx)(tg iter:Expr)(ci:CI):Prop:=WI X tg iter (tI X.K ci)
open Classical in
def cD(ok:Sto->Prop)(g:CG)(cb:CS):List U->CS
 |[]=>fun ρ S=>if ok S then some (.nx,ρ,S)else none
 |u::us=>fun ρ S=>if ok S then(g u ρ S).bind fun p=>(cb p.1 p.2).bind fun r=>match r.1 with
  |.nx=>cD ok g cb us r.2.1 r.2.2
  |.ct=>cD ok g cb us r.2.1 r.2.2
  |.bk=>some (.nx,r.2.1,r.2.2)
  |.rt v=>some (.rt v,r.2.1,r.2.2)else none
def iH(ci:CI)(g:CG)(cb:CS):CS:=fun ρ S=>(ci ρ S).bind fun p=>cD p.2.1 g cb p.1 ρ p.2.2
theorem ku{α:Type}{us:List α}{i:Nat}{u:α}(h:us[i]?=some u):us.drop i=u::us.drop (i+1):=by
 obtain⟨hl,e⟩:=Q7.mp h;rw[List.drop_eq_getElem_cons hl,e]
theorem zp{K:Q4}{g:CG}{cb:CS}{J:It}{us:List U}{ok:Sto->Prop}{D:A3}{m1:List Addr}{H1:Hp}{ρ ρ':Rho}{σ:L2.St}{S1 S':Sto}{o:Out}(sr1:Sr K m1 S1 H1)(lr1:Lr K m1 H1 ρ σ)(ito:Aj K J m1 H1 us ok)(h2:cD ok g cb us ρ S1=some (o,ρ',S'))(post:tJ K m1 H1 D o ρ' S') :
  ∃W:Nat->Nat->L2.St->Hp->Prop,(∃n,W 0 n σ H1)/\∀i n σ H,W i n σ H->
   (J.stop i H/\D.nx σ H)\/(J.go i H/\∃N:L2.St->Hp->Prop,(∀σ' H',N σ' H'->∃n',n'<n/\W (i+1) n' σ' H')/\∀x H',J.yld i H x H'->tG K g x σ H' fun σ2 H2=>tS K cb { D with nx:=N,ct:=N,bk:=D.nx } σ2 H2):=by
 let W:Nat->Nat->L2.St->Hp->Prop:=fun i n σ2 H2=>n=us.length-i/\i<=us.length/\∃m2 ρ2 S2,Ext K m1 H1 m2 H2/\Sr K m2 S2 H2/\Lr K m2 H2 ρ2 σ2/\cD ok g cb (us.drop i) ρ2 S2=some (o,ρ',S')
 refine⟨W,⟨us.length,by simp,ZQ _,m1,ρ,S1,.refl,sr1,lr1,by simpa using h2⟩,?_⟩;rintro i n σ2 H2 ⟨rfl,hi,m2,ρ2,S2,e2,sr2,lr2,hl⟩;by_cases hlt:i<us.length
 ·have hu:=Q6 hlt;rw[ku hu]at hl;unfold cD at hl;split at hl
  ·rename_i hok;obtain⟨⟨ρ3,S3⟩,h3,hl⟩:=Q2.mp hl;obtain⟨⟨o4,ρ4,S4⟩,h4,hl⟩:=Q2.mp hl;obtain⟨hgo,hy⟩:=(ito m2 S2 H2 i e2 sr2 hok).1 _ hu;refine .inr ⟨hgo,W (i+1) (us.length-(i+1)),fun σ' H' w'=>⟨_,by omega,w'⟩,fun x H3 y=>?_⟩;obtain⟨e3,sr3,ix⟩:=hy x H3 y;refine⟨m2,ρ2,S2,_,ρ3,S3,sr3,lr2.mono e3,ix,h3,fun m4 σ4 H4 e4 sr4 lr4=>⟨m4,ρ3,S3,o4,ρ4,S4,sr4,lr4,h4,?_⟩⟩;have e14:=(e2.trans e3).trans e4;have nxt:cD ok g cb (us.drop (i+1)) ρ4 S4=some (o,ρ',S')->fT K m4 H4 (W (i+1) (us.length-(i+1))) ρ4 S4:=fun hn m5 σ5 H5 e5 sr5 lr5=>⟨rfl,hlt,m5,ρ4,S4,e14.trans e5,sr5,lr5,hn⟩;cases o4 with
   |nx=>exact nxt hl
   |ct=>exact nxt hl
   |bk=>cases hl;exact fT.mono e14 post
   |rt v=>cases hl;exact iF.mono e14 post
  ·cases hl
 ·have e:i=us.length:=by omega
  subst e;rw[List.drop_length]at hl;unfold cD at hl;split at hl
  ·rename_i hok;cases hl;exact .inl ⟨(ito m2 _ H2 _ e2 sr2 hok).2 (QJ _),post m2 σ2 H2 e2 sr2 lr2⟩
  ·cases hl
theorem De{K:Q4}{ci:CI}{g:CG}{cb:CS}:∀D σ H,tS K (iH ci g cb) D σ H->HI (tI K ci) (tG K g) (tS K cb) D σ H:=by
 rintro D σ H ⟨m,ρ,S,o,ρ',S',sr,lr,hc,post⟩;obtain⟨⟨us,ok,S1⟩,h1,h2⟩:=Q2.mp hc;exact⟨m,ρ,S,us,ok,S1,sr,lr,h1,fun m1 H1 J e1 sr1 ito=>zp sr1 (lr.mono e1) ito h2 (tJ.mono e1 post)⟩
theorem cS{tg iter:Expr}{body:List Stmt}{ci:CI}{g:CG}{cb:CS}(hp:PassesOwn (model X.prog X.w) X.A X.env X.xe)(hc:X.calm=true)(hi:QI X tg iter ci)(hg:QG X tg g)(hb:QSs X body cb)(hs:∀x,foldedSetIterable iter X.env x=pure x:=by intro _;rfl):QS X (.For tg iter body [] pos) (iH ci g cb):=(BA hp hc hi hg hb hs).imp De
def bZ(t:CT)(cb:CS):Nat->CS
 |0=>fun _ _=>none
 |n+1=>fun ρ S=>(t ρ S).bind fun p=>if p.1=true then(cb ρ p.2).bind fun r=>match r.1 with
  |.nx=>bZ t cb n r.2.1 r.2.2
  |.ct=>bZ t cb n r.2.1 r.2.2
  |.bk=>some (.nx,r.2.1,r.2.2)
  |.rt v=>some (.rt v,r.2.1,r.2.2)else some (.nx,ρ,p.2)
theorem uv{K:Q4}{t:CT}{cb:CS}{n:Nat}:∀D σ H,tS K (bZ t cb n) D σ H->uG (tT K t) (tS K cb) D σ H:=by
 rintro D σ H ⟨m,ρ,S,o,ρ',S',sr,lr,hc,post⟩;let W:Nat->L2.St->Hp->Prop:=fun n σ2 H2=>∃m2 ρ2 S2,Ext K m H m2 H2/\Sr K m2 S2 H2/\Lr K m2 H2 ρ2 σ2/\bZ t cb n ρ2 S2=some (o,ρ',S')
 refine⟨W,⟨n,m,ρ,S,.refl,sr,lr,hc⟩,?_⟩;rintro k σ2 H2 ⟨m2,ρ2,S2,e2,sr2,lr2,hl⟩;cases k with
 |zero=>cases hl
 |succ k=>
  unfold bZ at hl;obtain⟨⟨x,S3⟩,h3,hl⟩:=Q2.mp hl;refine⟨m2,ρ2,S2,x,S3,sr2,lr2,h3,fun m3 H3 e3 sr3=>?_⟩;have e13:=e2.trans e3;cases x with
  |true=>
   rw[if_pos rfl]at hl;refine Gg ?_;obtain⟨⟨o4,ρ4,S4⟩,h4,hl⟩:=Q2.mp hl;refine⟨W k,fun σ' H' w'=>⟨k,Nat.lt_succ_self _,w'⟩,m3,ρ2,S3,o4,ρ4,S4,sr3,lr2.mono e3,h4,?_⟩;have nxt:bZ t cb k ρ4 S4=some (o,ρ',S')->fT K m3 H3 (W k) ρ4 S4:=fun hn m5 σ5 H5 e5 sr5 lr5=>⟨m5,ρ4,S4,e13.trans e5,sr5,lr5,hn⟩;cases o4 with
   |nx=>exact nxt hl
   |ct=>exact nxt hl
   |bk=>cases hl;exact fT.mono e13 post
   |rt v=>cases hl;exact iF.mono e13 post
  |false=>
   rw[if_neg QM]at hl;refine Gh ?_;cases hl;exact post m3 σ2 H3 e13 sr3 (lr2.mono e3)
theorem mx{body:List Stmt}{t:CT}{cb:CS}(n:Nat)(hp:PassesOwn (model X.prog X.w) X.A X.env X.xe)(hc:QT X c t)(hb:QSs X body cb):QS X (.While c body [] pos) (bZ t cb n):=(uh hp hc hb).imp uv
def iTp(ca:CE):CI:=fun ρ S=>(ca ρ S).bind fun p=>match p.1 with
 |.tup us=>some (us,fun _=>True,p.2)
 |.ref l=>match p.2[l]? with
  |some (.lst us)=>some (us,fun S=>S[l]?=some (.lst us),p.2)
  |_=>none
 |_=>none
theorem Gi{K:Q4}{m:List Addr}{H:Hp}{us:List U}{a:Addr}{xs:List V}(sq:SqT K H a xs)(il:IsL K m H xs us):Aj K (Itt K a) m H us (fun _=>True):=by
 intro m2 S2 H2 i e2 sr2 _;have sq2:=e2.keep.t _ _ sq;have il2:=il.mono e2;refine⟨fun u hu=>?_,fun hi=>⟨xs,sq2,by rw[il2.length];exact hi⟩⟩;obtain⟨x,hx,ix⟩:=il2.getD hu;refine⟨⟨xs,x,sq2,hx⟩,fun y H3 hy=>?_⟩;obtain⟨rfl,hy⟩:=hy;have:=hy xs sq2;rw[hx]at this;cases this;exact⟨.refl,sr2,ix⟩
theorem Gj{K:Q4}{m:List Addr}{H:Hp}{us:List U}{a:Addr}{l:Nat}(hl:m[l]?=some a):Aj K (Itl K a) m H us (fun S=>S[l]?=some (.lst us)):=by
 intro m2 S2 H2 i e2 sr2 hok;obtain⟨a',ha',xs,hx,il⟩:=sr2.get hok;rw[e2.get hl]at ha';cases ha';refine⟨fun u hu=>?_,fun hi=>⟨xs,SqL.of hx,by rw[il.length];exact hi⟩⟩;obtain⟨x,hx',ix⟩:=il.getD hu;refine⟨⟨xs,x,SqL.of hx,hx'⟩,fun y H3 hy=>?_⟩;obtain⟨rfl,hy⟩:=hy;have:=hy xs (SqL.of hx);rw[hx']at this;cases this;exact⟨.refl,sr2,ix⟩
theorem bA{tg:Expr}(h:QE X e ca):QI X tg e (iTp ca):=((BB h).or (yf h)).imp fun σ H R hz=>tP hz fun m ρ S us ok S' sr lr hc post=>by
 obtain⟨⟨u,S1⟩,h1,h2⟩:=Q2.mp hc;cases u with
 |tup ws=>
  cases h2;refine .inl ⟨m,ρ,S,.tup us,_,sr,lr,h1,fun m1 v1 H1 e1 sr1 i1=>?_⟩;obtain⟨a,xs,rfl,sq,il⟩:=i1.of_tup;exact⟨a,rfl,⟨xs,sq⟩,post m1 H1 _ e1 sr1 (Gi sq il)⟩
 |ref l=>
  simp only at h2;split at h2
  ·rename_i us' hS;cases h2;refine .inr ⟨m,ρ,S,.ref l,_,sr,lr,h1,fun m1 v1 H1 e1 sr1 i1=>?_⟩;obtain⟨a,hl,rfl⟩:=i1.of_ref;obtain⟨a',ha',xs,hx,il⟩:=sr1.get hS;rw[hl]at ha';cases ha';exact⟨a,rfl,⟨xs,SqL.of hx⟩,post m1 H1 _ e1 sr1 (Gj hl)⟩
  ·cases h2
 |_=>simp at h2
def bz(lo:Int)(n:Nat):List U:=(Qy n).map fun i=>.int (lo+(i:Nat))
theorem zB{K:Q4}{m:List Addr}{H:Hp}{lo:Int}{n:Nat}:Aj K (Itr lo n) m H (bz lo n) (fun _=>True):=by
 intro m2 S2 H2 i e2 sr2 _;refine⟨fun u hu=>?_,fun hi=>by show n<=i;simpa [bz] using hi⟩;unfold bz at hu;rw[Qr]at hu;by_cases c:i<n
 ·rw[List.getElem?_range c]at hu;simp at hu;subst hu;refine⟨c,fun y H3 hy=>?_⟩;obtain⟨rfl,rfl⟩:=hy;exact⟨.refl,sr2,.int_⟩
 ·rw[ZK (by simpa using c)]at hu;cases hu
def bW(cr:CA):CI:=fun ρ S=>(cr ρ S).bind fun p=>match p.1 with
 |[.int j]=>if -(2^62)<=j/\j<2^62 then some (bz 0 j.toNat,fun _=>True,p.2)else none
 |_=>none
theorem cy{tg:Expr}{cr:CA}{p:Pos}(hg:Gl X "range")(hm:X.mg "range"=none)(ha:QA X [a] cr)(hs:starEach [a] X.env=[(false,eval a X.env)]:=by rfl):QI X tg (.Call (.Name "range" p) [a] [] pos) (bW cr):=(si hg hm ha.h hs).imp fun σ H R hz=>tP hz fun m ρ S us ok S' sr lr hc post=>by
 obtain⟨⟨ws,S1⟩,h1,h2⟩:=Q2.mp hc;simp only at h2;split at h2
 ·rename_i j;split at h2
  ·rename_i hj;cases h2;refine⟨m,ρ,S,_,S',sr,lr,h1,fun m1 v1 H1 e1 sr1 i1=>?_⟩;obtain⟨x,r,rfl,ix,ir⟩:=i1.of_cons;rw[ir.of_nil,ix.of_int];exact⟨j,rfl,hj.1,hj.2,post m1 H1 _ e1 sr1 zB⟩
  ·cases h2
 ·cases h2
end
def fI(g:Int->Int->Option U):U->U->Sto->Option (U×Sto)
 |.int i,.int j,S=>(g i j).bind fun u=>some (u,S)
 |_,_,_=>none
section
variable{X:Cx}{K:Q4}
theorem Im{C:Int->Int->Prop}{gV:Int->Int->V}{g:Int->Int->Option U}(h:∀i j u,g i j=some u->C i j/\∀m H,Is K m H (gV i j) u):OpP K (rI C gV) (fI g):=by
 intro m S H x y v w u S' Q sr ix iy hf post;cases x<;>cases y<;>simp only[fI]at hf<;>try cases hf
 rename_i i j;obtain⟨u1,h1,h2⟩:=Q2.mp hf;cases h2;obtain⟨hc,hi⟩:=h i j u h1;exact⟨i,j,ix.of_int,iy.of_int,hc,post m _ H .refl sr (hi m H)⟩
theorem CJ{gV:Int->Int->V}{g:Int->Int->Option U}(h:∀i j u,g i j=some u->∀m H,Is K m H (gV i j) u):OpP K (rI0 gV) (fI g):=by
 intro m S H x y v w u S' Q sr ix iy hf post;cases x<;>cases y<;>simp only[fI]at hf<;>try cases hf
 rename_i i j;obtain⟨u1,h1,h2⟩:=Q2.mp hf;cases h2;exact⟨i,j,ix.of_int,iy.of_int,post m _ H .refl sr (h i j u h1 m H)⟩
def yG(K:Q4):R2:=fun x y H Q=>∃a b xs ys,x=.ref a/\y=.ref b/\SqT K H a xs/\SqT K H b ys/\xs.length+ys.length<=sizeLine/\∀q H',sd H H'->SqT K H' q (xs++ys)->Q (.ref q) H'
theorem CU:OpR X (binaryOp .Add) (yG X.K):=by
 intro pins s σ H x y v u Q I rx ry h;obtain⟨a,b,xs,ys,rfl,rfl,ha,hb,hz,q⟩:=h;by_cases e:xs=[]
 ·cases rx;cases ry;obtain⟨its,r1,p1,_⟩:=I.tuple ha;obtain⟨its2,r2,p2,_⟩:=I.tuple hb;refine zX p1 p2 (r1.nil_iff.mpr e) ⟨.ref b,H,I,rfl,q b H (.refl _) (by rw[e];exact hb)⟩
 ·refine CQ pins s σ H _ _ v u Q I rx ry ⟨a,b,xs,ys,rfl,rfl,ha,hb,e,hz,fun z=>q a H (.refl _) (by rw[z,Qe];exact ha),fun _ p hp=>q p _ (eA hp _) (SqT.of aF)⟩
def wJ:U->U->Sto->Option (U×Sto)
 |.tup a,.tup b,S=>if a.length+b.length<=LIM then some (.tup (a++b),S)else none
 |_,_,_=>none
theorem y2:OpP K (yG K) wJ:=by
 intro m S H x y v w u S' Q sr ix iy hf post;cases x<;>cases y<;>simp only[wJ]at hf<;>try cases hf
 split at hf<;>try cases hf
 rename_i hl;obtain⟨a,xs,rfl,sa,la⟩:=ix.of_tup;obtain⟨b,ys,rfl,sb,lb⟩:=iy.of_tup;refine⟨a,b,xs,ys,rfl,rfl,sa,sb,lim (by rw[la.length,lb.length];exact hl),fun q H' s sq=>?_⟩;exact post m _ H' (.of (b8 s)) (sr.same s) (.tup_ sq ((la.append lb).mono (.of (b8 s))))
def iS:U->U->Sto->Option (U×Sto)
 |.ref l,.ref k,S=>match S[l]?,S[k]? with
  |some (.lst a),some (.lst b)=>if a.length+b.length<=LIM then some (.ref S.length,S++[.lst (a++b)])else none
  |_,_=>none
 |_,_,_=>none
theorem y8:OpP K GS iS:=by
 intro m S H x y v w u S' Q sr ix iy hf post;cases x<;>cases y<;>simp only[iS]at hf<;>try cases hf
 rename_i l k;split at hf<;>try cases hf
 rename_i a b h1 h2;split at hf<;>try cases hf
 rename_i hl;obtain⟨p,hp,rfl⟩:=ix.of_ref;obtain⟨q,hq,rfl⟩:=iy.of_ref;obtain⟨p',hp',xs,hx,il⟩:=sr.get h1;obtain⟨q',hq',ys,hy,il'⟩:=sr.get h2;rw[hp]at hp';cases hp';rw[hq]at hq';cases hq';exact⟨p,q,xs,ys,rfl,rfl,hx,hy,lim (by rw[il.length,il'.length];exact hl),fun r hr=>bB sr (il.append il') post hr⟩
def wK:U->U->Sto->Option (U×Sto)
 |.str a,.str b,S=>if a.length+b.length<=LIM then some (.str (a++b),S)else none
 |_,_,_=>none
theorem y3:OpP K (fun x y H Q=>∃i j,x=.str i/\y=.str j/\i.length+j.length<=sizeLine/\Q (.str (i++j)) H) wK:=by
 intro m S H x y v w u S' Q sr ix iy hf post;cases x<;>cases y<;>simp only[wK]at hf<;>try cases hf
 split at hf<;>try cases hf
 rename_i hl;exact⟨_,_,ix.of_str,iy.of_str,lim hl,post m _ H .refl sr .str_⟩
def dF:U->U->Sto->Option (U×Sto)
 |.int i,.int j,S=>some (.int (i+j),S)
 |.tup a,.tup b,S=>if a.length+b.length<=LIM then some (.tup (a++b),S)else none
 |.str a,.str b,S=>if a.length+b.length<=LIM then some (.str (a++b),S)else none
 |.ref l,.ref k,S=>iS (.ref l) (.ref k) S
 |_,_,_=>none
theorem dW:OpR X (binaryOp .Add) (fun x y H Q=>rI0 (fun i j=>.int (i+j)) x y H Q\/(GS x y H Q\/(yG X.K x y H Q\/∃i j,x=.str i/\y=.str j/\i.length+j.length<=sizeLine/\Q (.str (i++j)) H))):=FQ.or (FP.or (CU.or sR))
theorem dU:OpP K (fun x y H Q=>rI0 (fun i j=>.int (i+j)) x y H Q\/(GS x y H Q\/(yG K x y H Q\/∃i j,x=.str i/\y=.str j/\i.length+j.length<=sizeLine/\Q (.str (i++j)) H))) dF:=by
 intro m S H x y v w u S' Q sr ix iy hf post;cases x<;>cases y<;>simp only[dF]at hf<;>try cases hf
 ·exact .inl ⟨_,_,ix.of_int,iy.of_int,post m _ H .refl sr .int_⟩
 ·exact .inr (.inr (.inr (y3 m S H _ _ v w u S' Q sr ix iy hf post)))
 ·exact .inr (.inr (.inl (y2 m S H _ _ v w u S' Q sr ix iy hf post)))
 ·exact .inr (.inl (y8 m S H _ _ v w u S' Q sr ix iy hf post))
def IV:=fI fun i j=>some (.int (i-j))
theorem Il:OpP K (rI0 fun i j=>.int (i-j)) IV:=CJ fun i j u h m H=>by cases h;exact .int_
instance {i j:Int}:Decidable (A5 i j):=by unfold A5;exact inferInstance
def ju:=fI fun i j=>if A5 i j then some (.int (i*j))else none
theorem mD:OpP K (rI A5 fun i j=>.int (i*j)) ju:=Im fun i j u h=>by
 split at h
 ·rename_i c;cases h;exact⟨c,fun m H=>.int_⟩
 ·cases h
instance {i j:Int}:Decidable (tK i j):=by unfold tK;exact inferInstance
def AR:=fI fun i j=>if tK i j then some (.int (i / j))else none
theorem FL:OpP K (rI tK fun i j=>.int (i / j)) AR:=Im fun i j u h=>by
 split at h
 ·rename_i c;cases h;exact⟨c,fun m H=>.int_⟩
 ·cases h
def tq:=fI fun i j=>if 0<j then some (.int (i % j))else none
theorem y6:OpP K (rI (fun _ j=>0<j) fun i j=>.int (i % j)) tq:=Im fun i j u h=>by
 split at h
 ·rename_i c;cases h;exact⟨c,fun m H=>.int_⟩
 ·cases h
instance {i j:Int}:Decidable (JK i j):=by unfold JK;exact inferInstance
def fLt:=fI fun i j=>some (.bl (decide (i<j)))
def fLe:=fI fun i j=>some (.bl (decide (i<=j)))
def fGt:=fI fun i j=>some (.bl (decide (j<i)))
def fGe:=fI fun i j=>some (.bl (decide (j<=i)))
theorem DT:OpP K (rI0 fun i j=>.bl (decide (i<j))) fLt:=CJ fun i j u h m H=>by cases h;exact .bl_
theorem Iq:OpP K (rI0 fun i j=>.bl (decide (j<i))) fGt:=CJ fun i j u h m H=>by cases h;exact .bl_
def eqS:U->U->Option Bool
 |.int i,.int j=>some (decide (i=j))
 |.bl i,.bl j=>some (decide (i=j))
 |.str i,.str j=>some (decide (i=j))
 |.non,.non=>some true
 |.non,.int _=>some false|.int _,.non=>some false
 |.non,.bl _=>some false|.bl _,.non=>some false
 |.non,.str _=>some false|.str _,.non=>some false
 |.int _,.str _=>some false|.str _,.int _=>some false
 |.bl _,.str _=>some false|.str _,.bl _=>some false
 |_,_=>none
def fEq:U->U->Sto->Option (U×Sto):=fun x y S=>(eqS x y).bind fun b=>some (.bl b,S)
def fNe:U->U->Sto->Option (U×Sto):=fun x y S=>(eqS x y).bind fun b=>some (.bl (!b),S)
theorem AV{m:List Addr}{H:Hp}{x y:U}{v w:V}{b:Bool}(ix:Is K m H v x)(iy:Is K m H w y)(h:eqS x y=some b):HK v w=true/\decide (v=w)=b:=by
 cases x<;>cases y<;>simp only[eqS]at h<;>(first|cases h|skip);all_goals
  (first|(have e1:=ix.of_int)|(have e1:=ix.of_bl)|(have e1:=ix.of_str)|(have e1:=ix.of_non))
  (first|(have e2:=iy.of_int)|(have e2:=iy.of_bl)|(have e2:=iy.of_str)|(have e2:=iy.of_non))
  subst e1 e2;exact⟨rfl,by simp⟩
theorem FK:OpP K rEq fEq:=by
 intro m S H x y v w u S' Q sr ix iy hf post;obtain⟨b,h1,h2⟩:=Q2.mp hf;cases h2;obtain⟨e1,e2⟩:=AV ix iy h1;exact⟨e1,by rw[e2];exact post m _ H .refl sr .bl_⟩
theorem CL:OpP K rNe fNe:=by
 intro m S H x y v w u S' Q sr ix iy hf post;obtain⟨b,h1,h2⟩:=Q2.mp hf;cases h2;obtain⟨e1,e2⟩:=AV ix iy h1;exact⟨e1,by rw[e2];exact post m _ H .refl sr .bl_⟩
def mS:U->U->Sto->Option (U×Sto)
 |.bl a,.bl b,S=>some (.bl (a !=b),S)
 |_,_,_=>none
theorem y9:OpP K (fun x y H Q=>∃k l,x=.bl k/\y=.bl l/\Q (.bl (k !=l)) H) mS:=by
 intro m S H x y v w u S' Q sr ix iy hf post;cases x<;>cases y<;>simp only[mS]at hf<;>cases hf;exact⟨_,_,ix.of_bl,iy.of_bl,post m _ H .refl sr .bl_⟩
section
variable{κ:Type}[DecidableEq κ]
def kW{α:Type}(kvs:List (κ×α))(k:κ):Option α:=(kvs.find? fun kv=>decide (kv.1=k)).map (·.2)
def i7{α:Type}(kvs:List (κ×α))(k:κ)(v:α):List (κ×α):=
 if (kvs.any fun kv=>decide (kv.1=k))=true then kvs.map (fun kv=>if kv.1=k then(kv.1,v)else kv)else kvs++[(k,v)]
variable{m:List Addr}{H:Hp}{kvs:List (κ×V)}{kus:List (κ×U)}{k:κ}{v:V}{u:U}
theorem IsP.val(h:IsP K m H kvs kus):Rf K m H (kK kvs k) (kW kus k):=by
 refine IsP.ind (P:=fun kvs kus=>Rf K m H (kK kvs k) (kW kus k)) trivial (fun k' v u kvs kus i _ ih=>?_) h;by_cases e:k'=k
 ·subst e;simp[kK,kW,Zy,Rf,i]
 ·simp only[kK,kW,Zy,decide_eq_false e]at ih ⊢;exact ih
theorem IsP.any_(h:IsP K m H kvs kus):(kvs.any fun kv=>decide (kv.1=k))=(kus.any fun kv=>decide (kv.1=k)):=
 IsP.ind (P:=fun kvs kus=>(kvs.any fun kv=>decide (kv.1=k))=(kus.any fun kv=>decide (kv.1=k))) rfl (fun k' v u kvs kus i _ ih=>by simp only[Zi,ih]) h
theorem IsP.append{kvs':List (κ×V)}{kus':List (κ×U)}(h:IsP K m H kvs kus)(h':IsP K m H kvs' kus'):IsP K m H (kvs++kvs') (kus++kus'):=⟨by simp[h.1,h'.1],by simpa using h.2.append h'.2⟩
theorem IsP.put(h:IsP K m H kvs kus)(i:Is K m H v u):IsP K m H (o8 kvs k v) (i7 kus k u):=by
 unfold o8 i7;rw[h.any_];split
 ·refine IsP.ind (P:=fun kvs kus=>IsP K m H (kvs.map fun kv=>if kv.1=k then(kv.1,v)else kv) (kus.map fun kv=>if kv.1=k then(kv.1,u)else kv)) .nil_ (fun k' v' u' kvs kus i' _ ih=>?_) h;simp only[QF];by_cases e:k'=k
  ·simp only[e,if_true];exact .cons_ i ih
  ·simp only[e,if_false];exact .cons_ i' ih
 ·exact h.append (.cons_ i .nil_)
end
def oj:U->Option Key
 |.int i=>some (.inl i)
 |.str x=>some (.inr x)
 |_=>none
theorem iQ{m:List Addr}{H:Hp}{x:U}{v:V}{k:Key}(ix:Is K m H v x)(h:oj x=some k):v=kV k:=by
 cases x<;>simp only[oj]at h<;>cases h
 ·exact ix.of_int
 ·exact ix.of_str
def iR:U->Bool
 |.non=>true|.bl _=>true|.int _=>true|.str _=>true|_=>false
def eqF:U->U->Bool
 |.non,.non=>true
 |.bl a,.bl b=>a == b
 |.bl a,.int b=>(if a then 1 else 0) == b
 |.int a,.bl b=>a == (if b then 1 else 0)
 |.int a,.int b=>a == b
 |.str a,.str b=>a == b
 |_,_=>false
def inU(x:U)(us:List U):Bool:=us.any fun y=>eqF y x
theorem pZ{m:List Addr}{H:Hp}{x:U}{v:V}(ix:Is K m H v x)(h:iR x=true):kO v=true:=by
 cases x with
 |non=>rw[ix.of_non];rfl
 |bl b=>rw[ix.of_bl];rfl
 |int i=>rw[ix.of_int];rfl
 |str i=>rw[ix.of_str];rfl
 |tup us=>cases h
 |ref l=>cases h
 |kl l=>cases h
theorem Gy{m:List Addr}{H:Hp}{x y:U}{v w:V}(ix:Is K m H v x)(iy:Is K m H w y)(hx:iR x=true)(hy:iR y=true):eqV v w=eqF x y:=by
 cases x<;>(first|cases hx|skip)<;>cases y<;>(first|cases hy|skip);all_goals
  (first|(have e1:=ix.of_int)|(have e1:=ix.of_bl)|(have e1:=ix.of_str)|(have e1:=ix.of_non))
  (first|(have e2:=iy.of_int)|(have e2:=iy.of_bl)|(have e2:=iy.of_str)|(have e2:=iy.of_non))
  subst e1 e2;rfl
theorem mR{m:List Addr}{H:Hp}:∀{xs:List V} {us:List U},IsL K m H xs us->us.all iR=true->xs.all kO=true
 |xs,[],h,_=>by rw[h.of_nil];rfl
 |xs,u::us,h,k=>by
  obtain⟨x,r,rfl,i,t⟩:=h.of_cons;rw[Zo,ZI]at k ⊢;exact⟨pZ i k.1,mR t k.2⟩
theorem wx{m:List Addr}{H:Hp}{x:U}{v:V}(ix:Is K m H v x)(hx:iR x=true):∀{xs:List V} {us:List U},IsL K m H xs us->us.all iR=true->inV v xs=inU x us
 |xs,[],h,_=>by rw[h.of_nil];rfl
 |xs,u::us,h,k=>by
  obtain⟨y,r,rfl,i,t⟩:=h.of_cons;rw[Zo,ZI]at k;have ih:=wx ix hx t k.2;unfold inV inU at ih ⊢;rw[Zi,Zi,ih,Gy i ix k.1 hx]
theorem _root_.L2.DGet.kz{H:Hp}{a:Addr}{ob:Obj}{kvs:List (Key×V)}{k:Key}(e:H a=some (.frz ob (.dK kvs))):DGet H a (kV k) (kK kvs k):=.inl ⟨kvs,k,.inr ⟨ob,e⟩,rfl,rfl⟩
def fIn(neg:Bool):U->U->Sto->Option (U×Sto):=fun x y S=>match y with
 |.tup us=>if iR x=true/\us.all iR=true then some (.bl (if neg then !inU x us else inU x us),S)else none
 |.ref l=>match S[l]? with
  |some (.lst us)=>if iR x=true/\us.all iR=true then some (.bl (if neg then !inU x us else inU x us),S)else none
  |some (.dic kus)=>(oj x).bind fun k=>some (.bl (if neg then !(kW kus k).isSome else(kW kus k).isSome),S)
  |some (.fdc ep kus)=>(oj x).bind fun k=>some (.bl (if neg then !(kW kus k).isSome else(kW kus k).isSome),S)
  |_=>none
 |_=>none
theorem Rf.isSome{m:List Addr}{H:Hp}{v:Option V}{u:Option U}(h:Rf K m H v u):v.isSome=u.isSome:=by
 cases v<;>cases u<;>first|rfl|exact h.elim
theorem wt{ca cb:CE}{neg:Bool}(t2:TE->TE->TE)(h2:∀ta tb σ H Q,(ta σ H fun y H1=>tb σ H1 fun x H2=>∃a o,x=.ref a/\DGet H2 a y o/\Q (.bl (if neg then !o.isSome else o.isSome)) H2)->t2 ta tb σ H Q):∀σ H Q,tE K (cOp (fIn neg) ca cb) σ H Q->tOp (rIn K neg) (tE K ca) (tE K cb) σ H Q\/t2 (tE K ca) (tE K cb) σ H Q:=by
 rintro σ H Q ⟨m,ρ,S,u,S',sr,lr,hc,post⟩;obtain⟨⟨x,S1⟩,h1,h⟩:=Q2.mp hc;obtain⟨⟨y,S2⟩,h3,h4⟩:=Q2.mp h;cases y with
 |tup us=>
  simp only[fIn]at h4;split at h4<;>try cases h4
  rename_i hf;refine .inl ⟨m,ρ,S,x,S1,sr,lr,h1,fun m1 v1 H1 e1 sr1 i1=>⟨m1,ρ,S1,.tup us,S',sr1,lr.mono e1,h3,fun m2 v2 H2 e2 sr2 i2=>?_⟩⟩;obtain⟨a,xs,rfl,sa,la⟩:=i2.of_tup;refine⟨a,xs,rfl,.inr sa,pZ (i1.mono e2) hf.1,mR la hf.2,?_⟩;rw[wx (i1.mono e2) hf.1 la hf.2];exact post m2 _ H2 (e1.trans e2) sr2 .bl_
 |ref l=>
  simp only[fIn]at h4;split at h4<;>try cases h4
  ·rename_i us hS;split at h4<;>try cases h4
   rename_i hf;refine .inl ⟨m,ρ,S,x,S1,sr,lr,h1,fun m1 v1 H1 e1 sr1 i1=>⟨m1,ρ,S1,.ref l,S',sr1,lr.mono e1,h3,fun m2 v2 H2 e2 sr2 i2=>?_⟩⟩;obtain⟨a,ha,rfl⟩:=i2.of_ref;obtain⟨a',ha',xs,hx,la⟩:=sr2.get hS;rw[ha]at ha';cases ha';refine⟨a,xs,rfl,.inl (SqL.of hx),pZ (i1.mono e2) hf.1,mR la hf.2,?_⟩;rw[wx (i1.mono e2) hf.1 la hf.2];exact post m2 _ H2 (e1.trans e2) sr2 .bl_
  ·rename_i kus hS;obtain⟨k,hk,h5⟩:=Q2.mp h4;cases h5;refine .inr (h2 _ _ _ _ _ ⟨m,ρ,S,x,S1,sr,lr,h1,fun m1 v1 H1 e1 sr1 i1=>⟨m1,ρ,S1,.ref l,S',sr1,lr.mono e1,h3,fun m2 v2 H2 e2 sr2 i2=>?_⟩⟩);obtain⟨a,ha,rfl⟩:=i2.of_ref;obtain⟨a',ha',kvs,hx,ip⟩:=sr2.get hS;rw[ha]at ha';cases ha';have ek:=iQ (i1.mono e2) hk;subst ek;refine⟨a,_,rfl,DGet.k hx,?_⟩;rw[(IsP.val ip).isSome];exact post m2 _ H2 (e1.trans e2) sr2 .bl_
  ·rename_i ep kus hS;obtain⟨k,hk,h5⟩:=Q2.mp h4;cases h5;refine .inr (h2 _ _ _ _ _ ⟨m,ρ,S,x,S1,sr,lr,h1,fun m1 v1 H1 e1 sr1 i1=>⟨m1,ρ,S1,.ref l,S',sr1,lr.mono e1,h3,fun m2 v2 H2 e2 sr2 i2=>?_⟩⟩);obtain⟨a,ha,rfl⟩:=i2.of_ref;obtain⟨a',ha',ob,es,kvs,hx,hd,ip⟩:=sr2.get hS;rw[ha]at ha';cases ha';have ek:=iQ (i1.mono e2) hk;subst ek;refine⟨a,_,rfl,DGet.kz hx,?_⟩;rw[(IsP.val ip).isSome];exact post m2 _ H2 (e1.trans e2) sr2 .bl_
 |_=>simp[fIn]at h4
variable{e a b:Expr}{ca cb:CE}{pos:Pos}
theorem J3(hu:X.A.units+1<cLine)(ha:QE X a ca)(hb:QE X b cb)(hm:behindInMarks .In b=false):QE X (.Compare a [.In] [b] pos) (cOp (fIn false) ca cb):=
 ((qB n6 ha hb hm).or (BI (uu hu ha hb) hm)).imp (wt (neg:=false) GP fun _ _ _ _ _ h=>h)
theorem sL(hu:X.A.units+1<cLine)(ha:QE X a ca)(hb:QE X b cb)(hm:behindInMarks .In b=false):QT X (.Compare a [.In] [b] pos) (aL (cOp (fIn false) ca cb)):=
 ((lT n6 ha hb hm).or (ue (uu hu ha hb) hm)).imp (jc (wt (neg:=false) GP fun _ _ _ _ _ h=>h))
theorem yH(hu:X.A.units+1<cLine)(ha:QE X a ca)(hb:QE X b cb)(hm:behindInMarks .NotIn b=false):QT X (.Compare a [.NotIn] [b] pos) (aL (cOp (fIn true) ca cb)):=
 ((lT nY ha hb hm).or (ue (sk hu ha hb) hm)).imp (jc (wt (neg:=true) pE fun _ _ _ _ _ h=>h))
def fIx:U->U->Sto->Option (U×Sto):=fun x y S=>match x with
 |.tup us=>match y with
  |.int i=>(atI us i).bind fun u=>some (u,S)
  |_=>none
 |.ref l=>match S[l]? with
  |some (.lst us)=>(match y with
   |.int i=>(atI us i).bind fun u=>some (u,S)
   |_=>none)
  |some (.dic kus)=>(oj y).bind fun k=>(kW kus k).bind fun u=>some (u,S)
  |some (.fdc ep kus)=>(oj y).bind fun k=>(kW kus k).bind fun u=>some (u,S)
  |_=>none
 |.kl ns=>match y with
  |.int i=>(atI (ns.map U.int) i).bind fun u=>some (u,S)
  |_=>none
 |_=>none
theorem rG{K:Q4}{m:List Addr}{H:Hp}:∀ns:List Int,IsL K m H (ns.map V.int) (ns.map U.int)
 |[]=>.nil_
 |n::ns=>.cons_ .int_ (rG ns)
theorem xw{m:List Addr}{H:Hp}{xs:List V}{us:List U}{i:Int}{u:U}(l:IsL K m H xs us)(h:atI us i=some u):∃v,atI xs i=some v/\Is K m H v u:=by
 unfold atI at h ⊢;rw[l.length];obtain⟨j,e1,e2⟩:=Q2.mp h;rw[e1];obtain⟨v,e3,e4⟩:=l.getD e2;exact⟨v,e3,e4⟩
theorem eC(hu:X.A.units+1<cLine)(ha:QE X a ca)(hb:QE X b cb)(hs:qq b)(hs2:DY b):QE X (.Subscript a b pos) (cOp fIx ca cb):=
 ((EE (C5.or Gf) ha hb hs).or (yi hu ha hb hs2)).imp fun σ H Q hz=>iA hz fun m ρ S u S' sr lr hc post=>by
 obtain⟨⟨x,S1⟩,h1,h⟩:=Q2.mp hc;obtain⟨⟨y,S2⟩,h3,h4⟩:=Q2.mp h;cases x with
 |tup us=>
  simp only[fIx]at h4;split at h4<;>try cases h4
  rename_i i;obtain⟨w,hw,h5⟩:=Q2.mp h4;cases h5;refine .inl ⟨m,ρ,S,_,S1,sr,lr,h1,fun m1 v1 H1 e1 sr1 i1=>⟨m1,ρ,S1,_,S',sr1,lr.mono e1,h3,fun m2 v2 H2 e2 sr2 i2=>.inr ?_⟩⟩;obtain⟨a,xs,rfl,sa,la⟩:=(i1.mono e2).of_tup;obtain⟨z,ez,iz⟩:=xw la hw;exact⟨a,xs,i,z,rfl,i2.of_int,sa,ez,post m2 _ H2 (e1.trans e2) sr2 iz⟩
 |ref l=>
  simp only[fIx]at h4;split at h4<;>try cases h4
  ·rename_i us hS;split at h4<;>try cases h4
   rename_i i;obtain⟨w,hw,h5⟩:=Q2.mp h4;cases h5;refine .inl ⟨m,ρ,S,_,S1,sr,lr,h1,fun m1 v1 H1 e1 sr1 i1=>⟨m1,ρ,S1,_,S',sr1,lr.mono e1,h3,fun m2 v2 H2 e2 sr2 i2=>.inl ?_⟩⟩;obtain⟨a,ha,rfl⟩:=(i1.mono e2).of_ref;obtain⟨a',ha',xs,hx,la⟩:=sr2.get hS;rw[ha]at ha';cases ha';obtain⟨z,ez,iz⟩:=xw la hw;exact⟨a,xs,i,z,rfl,i2.of_int,SqL.of hx,ez,post m2 _ H2 (e1.trans e2) sr2 iz⟩
  ·rename_i kus hS;obtain⟨k,hk,h5⟩:=Q2.mp h4;obtain⟨w,hw,h6⟩:=Q2.mp h5;cases h6;refine .inr ⟨m,ρ,S,_,S1,sr,lr,h1,fun m1 v1 H1 e1 sr1 i1=>⟨m1,ρ,S1,_,S',sr1,lr.mono e1,h3,fun m2 v2 H2 e2 sr2 i2=>?_⟩⟩;obtain⟨a,ha,rfl⟩:=(i1.mono e2).of_ref;obtain⟨a',ha',kvs,hx,ip⟩:=sr2.get hS;rw[ha]at ha';cases ha';have ek:=iQ i2 hk;subst ek;have rf:=IsP.val (k:=k) ip;rw[hw]at rf;cases hv:kK kvs k with
   |none=>rw[hv]at rf;exact rf.elim
   |some z=>
    rw[hv]at rf;exact⟨a,z,rfl,by have:=DGet.k (k:=k) hx;rw[hv]at this;exact this,post m2 _ H2 (e1.trans e2) sr2 rf⟩
  ·rename_i ep kus hS;obtain⟨k,hk,h5⟩:=Q2.mp h4;obtain⟨w,hw,h6⟩:=Q2.mp h5;cases h6;refine .inr ⟨m,ρ,S,_,S1,sr,lr,h1,fun m1 v1 H1 e1 sr1 i1=>⟨m1,ρ,S1,_,S',sr1,lr.mono e1,h3,fun m2 v2 H2 e2 sr2 i2=>?_⟩⟩;obtain⟨a,ha,rfl⟩:=(i1.mono e2).of_ref;obtain⟨a',ha',ob,es,kvs,hx,hd,ip⟩:=sr2.get hS;rw[ha]at ha';cases ha';have ek:=iQ i2 hk;subst ek;have rf:=IsP.val (k:=k) ip;rw[hw]at rf;cases hv:kK kvs k with
   |none=>rw[hv]at rf;exact rf.elim
   |some z=>
    rw[hv]at rf;exact⟨a,z,rfl,by have:=DGet.kz (k:=k) hx;rw[hv]at this;exact this,post m2 _ H2 (e1.trans e2) sr2 rf⟩
 |kl ns=>
  simp only[fIx]at h4;split at h4<;>try cases h4
  rename_i i;obtain⟨w,hw,h5⟩:=Q2.mp h4;cases h5;refine .inl ⟨m,ρ,S,_,S1,sr,lr,h1,fun m1 v1 H1 e1 sr1 i1=>⟨m1,ρ,S1,_,S',sr1,lr.mono e1,h3,fun m2 v2 H2 e2 sr2 i2=>.inl ?_⟩⟩;obtain⟨a,rfl,ka⟩:=(i1.mono e2).of_kl;obtain⟨z,ez,iz⟩:=xw (rG (K:=X.K) (m:=m2) (H:=H2) ns) hw;exact⟨a,_,i,z,rfl,i2.of_int,ka.sq,ez,post m2 _ H2 (e1.trans e2) sr2 iz⟩
 |_=>simp[fIx]at h4
def i8:U->U->U->Sto->Option Sto:=fun o i v S=>match o with
 |.ref l=>match S[l]? with
  |some (.lst us)=>(match i with
   |.int k=>(ixN us.length k).bind fun j=>some (S.set l (.lst (us.set j v)))
   |_=>none)
  |some (.dic kus)=>(oj i).bind fun k=>if kus.length<LIM then some (S.set l (.dic (i7 kus k v)))else none
  |_=>none
 |_=>none
def oR(co ci cv:CE):CS:=fun ρ S=>(cv ρ S).bind fun p=>(co ρ p.2).bind fun q=>(ci ρ q.2).bind fun r=>(i8 q.1 r.1 p.1 r.2).bind fun S'=>some (.nx,ρ,S')
theorem qU{o i:Expr}{co ci cv:CE}{pos':Pos}(hu:X.A.units+1<cLine)(ho:QE X o co)(hi:QE X i ci)(hv:QE X e cv)
  (hs0:swapsWithSole [.Subscript o i pos'] e pos.line X.env=pure false:=by rfl) (hw:swappedStores [.Subscript o i pos'] e X.env=pure none:=by rfl)
  (h1:(assignEach [.Subscript o i pos'] X.env).map (·.2)=[assign (.Subscript o i pos') X.env]:=by rfl)
  (hs:swapsWith e (some (.Subscript o i pos')) pos.line X.env=pure false:=by rfl)
  (ha:∀v,assign (.Subscript o i pos') X.env v=(do
   let ov <-holding [v] (eval o X.env)
   let iv <-holding [v,ov] (eval i X.env)
   standAt pos'
   holding [v,ov,iv] (setItem ov iv v)
   release [v,ov,iv] []):=by intro _;rfl):QS X (.Assign [.Subscript o i pos'] e pos) (oR co ci cv):=
 ((ui hv (BD ho hi mm ha) hs0 hw h1).or (qz hu ho hi hv hs)).imp fun D σ H hz=>tP hz fun m ρ S o ρ' S' sr lr hc post=>by
 obtain⟨⟨v,S1⟩,h1,h⟩:=Q2.mp hc;obtain⟨⟨ou,S2⟩,h2,h⟩:=Q2.mp h;obtain⟨⟨iu,S3⟩,h3,h⟩:=Q2.mp h;obtain⟨S4,h4,h⟩:=Q2.mp h;cases h;cases ou with
 |ref l=>
  simp only[i8]at h4;split at h4<;>try cases h4
  ·rename_i us hS;split at h4<;>try cases h4
   rename_i k;obtain⟨j,hj,h5⟩:=Q2.mp h4;cases h5;refine .inl ⟨m,ρ,S,v,S1,sr,lr,h1,fun m1 v1 H1 e1 sr1 i1=>⟨m1,ρ,S1,_,S2,sr1,lr.mono e1,h2,fun m2 v2 H2 e2 sr2 i2=>⟨m2,ρ,S2,_,S3,sr2,lr.mono (e1.trans e2),h3,fun m3 v3 H3 e3 sr3 i3=>?_⟩⟩⟩;obtain⟨a,ha,rfl⟩:=(i2.mono e3).of_ref;obtain⟨a',ha',xs,hx,la⟩:=sr3.get hS;rw[ha]at ha';cases ha';have e13:=(e1.trans e2).trans e3;have ek:Ext X.K m3 H3 m3 (upd H3 a (.lst (xs.set j v1))):=.of (sr3.keep ha _);refine⟨a,xs,k,j,rfl,i3.of_int,hx,by rw[la.length];exact hj,post m3 σ _ (e13.trans ek) (sr3.put ha ⟨_,aF,((la.set (i1.mono (e2.trans e3)))).mono ek⟩) (lr.mono (e13.trans ek))⟩
  ·rename_i kus hS;obtain⟨k,hk,h5⟩:=Q2.mp h4;split at h5<;>try cases h5
   have hlen:kus.length<LIM:=by assumption
   refine .inr ⟨m,ρ,S,v,S1,sr,lr,h1,fun m1 v1 H1 e1 sr1 i1=>⟨m1,ρ,S1,_,S2,sr1,lr.mono e1,h2,fun m2 v2 H2 e2 sr2 i2=>⟨m2,ρ,S2,_,S3,sr2,lr.mono (e1.trans e2),h3,fun m3 v3 H3 e3 sr3 i3=>?_⟩⟩⟩;obtain⟨a,ha,rfl⟩:=(i2.mono e3).of_ref;obtain⟨a',ha',kvs,hx,ip⟩:=sr3.get hS;rw[ha]at ha';cases ha';have ek:=iQ i3 hk;subst ek;have e13:=(e1.trans e2).trans e3;have ee:Ext X.K m3 H3 m3 (upd H3 a (.dK (o8 kvs k v1))):=.of (sr3.keep ha _);exact⟨a,_,rfl,A4.k hx (F0 (by rw[IsP.length ip];exact hlen)),post m3 σ _ (e13.trans ee) (sr3.put ha ⟨_,aF,(IsP.put ip (i1.mono (e2.trans e3))).mono ee⟩) (lr.mono (e13.trans ee))⟩
 |_=>simp[i8]at h4
end
section
variable{X:Cx}{m:List Addr}{H:Hp}
variable{pos:Pos}
def DD:CE:=fun _ S=>some (.ref S.length,S++[.dic []])
theorem Fd:QE X (.Dict [] [] pos) DD:=uq.imp fun σ H Q hz=>iA hz fun m ρ S u S' sr lr hc post=>by
 cases hc;exact fun p hp=>post (m++[p]) _ _ (.new (bc hp _)) (sr.new hp ⟨[],aF,.nil_⟩) (.ref_ (b6 sr.len))
end
def jM(n:Nat)(caps:List Nat)(ρ:Rho):Rho:=ZU n none++caps.map fun i=>(ρ[i]?).getD none
open Classical in
def gq(ok:Sto->Prop)(g:CG)(ce:CE)(l:Nat):List U->Rho->Sto->Option Sto
 |[],_,S=>if ok S then some S else none
 |u::us,ρ,S=>if ok S then(g u ρ S).bind fun p=>(ce p.1 p.2).bind fun r=>match r.2[l]? with
  |some (.lst ys)=>if ys.length<LIM then gq ok g ce l us p.1 (r.2.set l (.lst (ys++[r.1])))else none
  |_=>none else none
def d7(ci:CI)(g:CG)(ce:CE)(n:Nat)(caps:List Nat):CE:=fun ρ S=>(ci ρ S).bind fun p=>(gq p.2.1 g ce p.2.2.length p.1 (jM n caps ρ) (p.2.2++[.lst []])).bind fun S'=>some (.ref p.2.2.length,S')
section
variable{X:Cx}{K:Q4}
theorem vT{m:List Addr}{H:Hp}{ρ:Rho}{σ:L2.St}{n:Nat}{caps:List Nat}(lr:Lr K m H ρ σ):Lr K m H (jM n caps ρ) (OG.stC n caps σ):=by
 refine⟨by simp[jM,OG.stC],fun j u e=>?_⟩;unfold jM at e;unfold OG.stC;by_cases c:j<n
 ·rw[Qz (by simpa using c),X1]at e;split at e<;>cases e
 ·rw[QN (by simp;omega),Qr]at e ⊢;simp only[List.length_replicate]at e ⊢;cases q:caps[j-n]? with
  |none=>rw[q]at e;simp at e
  |some i=>
   rw[q]at e;simp only[Option.map_some,Option.some.injEq]at e ⊢;have e2:ρ[i]?=some (some u):=by
    cases z:ρ[i]? with
    |none=>rw[z]at e;simp at e
    |some y=>rw[z]at e;simp at e;rw[e]
   obtain⟨v,h1,h2⟩:=lr.at_ i u e2;exact⟨v,by rw[h1];rfl,h2⟩
theorem oK{g:CG}{ce:CE}{n:Nat}{caps:List Nat}{J:It}{us:List U}{ok:Sto->Prop}{Q:VK}{m1:List Addr}{H1:Hp}{S1 S':Sto}{ρ:Rho}{σ:L2.St}{l:Addr}(sr1:Sr K m1 S1 H1)(lr:Lr K m1 H1 ρ σ)(ito:Aj K J m1 H1 us ok)(hl:H1 l=none)(h2:gq ok g ce S1.length us (jM n caps ρ) (S1++[.lst []])=some S')
  (post:∀m2 H2,Ext K (m1++[l]) (upd H1 l (.lst [])) m2 H2->Sr K m2 S' H2->Q (.ref l) H2) :
  ∃W:Nat->Nat->L2.St->Hp->Prop,(∃m,W 0 m (OG.stC n caps σ) (upd H1 l (.lst [])))/\
 ∀i m σ' H2,W i m σ' H2->(J.stop i H2/\Q (.ref l) H2)\/(J.go i H2/\∃N:L2.St->Hp->Prop,(∀σ'' H',N σ'' H'->∃m',m'<m/\W (i+1) m' σ'' H')/\
  ∀x H3,J.yld i H2 x H3->tG K g x σ' H3 fun σ2 H4=>tE K ce σ2 H4 fun v H5=>∃ys,H5 l=some (.lst ys)/\ys.length<sizeLine/\N σ2 (upd H5 l (.lst (ys++[v])))):=by
 have ee:Ext K m1 H1 (m1++[l]) (upd H1 l (.lst [])):=.new (bc hl _);let W:Nat->Nat->L2.St->Hp->Prop:=fun i k σ2 H2=>k=us.length-i/\i<=us.length/\∃m2 ρ2 S2,Ext K (m1++[l]) (upd H1 l (.lst [])) m2 H2/\Sr K m2 S2 H2/\Lr K m2 H2 ρ2 σ2/\gq ok g ce S1.length (us.drop i) ρ2 S2=some S'
 refine⟨W,⟨us.length,by simp,ZQ _,m1++[l],jM n caps ρ,S1++[.lst []],.refl,sr1.new (o:=.lst []) hl ⟨[],aF,.nil_⟩,vT (lr.mono ee),by simpa using h2⟩,?_⟩;rintro i k σ2 H2 ⟨rfl,hi,m2,ρ2,S2,e2,sr2,lr2,hl2⟩;by_cases hlt:i<us.length
 ·have hu:=Q6 hlt;rw[ku hu]at hl2;unfold gq at hl2;split at hl2
  ·rename_i hok;obtain⟨⟨ρ3,S3⟩,h3,hl2⟩:=Q2.mp hl2;obtain⟨⟨u4,S4⟩,h4,hl2⟩:=Q2.mp hl2;simp only at hl2;split at hl2<;>try cases hl2
   rename_i ys hys;split at hl2<;>try cases hl2
   rename_i hlen;obtain⟨hgo,hy⟩:=(ito m2 S2 H2 i (ee.trans e2) sr2 hok).1 _ hu;refine .inr ⟨hgo,W (i+1) (us.length-(i+1)),fun σ' H' w'=>⟨_,by omega,w'⟩,fun x H3 y=>?_⟩;obtain⟨e3,sr3,ix⟩:=hy x H3 y;refine⟨m2,ρ2,S2,_,ρ3,S3,sr3,lr2.mono e3,ix,h3,fun m4 σ4 H4 e4 sr4 lr4=>⟨m4,ρ3,S3,u4,S4,sr4,lr4,h4,fun m5 v5 H5 e5 sr5 i5=>?_⟩⟩;obtain⟨a',ha',xs,hx,il⟩:=sr5.get hys;have ha:m5[S1.length]?=some l:=(((e2.trans e3).trans e4).trans e5).get (b6 sr1.len);rw[ha]at ha';cases ha';have eu:Ext K m5 H5 m5 (upd H5 l (.lst (xs++[v5]))):=.of (sr5.keep ha _);refine⟨xs,hx,F0 (by rw[il.length];exact hlen),rfl,hlt,m5,ρ3,_,((((e2.trans e3).trans e4).trans e5).trans eu),sr5.put (o:=.lst (ys++[u4])) ha ⟨_,aF,(il.append (.cons_ i5 .nil_)).mono eu⟩,(lr4.mono (e5.trans eu)),hl2⟩
  ·cases hl2
 ·have e:i=us.length:=by omega
  subst e;rw[List.drop_length]at hl2;unfold gq at hl2;split at hl2
  ·rename_i hok;cases hl2;exact .inl ⟨(ito m2 _ H2 _ (ee.trans e2) sr2 hok).2 (QJ _),post m2 H2 e2 sr2⟩
  ·cases hl2
theorem zU{ci:CI}{g:CG}{ce:CE}{n:Nat}{caps:List Nat}:∀σ H Q,tE K (d7 ci g ce n caps) σ H Q->BX (tI K ci) (tG K g) (tE K ce) n caps σ H Q:=by
 rintro σ H Q ⟨m,ρ,S,u,S',sr,lr,hc,post⟩;obtain⟨⟨us,ok,S1⟩,h1,h2⟩:=Q2.mp hc;obtain⟨S2,h2,h3⟩:=Q2.mp h2;cases h3;refine⟨m,ρ,S,us,ok,S1,sr,lr,h1,fun m1 H1 J e1 sr1 ito l hl=>?_⟩;have ee:Ext K m1 H1 (m1++[l]) (upd H1 l (.lst [])):=.new (bc hl _);exact oK sr1 (lr.mono e1) ito hl h2 fun m2 H2 e2 sr2=>post m2 _ H2 ((e1.trans ee).trans e2) sr2 (.ref_ (e2.get (b6 sr1.len)))
theorem gU{Nc capN tn:List Str}{scope:Scope}{cl:List (Str×Addr)}{n:Nat}{caps:List Nat}{tg iter elt:Expr}{pos:Pos}{ci:CI}{g:CG}{ce:CE}
  (hc:X.calm=true) (hi:QI X tg iter ci) (hg:∀s3 H3 fp,WG (cxC X Nc scope cl s3 H3 fp) tg (tG X.K g)) (he:∀s3 H3 fp,WE (cxC X Nc scope cl s3 H3 fp) elt (tE X.K ce))
  (hclos:closureFor scope X.env=pure cl) (hkind:scope.kind=.function) (hnl:∀x∈scope.names,x.2=.local->scope.names.lookup x.1=some .local) (hcell:∀x∈scope.names,x.2≠.cell)
  (hcl:se X.env cl) (hhas:((relabel scope X.env).names.all fun p=>!(p.2 == .cell||p.2 == .free)||(cl.lookup p.1).isSome)=true)
  (hcap:Paired (Cap X scope cl) caps capN) (hN:Nc=tn++capN) (hn:tn.length=n)
  (hs:∀x,foldedSetIterable iter X.env x=pure x:=by intro _;rfl) :
  QE X (.ListComp elt [⟨tg,iter,[],0⟩] scope pos) (d7 ci g ce n caps):=(qA hc hi hg he hclos hkind hnl hcell hcl hhas hcap hN hn hs).imp zU
def lK:Fn
 |[.tup us],S=>some (.int us.length,S)
 |[.ref l],S=>match S[l]? with
  |some (.lst us)=>some (.int us.length,S)
  |some (.dic us)=>some (.int us.length,S)
  |_=>none
 |[.kl ns],S=>some (.int ns.length,S)
 |_,_=>none
abbrev Jq(K:Q4):List V->Hp->VK->Prop:=fun xs H Q=>(∃p ys,xs=[.ref p]/\(SqL K H p ys\/SqT K H p ys)/\Q (.int ys.length) H)\/∃a kvs,xs=[V.ref a]/\H a=some (.dK kvs)/\Q (.int kvs.length) H
theorem jS:bX X (.builtin "len") (Jq X.K):=oP.or xk
theorem IsL.one{m:List Addr}{H:Hp}{vs:List V}{u:U}(h:IsL K m H vs [u]):∃v,vs=[v]/\Is K m H v u:=by
 obtain⟨x,r,rfl,i,t⟩:=h.of_cons;rw[t.of_nil];exact⟨x,rfl,i⟩
theorem IsL.two{m:List Addr}{H:Hp}{vs:List V}{u w:U}(h:IsL K m H vs [u,w]):∃v x,vs=[v,x]/\Is K m H v u/\Is K m H x w:=by
 obtain⟨x,r,rfl,i,t⟩:=h.of_cons;obtain⟨y,rfl,j⟩:=t.one;exact⟨x,y,rfl,i,j⟩
theorem jQ:iG K (Jq K) lK:=by
 intro m S H us vs u S' Q sr i hf post;match us,hf with
 |[.tup ws],hf=>
  cases hf;obtain⟨v,rfl,iv⟩:=i.one;obtain⟨a,xs,rfl,sa,la⟩:=iv.of_tup;exact .inl ⟨a,xs,rfl,.inr sa,by rw[la.length];exact post m _ H .refl sr .int_⟩
 |[.ref l],hf=>
  obtain⟨v,rfl,iv⟩:=i.one;obtain⟨a,ha,rfl⟩:=iv.of_ref;simp only[lK]at hf;split at hf<;>try cases hf
  ·rename_i ws hS;obtain⟨a',ha',xs,hx,la⟩:=sr.get hS;rw[ha]at ha';cases ha';exact .inl ⟨a,xs,rfl,.inl (SqL.of hx),by rw[la.length];exact post m _ H .refl sr .int_⟩
  ·rename_i ws hS;obtain⟨a',ha',xs,hx,la⟩:=sr.get hS;rw[ha]at ha';cases ha';exact .inr ⟨a,xs,rfl,hx,by rw[IsP.length la];exact post m _ H .refl sr .int_⟩
 |[.kl ns],hf=>
  cases hf;obtain⟨v,rfl,iv⟩:=i.one;obtain⟨a,rfl,ka⟩:=iv.of_kl;exact .inl ⟨a,_,rfl,.inl ka.sq,by rw[Q9];exact post m _ H .refl sr .int_⟩
def kj:Fn
 |[.tup us],S=>some (.ref S.length,S++[.lst us])
 |[.ref l],S=>match S[l]? with
  |some (.lst us)=>some (.ref S.length,S++[.lst us])
  |_=>none
 |_,_=>none
theorem nW:iG K (fun xs H Q=>∃p ys,xs=[.ref p]/\(SqL K H p ys\/SqT K H p ys)/\∀l,H l=none->Q (.ref l) (upd H l (.lst ys))) kj:=by
 intro m S H us vs u S' Q sr i hf post;match us,hf with
 |[.tup ws],hf=>
  cases hf;obtain⟨v,rfl,iv⟩:=i.one;obtain⟨a,xs,rfl,sa,la⟩:=iv.of_tup;exact⟨a,xs,rfl,.inr sa,fun l hl=>bB sr la post hl⟩
 |[.ref l],hf=>
  obtain⟨v,rfl,iv⟩:=i.one;obtain⟨a,ha,rfl⟩:=iv.of_ref;simp only[kj]at hf;split at hf<;>try cases hf
  rename_i ws hS;obtain⟨a',ha',xs,hx,la⟩:=sr.get hS;rw[ha]at ha';cases ha';exact⟨a,xs,rfl,.inl (SqL.of hx),fun l hl=>bB sr la post hl⟩
def eR:Fn
 |[.tup us],S=>some (.tup us,S)
 |[.ref l],S=>match S[l]? with
  |some (.lst us)=>some (.tup us,S)
  |_=>none
 |_,_=>none
theorem mC:iG K (fun xs H Q=>∃p ys,xs=[.ref p]/\((SqL K H p ys/\∀l,H l=none->Q (.ref l) (upd H l (.tup ys)))\/(SqT K H p ys/\Q (.ref p) H))) eR:=by
 intro m S H us vs u S' Q sr i hf post;match us,hf with
 |[.tup ws],hf=>
  cases hf;obtain⟨v,rfl,iv⟩:=i.one;obtain⟨a,xs,rfl,sa,la⟩:=iv.of_tup;exact⟨a,xs,rfl,.inr ⟨sa,post m _ H .refl sr iv⟩⟩
 |[.ref l],hf=>
  obtain⟨v,rfl,iv⟩:=i.one;obtain⟨a,ha,rfl⟩:=iv.of_ref;simp only[eR]at hf;split at hf<;>try cases hf
  rename_i ws hS;obtain⟨a',ha',xs,hx,la⟩:=sr.get hS;rw[ha]at ha';cases ha';exact⟨a,xs,rfl,.inl ⟨SqL.of hx,fun l hl=>jj sr la post hl⟩⟩
def Gw:Fn
 |[.int i],S=>some (.int i,S)
 |[.bl b],S=>some (.int (if b then 1 else 0),S)
 |_,_=>none
theorem FI:iG K (fun xs H Q=>(∃i,xs=[.int i]/\Q (.int i) H)\/∃k,xs=[.bl k]/\Q (.int (if k then 1 else 0)) H) Gw:=by
 intro m S H us vs u S' Q sr i hf post;match us,hf with
 |[.int j],hf=>
  cases hf;obtain⟨v,rfl,iv⟩:=i.one;exact .inl ⟨j,by rw[iv.of_int],post m _ H .refl sr .int_⟩
 |[.bl j],hf=>
  cases hf;obtain⟨v,rfl,iv⟩:=i.one;exact .inr ⟨j,by rw[iv.of_bl],post m _ H .refl sr .int_⟩
def GY:Fn
 |[.int i,.int j],S=>some (.int (if j<i then j else i),S)
 |_,_=>none
theorem Io:iG K (fun xs H Q=>∃i j,xs=[.int i,.int j]/\Q (.int (if j<i then j else i)) H) GY:=by
 intro m S H us vs u S' Q sr i hf post;match us,hf with
 |[.int j,.int k],hf=>
  cases hf;obtain⟨v,w,rfl,iv,iw⟩:=i.two;exact⟨j,k,by rw[iv.of_int,iw.of_int],post m _ H .refl sr .int_⟩
def GZ:Fn
 |[.int i,.int j],S=>some (.int (if j>i then j else i),S)
 |_,_=>none
theorem Ip:iG K (fun xs H Q=>∃i j,xs=[.int i,.int j]/\Q (.int (if j>i then j else i)) H) GZ:=by
 intro m S H us vs u S' Q sr i hf post;match us,hf with
 |[.int j,.int k],hf=>
  cases hf;obtain⟨v,w,rfl,iv,iw⟩:=i.two;exact⟨j,k,by rw[iv.of_int,iw.of_int],post m _ H .refl sr .int_⟩
def mM:List U->Option (List Int)
 |[]=>some []
 |.int i::r=>(mM r).map (i::·)
 |_=>none
def DH:List U->Option (List Bool)
 |[]=>some []
 |.bl i::r=>(DH r).map (i::·)
 |_=>none
theorem ik:∀{us:List U} {ns:List Int},mM us=some ns->us=ns.map U.int
 |[],ns,h=>by cases h;rfl
 |u::r,ns,h=>by
  cases u<;>simp only[mM]at h<;>try cases h
  obtain⟨ms,e,h⟩:=Qt.mp h;subst h;rw[ik e];rfl
theorem ft:∀(ns:List Int),mM (ns.map U.int)=some ns
 |[]=>rfl
 |n::r=>by simp[mM,ft r]
theorem qk:∀{us:List U} {ns:List Bool},DH us=some ns->us=ns.map U.bl
 |[],ns,h=>by cases h;rfl
 |u::r,ns,h=>by
  cases u<;>simp only[DH]at h<;>try cases h
  obtain⟨ms,e,h⟩:=Qt.mp h;subst h;rw[qk e];rfl
theorem jE:∀(ns:List Bool),DH (ns.map U.bl)=some ns
 |[]=>rfl
 |n::r=>by simp[DH,jE r]
theorem IsL.ints{m:List Addr}{H:Hp}:∀{xs:List V} {ns:List Int},IsL K m H xs (ns.map U.int)->xs=ns.map V.int
 |xs,[],h=>h.of_nil
 |xs,n::ns,h=>by
  obtain⟨x,r,rfl,i,t⟩:=h.of_cons;rw[IsL.ints t,i.of_int];rfl
theorem IsL.bls{m:List Addr}{H:Hp}:∀{xs:List V} {ns:List Bool},IsL K m H xs (ns.map U.bl)->xs=ns.map V.bl
 |xs,[],h=>h.of_nil
 |xs,n::ns,h=>by
  obtain⟨x,r,rfl,i,t⟩:=h.of_cons;rw[IsL.bls t,i.of_bl];rfl
theorem fK{m:List Addr}{H:Hp}:∀(ns:List Int),IsL K m H (ns.map V.int) (ns.map U.int)
 |[]=>.nil_
 |n::ns=>.cons_ .int_ (fK ns)
def xS:Fn
 |[.ref l],S=>match S[l]? with
  |some (.lst us)=>(DH us).bind fun bs=>some (.bl (bs.all id),S)
  |_=>none
 |_,_=>none
theorem zc:iG K (fun xs H Q=>∃(p:Addr) (bs:List Bool),xs=[.ref p]/\SqL K H p (bs.map V.bl)/\Q (.bl (bs.all id)) H) xS:=by
 intro m S H us vs u S' Q sr i hf post;match us,hf with
 |[.ref l],hf=>
  obtain⟨v,rfl,iv⟩:=i.one;obtain⟨a,ha,rfl⟩:=iv.of_ref;simp only[xS]at hf;split at hf<;>try cases hf
  rename_i ws hS;obtain⟨bs,hb,h⟩:=Q2.mp hf;cases h;obtain⟨a',ha',xs,hx,la⟩:=sr.get hS;rw[ha]at ha';cases ha';rw[qk hb]at la;rw[la.bls]at hx;exact⟨a,bs,rfl,SqL.of hx,post m _ H .refl sr .bl_⟩
inductive Ty where
 |non|bool|int|str|tuple|list|dict
def Ty.nm:Ty->String
 |.non=>"NoneType"|.bool=>"bool"|.int=>"int"|.str=>"str"|.tuple=>"tuple"|.list=>"list"|.dict=>"dict"
def tyU:U->Sto->Option Ty
 |.non,_=>some .non|.bl _,_=>some .bool|.int _,_=>some .int|.str _,_=>some .str|.tup _,_=>some .tuple
 |.ref l,S=>match S[l]? with
  |some (.lst _)=>some .list
  |some (.dic _)=>some .dict
  |_=>none
 |.kl _,_=>none
def Ap:Ty->Ty->Bool
 |.non,.non=>true|.bool,.bool=>true|.bool,.int=>true|.int,.int=>true|.str,.str=>true|.tuple,.tuple=>true|.list,.list=>true|.dict,.dict=>true
 |_,_=>false
theorem jY(a b:Ty)(hb:b≠.non):PySem.W.kitOne K (.type a.nm) (.type b.nm)=some (Ap a b):=by
 cases b<;>first|exact absurd rfl hb|(cases a<;>rfl)
abbrev J2(K:Q4):List V->Hp->VK->Prop:=fun xs H Q=>(∃(x:V) (T:String) (t:Value) (k:Bool),xs=[x,.ty T]/\rZ K H x t/\PySem.W.kitOne K t (.type T)=some k/\Q (.bl k) H)\/
 ∃(a:Addr) (ys:List V) (T:String) (k:Bool),xs=[.ref a,.ty T]/\SqT K H a ys/\PySem.W.kitOne K (.type "tuple") (.type T)=some k/\Q (.bl k) H
theorem Iw:bX X (.builtin "isinstance") (J2 X.K):=by
 refine qi.or ?_;rintro pins s σ H xs us Q I r ⟨a,ys,T,k,rfl,sq,e,q⟩;obtain⟨u,w',rfl,ru,rw'⟩:=su r;cases rw';cases ru;obtain⟨its,rv,ht,hz⟩:=I.tuple sq;obtain⟨o,h1,h2,_⟩:=ht;exact PySem.W.kia_one PySem.W.kitx_tuple I.kIn ⟨o,h1,h2⟩ e (fun z=>nomatch z) fun tk=>⟨.bl k,H,I.tok tk,rfl,q⟩
def GD(T:Ty)(ca:CE):CE:=fun ρ S=>(ca ρ S).bind fun p=>(tyU p.1 p.2).bind fun t=>some (.bl (Ap t T),p.2)
theorem Ci{T:Ty}{e eT:Expr}{ca:CE}{p pos:Pos}(hT0:T≠.non)(he:QE X e ca)(hT:WE X eT (tC (.ty T.nm)))(hg:Gl X "isinstance")(hm:X.mg "isinstance"=none)
  (h1:starEach [e,eT] X.env=(false,eval e X.env)::starEach [eT] X.env:=by rfl) (h2:starEach [eT] X.env=(false,eval eT X.env)::starEach [] X.env:=by rfl) (hpl:(backTo pos (starEach [eT] X.env)).any (·.1)=false:=by rfl) :
  QE X (.Call (.Name "isinstance" p) [e,eT] [] pos) (GD T ca):=(gJ Iw hg hm OG.kF (bS he (bS hT ej h2) h1) (by decide) (by decide) h1 hpl).imp fun σ H Q hz=>iA hz fun m ρ S u S' sr lr hc post=>by
 obtain⟨⟨x,S1⟩,h1,h2⟩:=Q2.mp hc;obtain⟨t,ht,h3⟩:=Q2.mp h2;cases h3;refine⟨m,ρ,S,x,_,sr,lr,h1,fun m1 v1 H1 e1 sr1 i1=>?_⟩;have fin:=post m1 _ H1 e1 sr1 (Is.bl_ (b:=Ap t T));cases x with
 |non=>cases ht;rw[i1.of_non];exact .inl ⟨_,_,_,_,rfl,.non,jY .non T hT0,fin⟩
 |bl b=>cases ht;rw[i1.of_bl];exact .inl ⟨_,_,_,_,rfl,.bl b,jY .bool T hT0,fin⟩
 |int i=>cases ht;rw[i1.of_int];exact .inl ⟨_,_,_,_,rfl,.int i,jY .int T hT0,fin⟩
 |str i=>cases ht;rw[i1.of_str];exact .inl ⟨_,_,_,_,rfl,.str i,jY .str T hT0,fin⟩
 |tup us=>
  cases ht;obtain⟨a,xs,rfl,sa,la⟩:=i1.of_tup;exact .inr ⟨a,xs,_,_,rfl,sa,jY .tuple T hT0,fin⟩
 |ref l=>
  obtain⟨a,ha,rfl⟩:=i1.of_ref;simp only[tyU]at ht;split at ht<;>try cases ht
  ·rename_i ws hS;obtain⟨a',ha',xs,hx,la⟩:=sr1.get hS;rw[ha]at ha';cases ha';exact .inl ⟨_,_,_,_,rfl,.lst hx,jY .list T hT0,fin⟩
  ·rename_i ws hS;obtain⟨a',ha',xs,hx,la⟩:=sr1.get hS;rw[ha]at ha';cases ha';exact .inl ⟨_,_,_,_,rfl,.dK hx,jY .dict T hT0,fin⟩
 |kl ns=>cases ht
def cBM(f:U->List U->Sto->Option (U×Sto))(co:CE)(cr:CA):CE:=fun ρ S=>(co ρ S).bind fun p=>match p.1 with
 |.ref l=>match p.2[l]? with
  |some (.lst _)=>(cr ρ p.2).bind fun q=>f p.1 q.1 q.2
  |_=>none
 |_=>none
def MtP(K:Q4)(r:V->List V->Hp->VK->Prop)(f:U->List U->Sto->Option (U×Sto)):Prop:=
 ∀m S H x v us vs u S' Q,Sr K m S H->Is K m H v x->IsL K m H vs us->f x us S=some (u,S')->iF K m H Q u S'->r v vs H Q
theorem rV{r:V->List V->Hp->VK->Prop}{f:U->List U->Sto->Option (U×Sto)}{co:CE}{cr:CA}(hp:MtP K r f):∀σ H Q,tE K (cBM f co cr) σ H Q->tBM K "list" r (tE K co) (tA K cr) σ H Q:=by
 rintro σ H Q ⟨m,ρ,S,u,S',sr,lr,hc,post⟩;obtain⟨⟨x,S1⟩,h1,h2⟩:=Q2.mp hc;refine⟨m,ρ,S,x,S1,sr,lr,h1,fun m1 v1 H1 e1 sr1 i1=>?_⟩;cases x with
 |ref l=>
  simp only at h2;split at h2<;>try cases h2
  rename_i ws hS;obtain⟨⟨us,S2⟩,h3,h4⟩:=Q2.mp h2;obtain⟨a,ha,rfl⟩:=id i1.of_ref;obtain⟨a',ha',xs,hx,la⟩:=sr1.get hS;rw[ha]at ha';cases ha';exact⟨.inl ⟨rfl,xs,SqL.of hx⟩,m1,ρ,S1,us,S2,sr1,lr.mono e1,h3,fun m2 vs H2 e2 sr2 i2=>hp m2 S2 H2 _ _ us vs u S' Q sr2 (i1.mono e2) i2 h4 (post.mono (e1.trans e2))⟩
 |_=>simp at h2
def cq:U->List U->Sto->Option (U×Sto)
 |.ref l,[u],S=>match S[l]? with
  |some (.lst us)=>if us.length<LIM then some (.non,S.set l (.lst (us++[u])))else none
  |_=>none
 |_,_,_=>none
theorem zb:MtP K vc cq:=by
 intro m S H x v us vs u S' Q sr ix i hf post;match x,us,hf with
 |.ref l,[w],hf=>
  simp only[cq]at hf;split at hf<;>try cases hf
  rename_i ws hS;split at hf<;>try cases hf
  rename_i hl;obtain⟨a,ha,rfl⟩:=ix.of_ref;obtain⟨a',ha',xs,hx,la⟩:=sr.get hS;rw[ha]at ha';cases ha';obtain⟨y,rfl,iy⟩:=i.one;have eu:Ext K m H m (upd H a (.lst (xs++[y]))):=.of (sr.keep ha _);exact⟨a,xs,y,rfl,rfl,hx,F0 (by rw[la.length];exact hl),post m _ _ eu (sr.put ha ⟨_,aF,(la.append (.cons_ iy .nil_)).mono eu⟩) .non_⟩
variable{e:Expr}{es:List Expr}{co:CE}{cr:CA}{o:Expr}{apos cpos:Pos}
theorem dD (ho : QE X o co) (ha : QA X (e :: es) cr) (hbase : attributeBase o "append" X.env (eval o X.env) = eval o X.env := by rfl) (hfew : ((backTo cpos (starEach (e :: es) X.env)).all (fun x => !x.1) && (backToKw cpos (keywordEach [] X.env)).all (fun x => x.1.isSome)
   && decide ((e::es).length+([]:List Keyword).length+(if ([]:List Keyword).isEmpty then 0 else 1)<30))=true:=by rfl) (hline:(apos.endLine == cpos.line)=true:=by rfl) (hs:starEach (e::es) X.env=(false,eval e X.env)::starEach es X.env:=by rfl) (hplain:(backTo cpos (starEach es X.env)).any (·.1)=false:=by rfl) :
  QE X (.Call (.Attribute o "append" apos) (e::es) [] cpos) (cBM cq co cr):=(qC PySem.F.plainAttrs_list PySem.F.slot_list_append PySem.F.type_list_append jT ho ha.h hbase hfew hline hs hplain).imp (rV zb)
end
def SI:Bool->Heap->Addr->Addr->Nat->Prop
 |true,h,it,a,i=>h.IsListIter it a i
 |false,h,it,a,i=>h.IsTupleIter it a i
def SA:Bool->Heap->Addr->Array Value->Prop
 |true,h,a,xs=>h.IsList a xs
 |false,h,a,xs=>h.IsTuple a xs
theorem SI.at_{b:Bool}{h h':Heap}{it a:Addr}{i:Nat}(x:SI b h it a i)(k:∀o,h.get? it=some o->h'.get? it=some o):SI b h' it a i:=by
 cases b with
 |true=>obtain⟨o,e,r⟩:=x;exact⟨o,k o e,r⟩
 |false=>obtain⟨o,e,r⟩:=x;exact⟨o,k o e,r⟩
theorem SA.at_{b:Bool}{h h':Heap}{a:Addr}{xs:Array Value}(x:SA b h a xs)(k:∀o,h.get? a=some o->h'.get? a=some o):SA b h' a xs:=by
 cases b with
 |true=>obtain⟨o,e,r⟩:=x;exact⟨o,k o e,r⟩
 |false=>obtain⟨o,e,r⟩:=x;exact⟨o,k o e,r⟩
theorem SI.obj{b:Bool}{h:Heap}{it a:Addr}{i:Nat}(x:SI b h it a i):∃o,h.get? it=some o/\∀v,o.data≠.cell v:=by
 cases b with
 |true=>obtain⟨o,e,c,d⟩:=x;exact⟨o,e,fun v z=>by rw[d]at z;cases z⟩
 |false=>obtain⟨o,e,c,d⟩:=x;exact⟨o,e,fun v z=>by rw[d]at z;cases z⟩
theorem SA.lt{b:Bool}{h:Heap}{a:Addr}{xs:Array Value}(x:SA b h a xs):a<h.objs.size:=by
 cases b with
 |true=>obtain⟨o,e,_⟩:=x;exact QX e
 |false=>obtain⟨o,e,_⟩:=x;exact QX e
section
variable{prog:Program}{w:World}{A:Around}{E:Value->Shared->Prop}{s:Shared}
theorem yt{I t:Addr}{j:Nat}{ys:Array Value}{y:Value}{Q:Value->Shared->Prop}(hI:s.heap.IsTupleIter I t j)(hT:s.heap.IsTuple t ys)(hy:ys[j]?=some y)
  (k:∀h',h'.IsTupleIter I t (j+1)->X4 I s.heap h'->Q y { s with heap:=h' }):wpAny (model prog w) A (Builtin.SmallTypes.nextOf (.ref I)) Q E s:=by
 obtain⟨oi,gi,ci,di⟩:=id hI;obtain⟨ot,gt,_,nt,dt⟩:=hT;unfold Builtin.SmallTypes.nextOf;refine Q0 (wpAny_callSpecial?_slot (name:=Str.ofString "__next__") hI.typeIs PySem.F.slot_tuple_iterator_next (wpAny_call_entry PySem.F.slot_tuple_iterator_next hI.typeIs PySem.F.entry_tuple_iterator_next ?_ (PySem.F.args_tuple_iterator_next_1 _)));show wpAny _ _ (field (.ref I) 0 >>= _) _ _ s;refine Q0 (Qp gi di (x:=.ref t) rfl ?_);show wpAny _ _ (ite ((Value.ref t == Value.none)=true) _ _) _ _ s;rw[if_neg (by exact QM)];show wpAny _ _ (field (.ref I) 1 >>= _) _ _ s;refine Q0 (Qp gi di (x:=.int j 0) rfl ?_);show wpAny _ _ (seqItems? (.ref t) >>= _) _ _ s;refine Q0 (wpAny_seqItems gt dt ?_);simp only[hy,ZC];refine Q0 (wpAny_setField gi di (by simp) (Q5 ⟨y,rfl,Q5 (k _ ⟨_,ZT _ gi (Obj.isFreed_of_fields (Obj.data_mapFields di _)),(Obj.cls_mapFields ..).trans ci,?_⟩ (Heap.SameBut.update ..))⟩));rw[Obj.data_mapFields di];simp[rawInt]
theorem nF{I t:Addr}{j:Nat}{ys:Array Value}{Q:Value->Shared->Prop}(hh:A.handled=none)(hI:s.heap.IsTupleIter I t j)(hT:s.heap.IsTuple t ys)(hy:ys[j]?=none)
  (k:∀h' e,Heap.ExtBut I s.heap h'->(∃o,h'.get? e=some o/\o.cls=.type "StopIteration")->E (.ref e) { s with heap:=h' }):wpAny (model prog w) A (Builtin.SmallTypes.nextOf (.ref I)) Q E s:=by
 obtain⟨oi,gi,ci,di⟩:=id hI;obtain⟨ot,gt,_,nt,dt⟩:=hT;unfold Builtin.SmallTypes.nextOf;refine Q0 (wpAny_callSpecial?_slot (name:=Str.ofString "__next__") hI.typeIs PySem.F.slot_tuple_iterator_next (wpAny_call_entry PySem.F.slot_tuple_iterator_next hI.typeIs PySem.F.entry_tuple_iterator_next ?_ (PySem.F.args_tuple_iterator_next_1 _)));show wpAny _ _ (field (.ref I) 0 >>= _) _ _ s;refine Q0 (Qp gi di (x:=.ref t) rfl ?_);show wpAny _ _ (ite ((Value.ref t == Value.none)=true) _ _) _ _ s;rw[if_neg (by exact QM)];show wpAny _ _ (field (.ref I) 1 >>= _) _ _ s;refine Q0 (Qp gi di (x:=.int j 0) rfl ?_);show wpAny _ _ (seqItems? (.ref t) >>= _) _ _ s;refine Q0 (wpAny_seqItems gt dt ?_);simp only[hy,ZC];refine Q0 (wpAny_rule (Q0 (wpAny_setField gi di (by simp) ?_)));show wpAny _ _ (newExc (.type "StopIteration") [] >>= _) _ _ _;simp only[newExc,newTuple];refine Q0 ?_;refine Q0 (wpAny_newObj_type ?_ (by(size_fits)));refine Q0 (m:=firstArgMember _ _) (wpAny_of_eq (a:=Value.none) (by simp only[firstArgMember]<;>rfl) ?_);refine wpAny_newObj_type ?_ (by(size_fits));simp only[raiseNew];refine Q0 (wpAny_handled ?_);rw[show A.in1.handled=none from hh];exact Q0 (Q5 (wpAny_throw (k _ _ (((Heap.SameBut.update ..).extBut.push _).push _) ⟨_,QY _ rfl,rfl⟩)))
theorem cM{b:Bool}{I t:Addr}{j:Nat}{ys:Array Value}{y:Value}{Q:Value->Shared->Prop}(hI:SI b s.heap I t j)(hT:SA b s.heap t ys)(hy:ys[j]?=some y)
  (k:∀h',SI b h' I t (j+1)->X4 I s.heap h'->Q y { s with heap:=h' }):wpAny (model prog w) A (Builtin.SmallTypes.nextOf (.ref I)) Q E s:=by
 cases b with
 |true=>exact wpAny_nextOf_list_item hI hT hy k
 |false=>exact yt hI hT hy k
theorem bE{b:Bool}{I t:Addr}{j:Nat}{ys:Array Value}{Q:Value->Shared->Prop}(hh:A.handled=none)(hI:SI b s.heap I t j)(hT:SA b s.heap t ys)(hy:ys[j]?=none)
  (k:∀h' e,Heap.ExtBut I s.heap h'->(∃o,h'.get? e=some o/\o.cls=.type "StopIteration")->E (.ref e) { s with heap:=h' }):wpAny (model prog w) A (Builtin.SmallTypes.nextOf (.ref I)) Q E s:=by
 cases b with
 |true=>exact wpAny_nextOf_list_end hh hI hT hy k
 |false=>exact nF hh hI hT hy k
structure ZA(z I O i j a c:Addr):Prop where
 Iz:I≠z
 Oz:O≠z
 iz:i≠z
 jz:j≠z
 IO:I≠O
 Ii:I≠i
 Ij:I≠j
 Oi:O≠i
 Oj:O≠j
 ij:i≠j
 az:a≠z
 aO:a≠O
 ai:a≠i
 aj:a≠j
 cz:c≠z
 cO:c≠O
 ci:c≠i
 cj:c≠j
structure ZSt(b d:Bool)(h:Heap)(z I O i j a c:Addr)(f:Value)(n:Nat):Prop where
 hz:IsZip h z I O f
 hI:IsPair h I (.ref i) (.ref j)
 hO:∃p q,IsPair h O p q
 h1:SI b h i a n
 h2:SI d h j c n
theorem ZSt.at_{b d:Bool}{h h':Heap}{z I O i j a c:Addr}{f:Value}{n:Nat}(x:ZSt b d h z I O i j a c f n)(k:∀e∈[z,I,O,i,j],∀o,h.get? e=some o->h'.get? e=some o):ZSt b d h' z I O i j a c f n:=by
 obtain⟨p,q,hO⟩:=x.hO;exact⟨k z (by simp) _ x.hz,k I (by simp) _ x.hI,⟨p,q,k O (by simp) _ hO⟩,x.h1.at_ fun o e=>k i (by simp) o e,x.h2.at_ fun o e=>k j (by simp) o e⟩
theorem xW{b d:Bool}{z I O i j a c:Addr}{n:Nat}{xs ys:Array Value}{x y:Value}{Q:Value->Shared->Prop}(D:ZA z I O i j a c)(st:ZSt b d s.heap z I O i j a c .none n)(ha:SA b s.heap a xs)(hc:SA d s.heap c ys)(hx:xs[n]?=some x)(hy:ys[n]?=some y)
  (k:∀h',ZSt b d h' z I O i j a c (rawInt s.heap.objs.size) (n+1)->IsPair h' s.heap.objs.size x y->
   (∀e o,e≠z->e≠O->e≠i->e≠j->s.heap.get? e=some o->h'.get? e=some o)->Q (.ref s.heap.objs.size) { s with heap:=h' }) :
  wpAny (model prog w) A (Builtin.«zip.__next__» ⟨[.ref z],[]⟩) (fun fin s'=>∃v,fin=.done (.ret v)/\Q v s') E s:=by
 obtain⟨hz,hI,⟨p,q,hO⟩,h1,h2⟩:=st;show wpAny _ _ (field (.ref z) 2 >>= _) _ _ _;refine Q0 (Qp hz rfl (x:=.bool false) rfl ?_);show wpAny _ _ (field (.ref z) 3 >>= _) _ _ _;refine Q0 (Qp hz rfl (x:=.ref I) rfl ?_);refine Q0 (wpAny_seqItems hI rfl ?_);show wpAny _ _ (Builtin.SmallTypes.ownedTupleIsFree (.ref z) >>= _) _ _ _;refine Q0 ?_;unfold Builtin.SmallTypes.ownedTupleIsFree;refine Q0 (Qp hz rfl (x:=.none) rfl (Q5 ?_));simp only[if_true];refine Q0 (wpAny_rule (Q0 (Qp hz rfl (x:=.ref O) rfl (Q0 (wpAny_setField_rec hz (by simp) fun g1 z1 s1=>Q0 ?_)))))
 replace z1:IsZip g1 z I O .ellipsis:=z1
 simp only[List.zipIdx_nil,List.zipIdx_cons,Za,Zh];refine Q0 (Q0 (wpAny_onRaise ?_));show wpAny _ _ (Builtin.SmallTypes.nextOf (.ref i) >>= _) _ _ _;refine Q0 (cM (b:=b) (h1.at_ fun o e=>s1.extBut _ _ D.iz e) (ha.at_ fun o e=>s1.extBut _ _ D.az e) hx fun g2 i2 s2=>Q5 ?_);have O2:IsPair g2 O p q:=s2.extBut _ _ D.Oi (s1.extBut _ _ D.Oz hO);refine Q0 (wpAny_seqItems O2 rfl (Q0 (wpAny_updateSeq_pair O2 fun g3 O3 s3=>?_)))
 replace O3:IsPair g3 O x q:=O3
 refine Q0 (wpAny_letGo (Q5 (Q0 (Q0 (wpAny_onRaise ?_)))));show wpAny _ _ (Builtin.SmallTypes.nextOf (.ref j) >>= _) _ _ _;have up3:∀e o,e≠z->e≠i->e≠O->s.heap.get? e=some o->g3.get? e=some o:=fun e o u1 u2 u3 q=>s3.extBut _ _ u3 (s2.extBut _ _ u2 (s1.extBut _ _ u1 q));refine Q0 (cM (b:=d) (h2.at_ fun o e=>up3 _ _ D.jz D.ij.symm D.Oj.symm e) (hc.at_ fun o e=>up3 _ _ D.cz D.ci D.cO e) hy fun g4 j4 s4=>Q5 ?_);have O4:IsPair g4 O x q:=s4.extBut _ _ D.Oj O3;refine Q0 (wpAny_seqItems O4 rfl (Q0 (wpAny_updateSeq_pair O4 fun g5 O5 s5=>?_)))
 replace O5:IsPair g5 O x y:=O5
 refine Q0 (wpAny_letGo (Q5 (Q5 (Q0 (wpAny_seqItems O5 rfl (Q0 (wpAny_newTuple ?_)))))));have sz:g5.objs.size=s.heap.objs.size:=by rw[s5.1,s4.1,s3.1,s2.1,s1.1]
 have z5:IsZip g5 z I O .ellipsis:=s5.extBut _ _ D.Oz.symm (s4.extBut _ _ D.jz.symm (s3.extBut _ _ D.Oz.symm (s2.extBut _ _ D.iz.symm z1)));have up5:∀e o,e≠z->e≠O->e≠i->e≠j->s.heap.get? e=some o->g5.get? e=some o:=fun e o u1 u2 u3 u4 q=>s5.extBut _ _ u2 (s4.extBut _ _ u4 (up3 e o u1 u3 u2 q));have i5:SI b g5 i a (n+1):=i2.at_ fun o e=>s5.extBut _ _ D.Oi.symm (s4.extBut _ _ D.ij (s3.extBut _ _ D.Oi.symm e));have j5:SI d g5 j c (n+1):=j4.at_ fun o e=>s5.extBut _ _ D.Oj.symm e;have zlt:z<g5.objs.size:=QX z5;show wpAny _ _ (Builtin.SmallTypes.ownedTupleHandOut (.ref z) (.ref g5.objs.size) >>= _) _ _ _;refine Q0 ?_;unfold Builtin.SmallTypes.ownedTupleHandOut;have z6:IsZip (g5.push { cls:=.type "tuple",data:=.seq #[x,y] }) z I O .ellipsis:=Q3 _ z5;refine Q0 (wpAny_setField_rec z6 (by simp) fun g7 z7 s7=>?_)
 replace z7:IsZip g7 z I O (rawInt g5.objs.size):=z7
 refine wpAny_setField_rec z7 (by simp) fun g8 z8 s8=>?_
 replace z8:IsZip g8 z I O (rawInt g5.objs.size):=z8
 have up8:∀e o,e≠z->g5.get? e=some o->g8.get? e=some o:=fun e o u1 q=>s8.extBut _ _ u1 (s7.extBut _ _ u1 (Q3 _ q));have T8:IsPair g8 g5.objs.size x y:=s8.extBut _ _ (Zz zlt) (s7.extBut _ _ (Zz zlt) (QY _ rfl));rw[sz]at z8 T8;refine Q5 ⟨_,rfl,?_⟩;show Q (.ref g5.objs.size) _;rw[sz];exact k g8 ⟨z8,up8 _ _ D.Iz (up5 _ _ D.Iz D.IO D.Ii D.Ij hI),⟨x,y,up8 _ _ D.Oz O5⟩,i5.at_ fun o e=>up8 _ _ D.iz e,j5.at_ fun o e=>up8 _ _ D.jz e⟩ T8 fun e o u1 u2 u3 u4 q=>up8 e o u1 (up5 e o u1 u2 u3 u4 q)
theorem xX{b d:Bool}{z I O i j a c:Addr}{n:Nat}{xs ys:Array Value}{Q:PySem.Fin->Shared->Prop}(hh:A.handled=none)(D:ZA z I O i j a c)(st:ZSt b d s.heap z I O i j a c .none n)(ha:SA b s.heap a xs)(hc:SA d s.heap c ys)(hn:xs[n]?=none\/ys[n]?=none)
  (k:∀h' e,(∀c o,c≠z->c≠O->c≠i->c≠j->s.heap.get? c=some o->h'.get? c=some o)->(∃o,h'.get? e=some o/\o.cls=.type "StopIteration")->E (.ref e) { s with heap:=h' }) :
  wpAny (model prog w) A (Builtin.«zip.__next__» ⟨[.ref z],[]⟩) Q E s:=by
 obtain⟨hz,hI,⟨p,q,hO⟩,h1,h2⟩:=st;show wpAny _ _ (field (.ref z) 2 >>= _) _ _ _;refine Q0 (Qp hz rfl (x:=.bool false) rfl ?_);show wpAny _ _ (field (.ref z) 3 >>= _) _ _ _;refine Q0 (Qp hz rfl (x:=.ref I) rfl ?_);refine Q0 (wpAny_seqItems hI rfl ?_);show wpAny _ _ (Builtin.SmallTypes.ownedTupleIsFree (.ref z) >>= _) _ _ _;refine Q0 ?_;unfold Builtin.SmallTypes.ownedTupleIsFree;refine Q0 (Qp hz rfl (x:=.none) rfl (Q5 ?_));simp only[if_true];refine Q0 (wpAny_rule (Q0 (Qp hz rfl (x:=.ref O) rfl (Q0 (wpAny_setField_rec hz (by simp) fun g1 z1 s1=>Q0 ?_)))))
 replace z1:IsZip g1 z I O .ellipsis:=z1
 simp only[List.zipIdx_nil,List.zipIdx_cons,Za,Zh];refine Q0 (Q0 (wpAny_onRaise ?_));show wpAny _ _ (Builtin.SmallTypes.nextOf (.ref i) >>= _) _ _ _;cases hx:xs[n]? with
 |none=>
  refine Q0 (bE (b:=b) hh (h1.at_ fun o e=>s1.extBut _ _ D.iz e) (ha.at_ fun o e=>s1.extBut _ _ D.az e) hx fun g2 e s2 he=>?_);obtain⟨oe,ge,ce⟩:=he;have z2:IsZip g2 z I O .ellipsis:=s2 _ _ D.iz.symm z1;have nez:e≠z:=fun v=>by subst v;rw[z2]at ge;cases ge;simp at ce
  exact wpAny_setField_rec z2 (by simp) fun g3 _ s3=>k g3 e (fun c o u1 _ u3 _ v=>s3.extBut _ _ u1 (s2 _ _ u3 (s1.extBut _ _ u1 v))) ⟨oe,s3.extBut _ _ nez ge,ce⟩
 |some x=>
  have hy:ys[n]?=none:=by rcases hn with v|v;rw[hx]at v;cases v;exact v
  refine Q0 (cM (b:=b) (h1.at_ fun o e=>s1.extBut _ _ D.iz e) (ha.at_ fun o e=>s1.extBut _ _ D.az e) hx fun g2 i2 s2=>Q5 ?_);have O2:IsPair g2 O p q:=s2.extBut _ _ D.Oi (s1.extBut _ _ D.Oz hO);refine Q0 (wpAny_seqItems O2 rfl (Q0 (wpAny_updateSeq_pair O2 fun g3 O3 s3=>?_)));refine Q0 (wpAny_letGo (Q5 (Q0 (Q0 (wpAny_onRaise ?_)))));show wpAny _ _ (Builtin.SmallTypes.nextOf (.ref j) >>= _) _ _ _;have up3:∀e o,e≠z->e≠i->e≠O->s.heap.get? e=some o->g3.get? e=some o:=fun e o u1 u2 u3 q=>s3.extBut _ _ u3 (s2.extBut _ _ u2 (s1.extBut _ _ u1 q));refine Q0 (bE (b:=d) hh (h2.at_ fun o e=>up3 _ _ D.jz D.ij.symm D.Oj.symm e) (hc.at_ fun o e=>up3 _ _ D.cz D.ci D.cO e) hy fun g4 e s4 he=>?_);obtain⟨oe,ge,ce⟩:=he;have z4:IsZip g4 z I O .ellipsis:=s4 _ _ D.jz.symm (s3.extBut _ _ D.Oz.symm (s2.extBut _ _ D.iz.symm z1));have nez:e≠z:=fun v=>by subst v;rw[z4]at ge;cases ge;simp at ce
  exact wpAny_setField_rec z4 (by simp) fun g5 _ s5=>k g5 e (fun c o u1 u2 u3 u4 v=>s5.extBut _ _ u1 (s4 _ _ u4 (up3 c o u1 u3 u2 v))) ⟨oe,s5.extBut _ _ nez ge,ce⟩
theorem xZ{b d:Bool}{z I O i j a c:Addr}{n:Nat}{xs ys:Array Value}{x y:Value}{Q:Option Value->Shared->Prop}(D:ZA z I O i j a c)(st:ZSt b d s.heap z I O i j a c .none n)(ha:SA b s.heap a xs)(hc:SA d s.heap c ys)(hx:xs[n]?=some x)(hy:ys[n]?=some y)
  (k:∀h',ZSt b d h' z I O i j a c (rawInt s.heap.objs.size) (n+1)->IsPair h' s.heap.objs.size x y->
   (∀e o,e≠z->e≠O->e≠i->e≠j->s.heap.get? e=some o->h'.get? e=some o)->Q (some (.ref s.heap.objs.size)) { s with heap:=h' }):wpAny (model prog w) A (pyNext (.ref z)) Q E s:=by
 have ty:s.TypeIs (.ref z) "zip":=⟨_,st.hz,rfl⟩;unfold pyNext;exact Q0 (wpAny_attempt (wpAny_callSpecial?_slot (name:=Str.ofString "__next__") ty PySem.F.slot_zip_next (wpAny_call_entry PySem.F.slot_zip_next ty PySem.F.entry_zip_next
   (xW D st ha hc hx hy fun h' a1 a2 a3=>Q5 (k h' a1 a2 a3)) (PySem.F.args_zip_next_1 _))))
theorem Bb{b d:Bool}{z I O i j a c:Addr}{n:Nat}{xs ys:Array Value}{Q:Option Value->Shared->Prop}(hh:A.handled=none)(D:ZA z I O i j a c)(st:ZSt b d s.heap z I O i j a c .none n)(ha:SA b s.heap a xs)(hc:SA d s.heap c ys)(hn:xs[n]?=none\/ys[n]?=none)
  (k:∀h',(∀c o,c≠z->c≠O->c≠i->c≠j->s.heap.get? c=some o->h'.get? c=some o)->Q none { s with heap:=h' }):wpAny (model prog w) A (pyNext (.ref z)) Q E s:=by
 have ty:s.TypeIs (.ref z) "zip":=⟨_,st.hz,rfl⟩;unfold pyNext;refine Q0 (wpAny_attempt (wpAny_callSpecial?_slot (name:=Str.ofString "__next__") ty PySem.F.slot_zip_next (wpAny_call_entry PySem.F.slot_zip_next ty PySem.F.entry_zip_next
   (xX hh D st ha hc hn fun h' e hk he=>?_) (PySem.F.args_zip_next_1 _))))
 obtain⟨o,ho,co⟩:=he;exact Q0 (wpAny_isInstance (T:="StopIteration") (b:=true) ⟨o,ho,co⟩ isSubtype_stop (Q5 (k _ hk)))
def itO(b:Bool)(a:Addr):Obj:={ cls:=.type (if b then "list_iterator" else "tuple_iterator"),data:=.fields #[.ref a,.int 0 0] }
abbrev zG2(b d:Bool)(h:Heap)(a c:Addr):Heap:=(h.push (itO b a)).push (itO d c)
abbrev zG4(b d:Bool)(h:Heap)(a c:Addr):Heap:=((zG2 b d h a c).push { cls:=.type "tuple",data:=.seq #[.ref h.objs.size,.ref (h.push (itO b a)).objs.size] }).push { cls:=.type "tuple",data:=.seq #[.none,.none] }
abbrev zG5(b d:Bool)(h:Heap)(a c:Addr):Heap:=(zG4 b d h a c).push { cls:=.type "zip",data:=.fields #[.none,.bool false,.bool false,.ref (zG2 b d h a c).objs.size,.ref ((zG2 b d h a c).push { cls:=.type "tuple",data:=.seq #[.ref h.objs.size,.ref (h.push (itO b a)).objs.size] }).objs.size] }
theorem Ba (b d : Bool) (a c : Addr) (xs ys : Array Value) : Meets (Builtin.«zip.__new__» ⟨[.type "zip", .ref a, .ref c], []⟩) (fun _ R s => SA b s.heap a xs /\ SA d s.heap c ys /\
   R (.ok (.ret (.ref (zG4 b d s.heap a c).objs.size))) { s with heap:=zG5 b d s.heap a c }):=
 .of_wp fun prog w A R s q=>by
  obtain⟨hp,g,dr,tk,os⟩:=s;obtain⟨p1,p2,q⟩:=q;have sb:=sub_zip;cases b<;>cases d
  ·have e1:Heap.IsTuple (Shared.heap ⟨hp,g,dr,tk,os⟩) a xs:=p1;have e2:Heap.IsTuple (Shared.heap ⟨hp.push { cls:=.type "tuple_iterator",data:=.fields #[.ref a,.int 0 0] },g,dr,tk,os⟩) c ys:=SA.at_ (b:=false) p2 fun o e=>Q3 _ e
   wp_walk using wpAny_pyIter_tuple e1,wpAny_pyIter_tuple e2
   exact⟨_,rfl,q⟩
  ·have e1:Heap.IsTuple (Shared.heap ⟨hp,g,dr,tk,os⟩) a xs:=p1;have e2:Heap.IsList (Shared.heap ⟨hp.push { cls:=.type "tuple_iterator",data:=.fields #[.ref a,.int 0 0] },g,dr,tk,os⟩) c ys:=SA.at_ (b:=true) p2 fun o e=>Q3 _ e
   wp_walk using wpAny_pyIter_tuple e1,wpAny_pyIter_list e2
   exact⟨_,rfl,q⟩
  ·have e1:Heap.IsList (Shared.heap ⟨hp,g,dr,tk,os⟩) a xs:=p1;have e2:Heap.IsTuple (Shared.heap ⟨hp.push { cls:=.type "list_iterator",data:=.fields #[.ref a,.int 0 0] },g,dr,tk,os⟩) c ys:=SA.at_ (b:=false) p2 fun o e=>Q3 _ e
   wp_walk using wpAny_pyIter_list e1,wpAny_pyIter_tuple e2
   exact⟨_,rfl,q⟩
  ·have e1:Heap.IsList (Shared.heap ⟨hp,g,dr,tk,os⟩) a xs:=p1;have e2:Heap.IsList (Shared.heap ⟨hp.push { cls:=.type "list_iterator",data:=.fields #[.ref a,.int 0 0] },g,dr,tk,os⟩) c ys:=SA.at_ (b:=true) p2 fun o e=>Q3 _ e
   wp_walk using wpAny_pyIter_list e1,wpAny_pyIter_list e2
   exact⟨_,rfl,q⟩
theorem AJ{b:Bool}{a i:Addr}{h:Heap}(e:h.get? i=some (itO b a)):SI b h i a 0:=by
 cases b with
 |true=>exact⟨_,e,rfl,rfl⟩
 |false=>exact⟨_,e,rfl,rfl⟩
theorem qv{b d:Bool}{a c:Addr}{xs ys:Array Value}{Q:Value->Shared->Prop}(ha:SA b s.heap a xs)(hc:SA d s.heap c ys)
  (k:∀h' z I O i j,ZA z I O i j a c->ZSt b d h' z I O i j a c .none 0->(∀e∈[z,I,O,i,j],s.heap.objs.size<=e)->(∀e o,s.heap.get? e=some o->h'.get? e=some o)->Q (.ref z) { s with heap:=h' }) :
  wpAny (model prog w) A (call (.type "zip") [.ref a,.ref c]) Q E s:=by
 refine callType_new PySem.F.called_zip (by decide) (PySem.F.typeCall_zip_2 _ _) (PySem.F.newCall_zip_2 _ _) (fun obj=>PySem.F.args_object_init_3 obj _ _) PySem.F.entry_zip_new (Ba b d a c xs ys) ⟨ha,hc,?_⟩;have n1:(s.heap.push (itO b a)).objs.size=s.heap.objs.size+1:=ZL ..;have n2:(zG2 b d s.heap a c).objs.size=s.heap.objs.size+2:=by rw[ZL,n1]
 have n3:((zG2 b d s.heap a c).push { cls:=.type "tuple",data:=.seq #[.ref s.heap.objs.size,.ref (s.heap.push (itO b a)).objs.size] }).objs.size=s.heap.objs.size+3:=by rw[ZL,n2]
 have n4:(zG4 b d s.heap a c).objs.size=s.heap.objs.size+4:=by rw[ZL,n3]
 have p5:(zG5 b d s.heap a c).get? (zG4 b d s.heap a c).objs.size=some _:=QY _ rfl;have p4:(zG5 b d s.heap a c).get? ((zG2 b d s.heap a c).push { cls:=.type "tuple",data:=.seq #[.ref s.heap.objs.size,.ref (s.heap.push (itO b a)).objs.size] }).objs.size=some _:=Q3 _ (QY _ rfl);have p3:(zG5 b d s.heap a c).get? (zG2 b d s.heap a c).objs.size=some _:=Q3 _ (Q3 _ (QY _ rfl));have p2:(zG5 b d s.heap a c).get? (s.heap.push (itO b a)).objs.size=some _:=Q3 _ (Q3 _ (Q3 _ (QY _ rfl)));have p1:(zG5 b d s.heap a c).get? s.heap.objs.size=some _:=Q3 _ (Q3 _ (Q3 _ (Q3 _ (QY _ rfl))));have la:=ha.lt;have lc:=hc.lt;rw[n4,n2,n3]at p5;rw[n2,n1]at p3;rw[n3]at p4;rw[n1]at p2;show _/\_;rw[n4];refine⟨⟨_,p5,rfl⟩,k _ (s.heap.objs.size+4) (s.heap.objs.size+2) (s.heap.objs.size+3) s.heap.objs.size (s.heap.objs.size+1) ⟨?_,?_,?_,?_,?_,?_,?_,?_,?_,?_,?_,?_,?_,?_,?_,?_,?_,?_⟩ ⟨p5,p3,⟨_,_,p4⟩,AJ p1,AJ p2⟩ (fun e he=>?_) fun e o x=>Q3 _ (Q3 _ (Q3 _ (Q3 _ (Q3 _ x))))⟩;case refine_19=>
  simp only[QH,ZV,or_false]at he;rcases he with e1|e1|e1|e1|e1<;>rw[e1]<;>first|exact QJ _|exact Nat.le_add_right _ _
 all_goals first|exact QL (by omega)|exact Zz (by omega)|exact QL (Qj la (by omega))|exact QL (Qj lc (by omega))
end
def Sq(K:Q4):Bool->Hp->Addr->List V->Prop
 |true,H,a,xs=>SqL K H a xs
 |false,H,a,xs=>SqT K H a xs
section
variable{X:Cx}{pins:List (Addr×Obj)}{σ:L2.St}{H:Hp}{s:Shared}{h':Heap}
theorem _root_.L2.Inv.turnedL{t':Nat}{ch:List Addr}(I:Inv X pins σ H s)(k:∀b o,b∉ch->s.heap.get? b=some o->h'.get? b=some o)(hf:∀b∈ch,tV X pins H b):Inv X pins σ H { s with heap:=h',toks:=t' }:=by
 have nit:∀b u,H b=some u->b∉ch:=fun b u e z=>by rw[(hf b z).1]at e;cases e
 refine I.step (g':=s.gens) (d':=s.drawn) (ch:=ch) (fun b hb=>⟨(hf b hb).2.2.2.1,(hf b hb).2.1,(hf b hb).2.2.2.2.1,(hf b hb).2.2.2.2.2⟩) (fun b o _ _ hc e _=>k b o hc e) (fun b o _ _ hc e _=>⟨o.slots,k b o hc e⟩) (fun _ _ _ _ n=>n)
  (fun b o hc e=>⟨o,k b o hc e⟩) (fun _ _ e=>e) (fun _ _ _ e=>e) (fun b ps e=>⟨#[],by rw[e];simp⟩) (fun m hm=>?_) (fun b u e=>?_) I.bare
 ·obtain⟨o,es,ep,ho,r⟩:=hm;exact⟨o,es,ep,k _ o (fun z=>(hf _ z).2.1 rfl) ho,r⟩
 ·refine(I.hok b u e).stay (fun c v hc q=>k c v ?_ q) (fun _ q=>q) fun _ _ q=>q;rcases hc with z|z
  ·rw[z];exact nit b u e
  ·exact nit c _ z
theorem _root_.L2.Inv.sq{b:Bool}{a:Addr}{xs:List V}(I:Inv X pins σ H s)(h:Sq X.K b H a xs):∃its:List Value,a5 xs its/\SA b s.heap a its.toArray:=by
 cases b with
 |true=>obtain⟨its,r,p,_⟩:=I.list h;exact⟨its,r,p.isList⟩
 |false=>obtain⟨its,r,p,_⟩:=I.tuple h;exact⟨its,r,p⟩
theorem _root_.L2.Inv.sq_inj{b:Bool}{a:Addr}{xs ys:List V}(I:Inv X pins σ H s)(h:Sq X.K b H a xs)(h2:Sq X.K b H a ys):xs=ys:=by
 cases b with
 |true=>exact I.list_inj h h2
 |false=>exact I.tuple_inj h h2
end
def Itz(K:Q4)(b d:Bool)(a c:Addr):It:=
  ⟨fun i H=>∃xs ys x y,Sq K b H a xs/\Sq K d H c ys/\xs[i]?=some x/\ys[i]?=some y,
   fun i H v H'=>∃p x y,v=.ref p/\H p=none/\H'=upd H p (.tup [x,y])/\(∀xs,Sq K b H a xs->xs[i]?=some x)/\∀ys,Sq K d H c ys->ys[i]?=some y,
   fun i H=>∃xs ys,Sq K b H a xs/\Sq K d H c ys/\(xs.length<=i\/ys.length<=i)⟩
theorem yP{h:Heap}{ob o:Obj}{e:Addr}(q:(h.push ob).get? e=some o)(ne:e≠h.objs.size):h.get? e=some o:=(Heap.get?_push_ne h e ob ne).symm.trans q
theorem rh{P:Program}{w:World}{H:Hp}{h:Heap}{a:Addr}{x y:V}{u v:Value}(e:h.get? a=some { cls:=.type "tuple",data:=.seq #[u,v] })(rx:bP x u)(ry:bP y v):bx P w H h a (.tup [x,y]):=
 ⟨by show 2<=sizeLine;decide,[u,v],.cons rx (.cons ry .nil),⟨_,e,rfl,_,rfl⟩⟩
def IQ(K:Q4)(ta:TA):TI:=fun σ H R=>ta σ H fun vs H2=>∃b d a c,vs=[.ref a,.ref c]/\(∃xs,Sq K b H2 a xs)/\(∃ys,Sq K d H2 c ys)/\R (Itz K b d a c) H2
theorem rR:bootBuiltins "zip"=some (.type "zip"):=rfl
def tL:U->Sto->Option (List U×(Sto->Prop))
 |.tup us,_=>some (us,fun _=>True)
 |.ref l,S=>match S[l]? with
  |some (.lst us)=>some (us,fun S=>S[l]?=some (.lst us))
  |_=>none
 |_,_=>none
def i9(us ws:List U):List U:=(us.zip ws).map fun p=>.tup [p.1,p.2]
def GW(ca cb:CE):CI:=fun ρ S=>(ca ρ S).bind fun p=>(cb ρ p.2).bind fun q=>(tL p.1 q.2).bind fun x=>(tL q.1 q.2).bind fun y=>some (i9 x.1 y.1,fun S=>x.2 S/\y.2 S,q.2)
theorem qM{K:Q4}{m:List Addr}{S:Sto}{H:Hp}{u:U}{v:V}{us:List U}{ok:Sto->Prop}(sr:Sr K m S H)(iu:Is K m H v u)(h:tL u S=some (us,ok)) :
  ∃b a,v=.ref a/\(∃xs,Sq K b H a xs)/\∀m2 S2 H2,Ext K m H m2 H2->Sr K m2 S2 H2->ok S2->∃xs,Sq K b H2 a xs/\IsL K m2 H2 xs us:=by
 cases u with
 |tup ws=>
  cases h;obtain⟨a,xs,rfl,sq,il⟩:=iu.of_tup;exact⟨false,a,rfl,⟨xs,sq⟩,fun m2 S2 H2 e _ _=>⟨xs,e.keep.t _ _ sq,il.mono e⟩⟩
 |ref l=>
  simp only[tL]at h;split at h<;>try cases h
  rename_i us hS;obtain⟨a,ha,rfl⟩:=iu.of_ref;obtain⟨a',ha',xs,hx,il⟩:=sr.get hS;rw[ha]at ha';cases ha';refine⟨true,a,rfl,⟨xs,SqL.of hx⟩,fun m2 S2 H2 e sr2 hok=>?_⟩;obtain⟨a',ha',xs,hx,il⟩:=sr2.get hok;rw[e.get ha]at ha';cases ha';exact⟨xs,SqL.of hx,il⟩
 |_=>simp[tL]at h
theorem ox:∀{vs:List Value} {ns:List Int},IntsAre vs ns->a5 (ns.map V.int) vs
 |_,_,.nil=>.nil
 |_,_,.cons n t r=>.cons ⟨t,rfl⟩ (ox r)
theorem eY:∀{ns:List Int} {vs:List Value},a5 (ns.map V.int) vs->IntsAre vs ns
 |[],_,h=>by cases h;exact .nil
 |n::ns,_,.cons r t=>by
  obtain⟨k,rfl⟩:=r;exact .cons n k (eY t)
def va(K:Q4):List V->Hp->VK->Prop:=fun xs H Q=>∃(p:Addr) (ns:List Int),xs=[.ref p]/\(SqL K H p (ns.map V.int)\/∃kvs,H p=some (.dK kvs)/\kvs.map (·.1)=ns.map Sum.inl)/\ns.length<64/\
 ∀(l:Addr) (ms:List Int),H l=none->ms.Perm ns->ms.Pairwise (·<=·)->Q (.ref l) (upd H l (.lst (ms.map V.int)))
theorem pS{κ:Type}:∀{kvs:List (κ×V)} {vs:List (κ×Value)},KV kvs vs->vs.map (·.1)=kvs.map (·.1)
 |_,_,.nil=>rfl
 |_,_,.cons r t=>by rw[QF,QF,pS t,r.1]
theorem vS{P:Program}{w:World}{H:Hp}{h:Heap}{a:Addr}{ms:List Int}{out:Array Value}{e:Nat}(g:h.get? a=some (seqObj "list" out e))(hI:IntsAre out.toList ms)(hl:ms.length<64):bx P w H h a (.lst (ms.map V.int)):=
 ⟨by rw[Q9];exact Zb (Qj hl (by unfold sizeLine;decide)),out.toList,e,ox hI,by rw[Array.toArray_toList];exact g⟩
theorem zf{X:Cx}(hc:X.calm=true):bX X (.builtin "sorted") (va X.K):=by
 rintro pins s σ H xs us Q I r ⟨p,ns,rfl,src,h64,q⟩;obtain⟨u,rfl,ru⟩:=fP r;cases ru;rcases src with hL|⟨kvs,hD,hk⟩
 ·obtain⟨its,rv,pl,hz⟩:=I.list hL;have hI:=eY rv;have hlen:=rv.length;rw[Q9]at hlen;refine sorted_ints pl.isList hI (by omega) fun out ms a1 a2 a3=>?_;obtain⟨e,ge⟩:=sortedAll_at s.heap its out;have hf:=I.hok.fresh (X7 s.heap.objs.size);exact⟨.ref (s.heap.objs.size+1),_,I.laid (t':=s.toks) (fun b o e=>sortedAll_old e) (X7 _) (vS ge a1 (by rw[a2.length_eq];exact h64)),rfl,q _ ms hf a2 a3⟩
 ·obtain⟨z,hd,vs,rel,dd⟩:=Ds I.hok hD;obtain⟨ep,da⟩:=dd.dictAt;have lkv:kvs.length=ns.length:=by have:=congrArg X8 hk;simpa using this
  have lv:vs.length=ns.length:=by rw[<-Paired.length rel];exact lkv
  have ks:vs.map (·.1)=ns.map Sum.inl:=by
   rw[<-hk];exact pS rel
  refine Calls.call_function_entry kind_sorted plain_sorted entry_sorted (args_sorted1 _) ?_;unfold Builtin.«sorted»;refine Q0 (m:=checkCount "sorted" 1 1 _) (Q5 (Q0 (PySem.W.kdu_collect (PySem.W.kdl_dict (kvs:=vs) (ep:=ep) hd) (show X.A.in1.handled=none from I.ok.hd hc) da (by rw[lv,<-lkv];exact z) fun h1 tk acc up hac=>?_)));have hla:acc.toList.length=ns.length:=by rw[QD,hac.1,lv]
  have hI:IntsAre acc.toList ns:=by
   have key:∀(i:Nat) (v:Value),acc.toList[i]?=some v->∃(n:Int) (t:Tok),ns[i]?=some n/\v=Value.int n t:=fun i v e=>by
    obtain⟨k,x,e1,e2⟩:=hac.2 i v (by rw[<-Qk];exact e);have e3:(vs.map (·.1))[i]?=some k:=by rw[Qr,e1];rfl
    rw[ks,Qr]at e3;obtain⟨n,e4,e5⟩:=Qt.mp e3;subst e5;rcases aY (k:=Sum.inl n) e2 with⟨j,t,e6,e7⟩|⟨j,t,e6,e7⟩
    ·cases e6;exact⟨n,t,e4,e7⟩
    ·cases e6
   clear hac;generalize acc.toList=L at key hla;clear ks lv lkv h64 q hk;induction L generalizing ns with
   |nil=>cases ns with
    |nil=>exact .nil
    |cons a b=>simp at hla
   |cons a b ih=>cases ns with
    |nil=>simp at hla
    |cons c d=>
     obtain⟨n,t,e1,e2⟩:=key 0 a (by simp);simp at e1;subst e1;subst e2;exact .cons _ t (ih _ (fun i v e=>by have:=key (i+1) v (by simpa using e);simpa using this) (by simpa using hla))
  refine Q0 (wpAny_newList ?_ (by rw[hla,<-lkv];exact z));have gL:(h1.push { cls:=.type "list",data:=.seq acc.toList.toArray }).get? h1.objs.size=some (seqObj "list" acc.toList.toArray 0):=QY _ rfl;refine Q0 (wpAny_holding (wpAny_call_entry slot_list_sort ⟨_,gL,rfl⟩ entry_list_sort (list_sort_tree (s:={ s with heap:=h1.push { cls:=.type "list",data:=.seq acc.toList.toArray },toks:=tk }) gL hI (by omega) fun out ms a1 a2 a3=>⟨_,rfl,?_⟩) (args_list_sort _)));obtain⟨e,ge⟩:=sortedHeap_at (out:=out) gL;have I1:Inv X pins σ H { s with heap:=h1,toks:=tk }:=I.kept up;have hf:=I1.hok.fresh (QJ h1.objs.size);refine Q5 ⟨_,rfl,.ref h1.objs.size,_,Inv.laid (s:={ s with heap:=h1,toks:=tk }) (h':=sortedHeap (h1.push { cls:=.type "list",data:=.seq acc.toList.toArray }) h1.objs.size acc.toList out) (t':=tk) I1 (fun b o g1=>?_) (QJ _) (vS ge a1 (by rw[a2.length_eq];exact h64)),rfl,q _ ms hf a2 a3⟩;have g1:h1.get? b=some o:=g1;have lt1:=QX g1;rw[sortedHeap_old (QL lt1) (by rw[ZL];exact Zm lt1)];exact Q3 _ g1
def sE(ns:List Int):List Int:=ns.mergeSort (fun a b=>decide (a<=b))
theorem sD(ns:List Int):(sE ns).Perm ns:=List.mergeSort_perm ..
theorem nK(ns:List Int):(sE ns).Pairwise (·<=·):=by
 have:=List.pairwise_mergeSort (le:=fun(a b:Int)=>decide (a<=b)) (fun a b c h1 h2=>by simp at h1 h2 ⊢;omega) (fun a b=>by simp;omega) ns;exact this.imp fun h=>by simpa using h
theorem mi{ns ms:List Int}(p:ms.Perm ns)(s:ms.Pairwise (·<=·)):ms=sE ns:=PySem.W.lks_uniq (p.trans (sD ns).symm) s (nK ns)
def zA:List (Key×U)->Option (List Int)
 |[]=>some []
 |(.inl n,_)::r=>(zA r).map (n::·)
 |_=>none
theorem rC:∀{kus:List (Key×U)} {ns:List Int},zA kus=some ns->kus.map (·.1)=ns.map Sum.inl
 |[],ns,h=>by cases h;rfl
 |(k,u)::r,ns,h=>by
  cases k<;>simp only[zA]at h<;>try cases h
  obtain⟨ms,e,h⟩:=Qt.mp h;subst h;simp[rC e]
def ki:Fn
 |[.ref l],S=>match S[l]? with
  |some (.lst us)=>(mM us).bind fun ns=>if ns.length<64 then some (.ref S.length,S++[.lst ((sE ns).map U.int)])else none
  |some (.dic kus)=>(zA kus).bind fun ns=>if ns.length<64 then some (.ref S.length,S++[.lst ((sE ns).map U.int)])else none
  |_=>none
 |_,_=>none
theorem y4{K:Q4}:iG K (va K) ki:=by
 intro m S H us vs u S' Q sr i hf post;match us,hf with
 |[.ref l],hf=>
  obtain⟨v,rfl,iv⟩:=i.one;obtain⟨a,ha,rfl⟩:=iv.of_ref;simp only[ki]at hf;split at hf<;>try cases hf
  ·rename_i ws hS;obtain⟨ns,hn,h⟩:=Q2.mp hf;split at h<;>try cases h
   have hc:ns.length<64:=by assumption
   obtain⟨a',ha',xs,hx,la⟩:=sr.get hS;rw[ha]at ha';cases ha';rw[ik hn]at la;rw[la.ints]at hx;refine⟨a,ns,rfl,.inl (SqL.of hx),hc,fun p ms hp pm sm=>?_⟩;rw[mi pm sm];exact bB sr (fK _) post hp
  ·rename_i ws hS;obtain⟨ns,hn,h⟩:=Q2.mp hf;split at h<;>try cases h
   have hc:ns.length<64:=by assumption
   obtain⟨a',ha',kvs,hx,ip⟩:=sr.get hS;rw[ha]at ha';cases ha';refine⟨a,ns,rfl,.inr ⟨kvs,hx,by rw[ip.1,rC hn]⟩,hc,fun p ms hp pm sm=>?_⟩;rw[mi pm sm];exact bB sr (fK _) post hp
section
variable{ρ:Rho}{S:Sto}{c1 c2:CS}{t ta tb:CT}{ca cb cc:CE}{cr:CA}{u x y:U}{us:List U}{i l:Nat}{f g:U->U->Sto->Option (U×Sto)}{b:Bool}
def Jt(S:Sto):Option (Option U)->Option (U×Sto)
 |some (some u)=>some (u,S)
 |_=>none
theorem Be:ao i ρ S=Jt S (ρ[i]?):=rfl
theorem t7:Jt S (some (some u))=some (u,S):=rfl
theorem x_c:cC u ρ S=some (u,S):=rfl
def IG(f:U->U->Sto->Option (U×Sto))(x:U)(q:U×Sto):=f x q.1 q.2
def Jx(f:U->U->Sto->Option (U×Sto))(cb:CE)(ρ:Rho)(p:U×Sto):=(cb ρ p.2).bind (IG f p.1)
theorem DQ:cOp f ca cb ρ S=(ca ρ S).bind (Jx f cb ρ):=rfl
theorem ub:Jx f cb ρ (x,S)=(cb ρ S).bind (IG f x):=rfl
theorem ua:IG f x (y,S)=f x y S:=rfl
def F9:U×Sto->Option (Bool×Sto)
 |(.bl b,S)=>some (b,S)
 |_=>none
theorem nq:aL ca ρ S=(ca ρ S).bind F9:=by
 unfold aL;congr 1;funext p;obtain⟨u,S⟩:=p;cases u<;>rfl
theorem pf:F9 (.bl b,S)=some (b,S):=rfl
def IM(tb:CT)(ρ:Rho)(p:Bool×Sto):=if p.1=true then tb ρ p.2 else some (false,p.2)
def kOr(tb:CT)(ρ:Rho)(p:Bool×Sto):=if p.1=true then some (true,p.2)else tb ρ p.2
def Jy(p:Bool×Sto):Option (Bool×Sto):=some (!p.1,p.2)
theorem HE:DG ta tb ρ S=(ta ρ S).bind (IM tb ρ):=rfl
theorem Ex:IM tb ρ (true,S)=tb ρ S:=rfl
theorem Ew:IM tb ρ (false,S)=some (false,S):=rfl
theorem JM:cOr ta tb ρ S=(ta ρ S).bind (kOr tb ρ):=rfl
theorem Hj:kOr tb ρ (true,S)=some (true,S):=rfl
theorem Hi:kOr tb ρ (false,S)=tb ρ S:=rfl
theorem Ef:DV ta ρ S=(ta ρ S).bind Jy:=rfl
theorem Ee:Jy (b,S)=some (!b,S):=rfl
def C4(cb:CE)(ρ:Rho):U×Sto->Option (U×Sto)
 |(.bl true,S)=>cb ρ S
 |(.bl false,S)=>some (.bl false,S)
 |_=>none
def Gd:U×Sto->Option (U×Sto)
 |(.bl b,S)=>some (.bl (!b),S)
 |_=>none
theorem Eu:z0 ca cb ρ S=(ca ρ S).bind (C4 cb ρ):=by
 unfold z0;congr 1;funext p;obtain⟨u,S⟩:=p;cases u with
 |bl b=>cases b<;>rfl
 |_=>rfl
theorem Br:C4 cb ρ (.bl true,S)=cb ρ S:=rfl
theorem Bq:C4 cb ρ (.bl false,S)=some (.bl false,S):=rfl
theorem Ed:zZ ca ρ S=(ca ρ S).bind Gd:=by
 unfold zZ;congr 1;funext p;obtain⟨u,S⟩:=p;cases u<;>rfl
theorem Bh:Gd (.bl b,S)=some (.bl (!b),S):=rfl
def we(u:U)(q:List U×Sto):Option (List U×Sto):=some (u::q.1,q.2)
def AI(cr:CA)(ρ:Rho)(p:U×Sto):=(cr ρ p.2).bind (we p.1)
theorem Bi:aB ρ S=some ([],S):=rfl
theorem qy:ag ca cr ρ S=(ca ρ S).bind (AI cr ρ):=rfl
theorem px:AI cr ρ (u,S)=(cr ρ S).bind (we u):=rfl
theorem pq:we u (us,S)=some (u::us,S):=rfl
def Ju(p:List U×Sto):Option (U×Sto):=some (.tup p.1,p.2)
def Jz(p:List U×Sto):Option (U×Sto):=some (.ref p.2.length,p.2++[.lst p.1])
theorem Hc:xm cr ρ S=(cr ρ S).bind Ju:=rfl
theorem D5:Ju (us,S)=some (.tup us,S):=rfl
theorem Ho:fN cr ρ S=(cr ρ S).bind Jz:=rfl
theorem Eg:Jz (us,S)=some (.ref S.length,S++[.lst us]):=rfl
def kCB(f:Fn)(p:List U×Sto):=f p.1 p.2
theorem GL{f:Fn}:cCB f cr ρ S=(cr ρ S).bind (kCB f):=rfl
theorem Bp{f:Fn}:kCB f (us,S)=f us S:=rfl
def JA(T:Ty)(p:U×Sto):Option (U×Sto):=(tyU p.1 p.2).bind fun t=>some (.bl (Ap t T),p.2)
theorem Hs{T:Ty}:GD T ca ρ S=(ca ρ S).bind (JA T):=rfl
theorem Em{T:Ty}:JA T (u,S)=(tyU u S).bind fun t=>some (.bl (Ap t T),S):=rfl
def Ga(c2:CS):Out×Rho×Sto->Option (Out×Rho×Sto)
 |(.nx,ρ,S)=>c2 ρ S
 |(o,ρ,S)=>some (o,ρ,S)
theorem Ak:d5 ρ S=some (.nx,ρ,S):=rfl
theorem nr:bq c1 c2 ρ S=(c1 ρ S).bind (Ga c2):=by
 unfold bq;congr 1;funext p;obtain⟨o,ρ,S⟩:=p;cases o<;>rfl
theorem iU:Ga c2 (.nx,ρ,S)=c2 ρ S:=rfl
theorem Ea:Ga c2 (.rt u,ρ,S)=some (.rt u,ρ,S):=rfl
theorem D9:Ga c2 (.bk,ρ,S)=some (.bk,ρ,S):=rfl
theorem D8:Ga c2 (.ct,ρ,S)=some (.ct,ρ,S):=rfl
def Ge(ρ:Rho)(p:U×Sto):Option (Out×Rho×Sto):=some (.nx,ρ,p.2)
def Jw(ρ:Rho)(p:U×Sto):Option (Out×Rho×Sto):=some (.rt p.1,ρ,p.2)
theorem Eo:iC ca ρ S=(ca ρ S).bind (Ge ρ):=rfl
theorem Bo:Ge ρ (u,S)=some (.nx,ρ,S):=rfl
theorem Ec:fS ca ρ S=(ca ρ S).bind (Jw ρ):=rfl
theorem Eb:Jw ρ (u,S)=some (.rt u,ρ,S):=rfl
def IJ(c1 c2:CS)(ρ:Rho)(p:Bool×Sto):=if p.1=true then c1 ρ p.2 else c2 ρ p.2
theorem sh:lP t c1 c2 ρ S=(t ρ S).bind (IJ c1 c2 ρ):=rfl
theorem qx:IJ c1 c2 ρ (true,S)=c1 ρ S:=rfl
theorem qw:IJ c1 c2 ρ (false,S)=c2 ρ S:=rfl
def Jv(i:Nat)(ρ:Rho)(p:U×Sto):Option (Out×Rho×Sto):=some (.nx,ρ.set i (some p.1),p.2)
theorem ph:cm i ca ρ S=(ca ρ S).bind (Jv i ρ):=rfl
theorem jG:Jv i ρ (u,S)=some (.nx,ρ.set i (some u),S):=rfl
def C3(q:Rho×Sto):Option (Out×Rho×Sto):=some (.nx,q.1,q.2)
def JB(g:CG)(ρ:Rho)(p:U×Sto):=(g p.1 ρ p.2).bind C3
theorem HC{g:CG}:DW ca g ρ S=(ca ρ S).bind (JB g ρ):=rfl
theorem Et{g:CG}:JB g ρ (u,S)=(g u ρ S).bind C3:=rfl
theorem Es:C3 (ρ,S)=some (.nx,ρ,S):=rfl
theorem Hu:gNm i u ρ S=some (ρ.set i (some u),S):=rfl
theorem Ht{is:List Nat}:gTp is (.tup us) ρ S=(eM is us ρ).bind fun ρ'=>some (ρ',S):=rfl
theorem Ez:eM [] [] ρ=some ρ:=rfl
theorem Ey{is:List Nat}:eM (i::is) (u::us) ρ=eM is us (ρ.set i (some u)):=rfl
def ID(ρ:Rho)(S':Sto):Option (Out×Rho×Sto):=some (.nx,ρ,S')
def IE(o v:U)(ρ:Rho)(r:U×Sto):=(i8 o r.1 v r.2).bind (ID ρ)
def IF(ci:CE)(v:U)(ρ:Rho)(q:U×Sto):=(ci ρ q.2).bind (IE q.1 v ρ)
def kSI(co ci:CE)(ρ:Rho)(p:U×Sto):=(co ρ p.2).bind (IF ci p.1 ρ)
theorem JL:oR ca cb cc ρ S=(cc ρ S).bind (kSI ca cb ρ):=rfl
theorem Hh:kSI ca cb ρ (u,S)=(ca ρ S).bind (IF cb u ρ):=rfl
theorem Hg:IF cb y ρ (u,S)=(cb ρ S).bind (IE u y ρ):=rfl
theorem Hf:IE x y ρ (u,S)=(i8 x u y S).bind (ID ρ):=rfl
theorem He:ID ρ S=some (.nx,ρ,S):=rfl
def kIx(y:U)(S:Sto):Option O->Option (U×Sto)
 | some (.lst us)=>(match y with
   |.int i=>(atI us i).bind fun u=>some (u,S)
   |_=>none)
 |some (.dic kus)=>(oj y).bind fun k=>(kW kus k).bind fun u=>some (u,S)
 |some (.fdc _ kus)=>(oj y).bind fun k=>(kW kus k).bind fun u=>some (u,S)
 |_=>none
theorem Hq{j:Int}:fIx (.tup us) (.int j) S=(atI us j).bind fun u=>some (u,S):=rfl
theorem Bm:fIx (.ref l) y S=kIx y S S[l]?:=by
 unfold fIx kIx;dsimp only<;>(generalize S[l]?=q;rcases q with _|o<;>first|rfl|(cases o<;>rfl))
theorem El{j:Int}:kIx (.int j) S (some (.lst us))=(atI us j).bind fun u=>some (u,S):=rfl
theorem Bn{kus:List (Key×U)}:kIx y S (some (.dic kus))=(oj y).bind fun k=>(kW kus k).bind fun u=>some (u,S):=rfl
def GU(l:Nat)(i v:U)(S:Sto):Option O->Option Sto
 | some (.lst us)=>(match i with
   |.int k=>(ixN us.length k).bind fun j=>some (S.set l (.lst (us.set j v)))
   |_=>none)
 |some (.dic kus)=>(oj i).bind fun k=>if kus.length<LIM then some (S.set l (.dic (i7 kus k v)))else none
 |_=>none
theorem D7:i8 (.ref l) x y S=GU l x y S S[l]?:=by
 unfold i8 GU;dsimp only<;>(generalize S[l]?=q;rcases q with _|o<;>first|rfl|(cases o<;>rfl))
theorem D6{j:Int}:GU l (.int j) y S (some (.lst us))=(ixN us.length j).bind fun j=>some (S.set l (.lst (us.set j y))):=rfl
theorem Am{kus:List (Key×U)}:GU l x y S (some (.dic kus))=(oj x).bind fun k=>if kus.length<LIM then some (S.set l (.dic (i7 kus k y)))else none:=rfl
theorem at0{α:Type}{a:α}{r:List α}:atI (a::r) 0=some a:=by show atI _ ((0:Nat):Int)=_;exact gC rfl
theorem at1{α:Type}{a b:α}{r:List α}:atI (a::b::r) 1=some b:=by show atI _ ((1:Nat):Int)=_;exact gC rfl
theorem at2{α:Type}{a b c:α}{r:List α}:atI (a::b::c::r) 2=some c:=by show atI _ ((2:Nat):Int)=_;exact gC rfl
theorem at3{α:Type}{a b c d:α}{r:List α}:atI (a::b::c::d::r) 3=some d:=by show atI _ ((3:Nat):Int)=_;exact gC rfl
theorem ix0{n:Nat}:ixN (n+1) 0=some 0:=by simp[ixN]
theorem ix1{n:Nat}:ixN (n+1+1) 1=some 1:=by simp[ixN];omega
theorem ix2{n:Nat}:ixN (n+1+1+1) 2=some 2:=by simp[ixN];omega
def IH(S:Sto):Option O->Option (U×Sto)
 |some (.lst us)=>some (.int us.length,S)
 |some (.dic us)=>some (.int us.length,S)
 |_=>none
theorem Ei:lK [.ref l] S=IH S S[l]?:=by
 unfold lK IH;dsimp only<;>(generalize S[l]?=q;rcases q with _|o<;>first|rfl|(cases o<;>rfl))
theorem Ej:IH S (some (.lst us))=some (.int us.length,S):=rfl
theorem Eh:lK [.tup us] S=some (.int us.length,S):=rfl
variable{j k:Int}
theorem Bs:dF (.int j) (.int k) S=some (.int (j+k),S):=rfl
theorem Hd:IV (.int j) (.int k) S=some (.int (j-k),S):=rfl
theorem lR(h:A5 j k):ju (.int j) (.int k) S=some (.int (j*k),S):=by simp[ju,fI,h]
theorem Er(h:tK j k):AR (.int j) (.int k) S=some (.int (j / k),S):=by simp[AR,fI,h]
theorem x6(h:0<k):tq (.int j) (.int k) S=some (.int (j % k),S):=by simp[tq,fI,h]
theorem Hn:fLt (.int j) (.int k) S=some (.bl (decide (j<k)),S):=rfl
theorem JN:fLe (.int j) (.int k) S=some (.bl (decide (j<=k)),S):=rfl
theorem JO:fGt (.int j) (.int k) S=some (.bl (decide (k<j)),S):=rfl
theorem JP:fGe (.int j) (.int k) S=some (.bl (decide (k<=j)),S):=rfl
theorem Hy:fEq (.int j) (.int k) S=some (.bl (decide (j=k)),S):=rfl
theorem Hl:fNe (.int j) (.int k) S=some (.bl (!decide (j=k)),S):=rfl
theorem Hx{a c:Str}:fEq (.str a) (.str c) S=some (.bl (decide (a=c)),S):=rfl
theorem Hk{a c:Str}:fNe (.str a) (.str c) S=some (.bl (!decide (a=c)),S):=rfl
theorem Hm{a c:Bool}:fNe (.bl a) (.bl c) S=some (.bl (!decide (a=c)),S):=rfl
def kFn:Out×Rho×Sto->Option (U×Sto)
 |(.rt u,_,S)=>some (u,S)
 |(.nx,_,S)=>some (.non,S)
 |_=>none
theorem nu{n k:Nat}(h:us.length=k):fnU n k c1 us S=(c1 (nI n us) S).bind kFn:=by
 unfold fnU;rw[if_pos h];congr 1;funext p;obtain⟨o,ρ,S⟩:=p;cases o<;>rfl
theorem Hw:kFn (.rt u,ρ,S)=some (u,S):=rfl
theorem Hv:kFn (.nx,ρ,S)=some (.non,S):=rfl
end
section
variable{ρ:Rho}{S:Sto}{t:CT}{ca:CE}{cr:CA}{u x:U}{us:List U}{l:Nat}{b:Bool}
theorem Ek{j:Int}:oj (.int j)=some (.inl j):=rfl
def IK(f:U->List U->Sto->Option (U×Sto))(x:U)(q:List U×Sto):=f x q.1 q.2
def IL(f:U->List U->Sto->Option (U×Sto))(cr:CA)(ρ:Rho)(x:U)(S:Sto):Option O->Option (U×Sto)
 |some (.lst _)=>(cr ρ S).bind (IK f x)
 |_=>none
def kBM(f:U->List U->Sto->Option (U×Sto))(cr:CA)(ρ:Rho):U×Sto->Option (U×Sto)
 |(.ref l,S)=>IL f cr ρ (.ref l) S S[l]?
 |_=>none
variable{fm:U->List U->Sto->Option (U×Sto)}
theorem JQ:cBM fm ca cr ρ S=(ca ρ S).bind (kBM fm cr ρ):=by
 unfold cBM;congr 1;funext p;obtain⟨u,S⟩:=p;cases u<;>try rfl
theorem HB:kBM fm cr ρ (.ref l,S)=IL fm cr ρ (.ref l) S S[l]?:=rfl
theorem HA:IL fm cr ρ x S (some (.lst us))=(cr ρ S).bind (IK fm x):=rfl
theorem Hz:IK fm x (us,S)=fm x us S:=rfl
def GV(l:Nat)(u:U)(S:Sto):Option O->Option (U×Sto)
 |some (.lst us)=>if us.length<LIM then some (.non,S.set l (.lst (us++[u])))else none
 |_=>none
theorem HD:cq (.ref l) [u] S=GV l u S S[l]?:=by
 unfold cq GV;dsimp only<;>(generalize S[l]?=q;rcases q with _|o<;>first|rfl|(cases o<;>rfl))
theorem eX(h:us.length<LIM):GV l u S (some (.lst us))=some (.non,S.set l (.lst (us++[u]))):=by
 unfold GV;dsimp only;rw[if_pos h]
theorem Ep:DD ρ S=some (.ref S.length,S++[.dic []]):=rfl
theorem D2:eR [.tup us] S=some (.tup us,S):=rfl
def IC(S:Sto):Option O->Option (U×Sto)
 |some (.lst us)=>some (.tup us,S)
 |_=>none
theorem D3:eR [.ref l] S=IC S S[l]?:=by
 unfold eR IC;dsimp only<;>(generalize S[l]?=q;rcases q with _|o<;>first|rfl|(cases o<;>rfl))
theorem D4:IC S (some (.lst us))=some (.tup us,S):=rfl
theorem Bj:kj [.tup us] S=some (.ref S.length,S++[.lst us]):=rfl
def kLs(S:Sto):Option O->Option (U×Sto)
 |some (.lst us)=>some (.ref S.length,S++[.lst us])
 |_=>none
theorem Bk:kj [.ref l] S=kLs S S[l]?:=by
 unfold kj kLs;dsimp only<;>(generalize S[l]?=q;rcases q with _|o<;>first|rfl|(cases o<;>rfl))
theorem Bl:kLs S (some (.lst us))=some (.ref S.length,S++[.lst us]):=rfl
theorem En:Gw [.bl b] S=some (.int (if b then 1 else 0),S):=rfl
theorem ga{X:Sto}{n:Nat}:(S++X)[S.length+n]?=X[n]?:=by rw[QN (Nat.le_add_right _ _),Nat.add_sub_cancel_left]
theorem ga0{X:Sto}:(S++X)[S.length]?=X[0]?:=ga (n:=0)
theorem gs{X:Sto}{n:Nat}{o:O}:(S++X).set (S.length+n) o=S++X.set n o:=by rw[List.set_append_right _ _ (Nat.le_add_right _ _),Nat.add_sub_cancel_left]
theorem gs0{X:Sto}{o:O}:(S++X).set S.length o=S++X.set 0 o:=gs (n:=0)
section
variable{ok:Sto->Prop}{gg:CG}{cbd:CS}{ρ0 ρ1:Rho}{S0 S1:Sto}
theorem dE(h:ok S):cD ok gg cbd [] ρ S=some (.nx,ρ,S):=by unfold cD;rw[if_pos h]
theorem eD(h:ok S)(hg:gg u ρ S=some (ρ0,S0))(hb:cbd ρ0 S0=some (.nx,ρ1,S1)):cD ok gg cbd (u::us) ρ S=cD ok gg cbd us ρ1 S1:=by
 rw[cD];dsimp only;rw[if_pos h,hg,Q8];dsimp only;rw[hb,Q8]
theorem CY(h:ok S)(hg:gg u ρ S=some (ρ0,S0))(hb:cbd ρ0 S0=some (.rt x,ρ1,S1)):cD ok gg cbd (u::us) ρ S=some (.rt x,ρ1,S1):=by
 rw[cD];dsimp only;rw[if_pos h,hg,Q8];dsimp only;rw[hb,Q8]
theorem qE{n:Nat}(ht:t ρ S=some (true,S0))(hb:cbd ρ S0=some (.nx,ρ1,S1)):bZ t cbd (n+1) ρ S=bZ t cbd n ρ1 S1:=by
 rw[bZ];dsimp only;rw[ht,Q8];dsimp only;rw[if_pos rfl,hb,Q8]
theorem ym{n:Nat}(ht:t ρ S=some (true,S0))(hb:cbd ρ S0=some (.rt x,ρ1,S1)):bZ t cbd (n+1) ρ S=some (.rt x,ρ1,S1):=by
 rw[bZ];dsimp only;rw[ht,Q8];dsimp only;rw[if_pos rfl,hb,Q8]
theorem nB{n:Nat}(ht:t ρ S=some (false,S0)):bZ t cbd (n+1) ρ S=some (.nx,ρ,S0):=by
 rw[bZ];dsimp only;rw[ht,Q8];dsimp only;rw[if_neg (by decide)]
theorem kB{ce:CE}{ys:List U}(h:ok S)(hg:gg u ρ S=some (ρ0,S0))(he:ce ρ0 S0=some (x,S1))(hl:S1[l]?=some (.lst ys))(hn:ys.length<LIM):gq ok gg ce l (u::us) ρ S=gq ok gg ce l us ρ0 (S1.set l (.lst (ys++[x]))):=by
 rw[gq,if_pos h,hg,Q8];dsimp only;rw[he,Q8];dsimp only;rw[hl];dsimp only;rw[if_pos hn]
theorem mV{ce:CE}(h:ok S):gq ok gg ce l [] ρ S=some S:=by rw[gq,if_pos h]
end
end
theorem JH{p:List Value->Prop}(h:p [])(us:List Value)(e:us.length=0):p us:=by rw[List.length_eq_zero_iff.mp e];exact h
theorem Ka{n:Nat}{p:List Value->Prop}(h:∀a us,us.length=n->p (a::us))(us:List Value)(e:us.length=n+1):p us:=by
 cases us with
 |nil=>cases e
 |cons a us=>exact h a us (Nat.succ.inj e)
theorem rH{X:Cx}{pins:List (Addr×Obj)}{σ:L2.St}{H:Hp}{s:Shared}{a:Addr}{o u:HO}(I:Inv X pins σ H s)(e:H a=some o)(nt:∀xs,o≠.tup xs)(no:∀x,o≠.own x)(nb:∀ps,o≠.tbl ps)
  (nf:∀ob u,X.H₀ a≠some (.frz ob u)) (new:bx X.prog X.w (upd H a u) s.heap a u):Inv X pins σ (upd H a u) s:=by
 have nn:∀b,H b=none->upd H a u b=none:=fun b q=>by rw[aT (Ne.symm (bY e q))];exact q
 have ho:∀b x,H b=some (.own x)->upd H a u b=some (.own x):=fun b x q=>by
  rw[aT];exact q;intro z;subst z;rw[e]at q;cases q;exact no _ rfl
 have ht:∀b xs,H b=some (.tup xs)->upd H a u b=some (.tup xs):=fun b x q=>by
  rw[aT];exact q;intro z;subst z;rw[e]at q;cases q;exact nt _ rfl
 refine⟨I.ok,I.os,I.bare,⟨I.base.keep,I.base.slot,fun b ob q1 q2 q3=>nn _ (I.base.free b ob q1 q2 q3),I.base.there,fun b xs q=>ht _ _ (I.base.tups b xs q),fun b ob v q=>?_,fun b ps q=>?_⟩,I.loc,I.cell,nn _ I.free,fun x c q=>nn _ (I.freeC x c q),fun p hp=>?_,fun b v q=>?_,I.len⟩
 ·rw[aT];exact I.base.frzs b ob v q;intro z;subst z;exact nf _ _ q
 ·obtain⟨more,q'⟩:=I.base.tbls b ps q;refine⟨more,?_⟩;rw[aT];exact q';intro z;subst z;rw[e]at q';cases q';exact nb _ rfl
 ·obtain⟨p1,p2,p3⟩:=I.pin p hp;exact⟨p1,nn _ p2,p3⟩
 ·by_cases hb:b=a
  ·subst hb;rw[aF]at q;cases q;exact new
  ·rw[aT hb]at q;exact(I.hok b v q).stay (fun _ _ _ g=>g) (fun c g=>ho c b g) fun c xs g=>ht c xs g
def GG(X:Cx)(a:Addr):Prop:=∀ob u,X.H₀ a≠some (.frz ob u)
def kU:Key->U
 |.inl i=>.int i
 |.inr x=>.str x
theorem AK{K:Q4}{m:List Addr}{H:Hp}(k:Key):Is K m H (kV k) (kU k):=by
 cases k with
 |inl i=>exact .int_
 |inr x=>exact .str_
open Classical in
def uni{α:Type}(F:Nat->Option α):Option α:=if h:∃r,∀n,F n=some r then some h.choose else none
theorem EI{α:Type}{F:Nat->Option α}{r:α}(h:∀n,F n=some r):uni F=some r:=by
 have hx:∃r,∀n,F n=some r:=⟨r,h⟩;unfold uni;rw[dif_pos hx];have:=hx.choose_spec 0;rw[h 0]at this;exact this.symm
theorem yr{α:Type}{F:Nat->Option α}{r:α}(h:uni F=some r)(n:Nat):F n=some r:=by
 unfold uni at h;split at h
 ·rename_i hx;cases h;exact hx.choose_spec n
 ·cases h
end OP
namespace OG
open PySem PySem.Spec PyProof.Rows L2
def me(wi:TI)(g:TG)(tt:TT)(te:TE)(n:Nat)(caps:List Nat):TE:=fun σ H Q=>wi σ H fun J H1=>∀l,H1 l=none->∃W:Nat->Nat->L2.St->Hp->Prop,(∃m,W 0 m (stC n caps σ) (upd H1 l (.lst [])))/\
 ∀i m σ' H2,W i m σ' H2->(J.stop i H2/\Q (.ref l) H2)\/(J.go i H2/\∃N:L2.St->Hp->Prop,(∀σ'' H',N σ'' H'->∃m',m'<m/\W (i+1) m' σ'' H')/\
  ∀x H3,J.yld i H2 x H3->g x σ' H3 fun σ2 H4=>tt σ2 H4 fun b H5=>match b with
   |true=>te σ2 H5 fun v H6=>∃ys,H6 l=some (.lst ys)/\ys.length<sizeLine/\N σ2 (upd H6 l (.lst (ys++[v])))
   |false=>N σ2 H5)
theorem kR{prog:Program}{w:World}{A:Around}{R:Result->Shared->Prop}{s:Shared}{elt target iter c:Expr}{scope:Scope}{pos:Pos}{it acc:Value}{env:Env}(I:Nat->Shared->Prop)
  (turn:∀n s,I n s->wpAny (model prog w) A (pyNext it) (fun r s₁=>match r with
   |none=>R (.ok .next) s₁
   |some v=>wpAny (model prog w) A (letOwnedTupleGo target it v) (fun _ s₁'=>wpAny (model prog w) A (assign target env v) (fun _ s₂=>wpAny (model prog w) A (PySem.isTrue c env (eval c env)) (fun b s₂'=>match b with
    |true=>wpAny (model prog w) A (eval elt env) (fun x s₃=>
     wpAny (model prog w) A (call (.builtin "list.append") [acc,x]) (fun _ s₄=>∃m,m<n/\I m s₄) (fun _ _=>False) s₃)
     (fun _ _=>False) s₂'
    |false=>∃m,m<n/\I m s₂') (fun _ _=>False) s₂) (fun _ _=>False) s₁') (fun _ _=>False) s₁) (fun _ _=>False) s)
  (n:Nat) (h:I n s) :
  codeAny (model prog w) A (.compLoop (.ListComp elt [⟨target,iter,[c],0⟩] scope pos) 0 it acc env) R s:=by
 refine codeAny_loop rfl I (fun n s hI=>?_) n h;show wpAny _ _ ((compTurn (.ListComp elt [⟨target,iter,[c],0⟩] scope pos) 0 it acc env).onRaise (fun x=>do noteFrame x env;theTreesLotGoes x)) _ _ s;refine wpAny_noted ?_;rw[compTurn_list];refine Q0 (wpAny_standAt (Q0 (ZY (turn n s hI) (fun r s₁ h₁=>?_) fun _ _ h'=>h'.elim)));cases r with
 |none=>exact Q5 h₁
 |some v=>
  refine Q0 (ZY h₁ (fun _ s₁' h₁'=>?_) fun _ _ h'=>h'.elim);refine Q0 (ZY h₁' (fun _ s₂ h₂=>?_) fun _ _ h'=>h'.elim);dsimp only;simp only[Zh,Za,if_true,bind_assoc,pure_bind];refine Q0 (ZY h₂ (fun b s₂' h₂'=>?_) fun _ _ h'=>h'.elim);cases b with
  |true=>
   rw[if_pos rfl];exact Q0 (ZY h₂' (fun x s₃ h₃=>Q0 (ZY h₃
    (fun _ s₄ h₄=>Q5 ⟨rfl,h₄⟩) fun _ _ h'=>h'.elim)) fun _ _ h'=>h'.elim)
  |false=>
   rw[if_neg QM];exact Q5 ⟨rfl,h₂'⟩
theorem lO{X:Cx}{Nc capN tn:List Str}{scope:Scope}{cl:List (Str×Addr)}{n:Nat}{caps:List Nat}{tg iter elt:Expr}{pos:Pos}{wi:TI}{g:TG}{te:TE}{tt:TT}{c:Expr}
  (hc:X.calm=true) (hi:WI X tg iter wi) (hg:∀s3 H3 fp,WG (cxC X Nc scope cl s3 H3 fp) tg g) (he:∀s3 H3 fp,WE (cxC X Nc scope cl s3 H3 fp) elt te)
  (ht:∀s3 H3 fp,WT (cxC X Nc scope cl s3 H3 fp) c tt)
  (hclos:closureFor scope X.env=pure cl) (hkind:scope.kind=.function) (hnl:∀x∈scope.names,x.2=.local->scope.names.lookup x.1=some .local) (hcell:∀x∈scope.names,x.2≠.cell)
  (hcl:se X.env cl) (hhas:((relabel scope X.env).names.all fun p=>!(p.2 == .cell||p.2 == .free)||(cl.lookup p.1).isSome)=true)
  (hcap:Paired (Cap X scope cl) caps capN) (hN:Nc=tn++capN) (hn:tn.length=n)
  {use:Option (Value->Sem Unit)} {pins:List (Addr×Obj)} {σ:L2.St} {H:Hp} {s:Shared} {Q:VK} {Qf:Value->Shared->Prop} (I:Inv X pins σ H s) (h:me wi g tt te n caps σ H Q)
  (hend:∀(D C:Addr) (s6:Shared) (H5:Hp) (m:Str->Option Value),Inv X pins σ H5 s6->s6.heap.Ns C m->H5 C=none->C≠X.env.locals->X.s₀.heap.objs.size<=C->(∀x c,X.env.cells.lookup x=some c->c≠C)->(∀p∈X.pn++pins,p.1≠C)->Q (.ref D) H5->compPost (model X.prog X.w) X.A X.xe use Qf (.ref D) C (.ok .next) s6)
  (hs:∀x,foldedSetIterable iter X.env x=pure x) :
  wpAny (model X.prog X.w) X.A (comprehension (.ListComp elt [⟨tg,iter,[c],0⟩] scope pos) scope X.env (firstIterPos [⟨tg,iter,[c],0⟩] pos) (newList []) (firstAsync [⟨tg,iter,[c],0⟩]) (firstIter [⟨tg,iter,[c],0⟩] X.env) use) Qf X.xe s:=by
 refine wpAny_comprehension_free (use:=use) (g:=⟨tg,iter,[c],0⟩) (gs:=[]) rfl hs hclos hkind hnl (thn (hi.h pins s σ H _ I h) fun v s1 h1=>thn h1 fun itv s2 h2=>?_);obtain⟨it,fp,tnn,J,H2,rfl,I2,T,st2,f2,hW⟩:=h2;have hD:=I2.fresh;obtain⟨W,⟨m0,w0⟩,turn⟩:=hW _ hD;refine wpAny_newObj_type (wpAny_newFunctionEnv hcell (by intro y hy;simp at hy) (fun h₁ hns₁ hsb₁=>?_) hkind);dsimp only at hns₁ hsb₁ ⊢;have I3:Inv X pins σ (upd H2 s2.heap.objs.size (.lst [])) { s2 with heap:=s2.heap.push { cls:=.type "list",dict:=none,data:=.seq ([]:List Value).toArray },toks:=s2.toks }:=I2.lnew (its:=[]) .nil (ZQ _);generalize hs3:({ s2 with heap:=s2.heap.push { cls:=.type "list",dict:=none,data:=.seq ([]:List Value).toArray },toks:=s2.toks }:Shared)=s3 at I3;have es3:s3.heap=s2.heap.push { cls:=.type "list",dict:=none,data:=.seq ([]:List Value).toArray }:=by rw[<-hs3]
 generalize hDD:s2.heap.objs.size=D at *;have kept:∀b o,s3.heap.get? b=some o->h₁.get? b=some o:=fun b o e=>by
  have lt:=QX e;rw[es3]at lt e;exact hsb₁.extBut b o (QL lt) (Q3 _ e)
 have old:∀b o,s2.heap.get? b=some o->s3.heap.get? b=some o:=fun b o e=>by rw[es3];exact Q3 _ e
 have ltD:∀b∈fp,b<D:=fun b hb=>by
  obtain⟨o,e,_⟩:=T.obj 0 _ st2 b hb;rw[<-hDD];exact QX e
 have fo:∀b∈fp,b<s3.heap.objs.size:=fun b hb=>by
  obtain⟨o,e,_⟩:=T.obj 0 _ st2 b hb;exact QX (old _ _ e)
 have f3:∀b∈fp,tV X pins (upd H2 D (.lst [])) b:=fun b hb=>by
  refine⟨?_,(f2 b hb).2⟩;rw[aT (QL (ltD b hb))];exact(f2 b hb).1
 rw[<-es3]at hns₁ hsb₁ ⊢;have Ic:=fun t'=>Inv.comp (h1:=h₁) (t':=t') (Nc:=Nc) (n:=n) I3 hc f3 fo hkind hcl hhas hcap tn hN hn hns₁ kept;have stat:∀{H':Hp},(∀b∈fp,H' b=none)->∀b∈fp,tV (cxC X Nc scope cl s3 (upd H2 D (.lst [])) fp) [] H' b:=fun hn' b hb=>by
  refine⟨hn' b hb,QL (fo b hb),fun z=>?_,.inl hb,fun x c e=>(f2 b hb).2.2.2.2.1 x c (hcl.look e),fun p hp=>(by simp at hp)⟩;rcases QH.mp (I3.stkSub b z)with q|q
  ·exact(f2 b hb).2.1 q
  ·exact(f2 b hb).2.2.1 q
 have loop:∀s4:Shared,(∃t',s4={ s3 with heap:=h₁,toks:=t' })->codeAny (model X.prog X.w) X.A (.compLoop (.ListComp elt [⟨tg,iter,[c],0⟩] scope pos) 0 (.ref it) (.ref D) (compEnvC scope cl s3.heap.objs.size X.env))
   (compPost (model X.prog X.w) X.A X.xe use Qf (.ref D) s3.heap.objs.size) s4:=by
  rintro s4 ⟨t',rfl⟩;refine kR (fun n' s'=>∃i σ' H',Inv (cxC X Nc scope cl s3 (upd H2 D (.lst [])) fp) [] σ' H' s'/\tnn i s'.heap/\(∀b∈fp,H' b=none)/\W i n' σ' H') ?_ m0
   ⟨0,_,_,Ic t',T.keep 0 _ _ st2 fun b hb o e=>kept _ _ (old _ _ e),fun b hb=>(f3 b hb).1,w0⟩
  rintro n' s5 ⟨i,σ5,H5,I5,st5,fr5,w5⟩;rcases turn i n' σ5 H5 w5 with⟨stop,qn⟩|⟨go,N,hN',step⟩
  ·refine thn (T.done (cxC X Nc scope cl s3 (upd H2 D (.lst [])) fp) rfl rfl rfl hc i [] s5 σ5 H5 (fun _ _=>False) I5 (stat fr5) st5 stop) fun r s6 ⟨hr,I6⟩=>?_;subst hr;obtain⟨m,hm,_⟩:=I6.loc;have I7:Inv X pins σ H5 s6:=Inv.call' (ch:=fp) I3 I6.os I6.base I6.hok I6.bare fun b hb=>⟨(f2 b hb).2.2.2.1,(f2 b hb).2.1,(f2 b hb).2.2.2.2.1,(f2 b hb).2.2.2.2.2⟩;exact hend D _ s6 H5 m I7 hm I6.free (Ne.symm (QL I3.lt)) I3.sz (fun x c e=>by
     obtain⟨v',o,ho,_⟩:=I3.cell x c e;exact QL (QX ho)) (fun p hp=>QL (QX (I3.pin p hp).1)) qn
  ·refine thn (T.item (cxC X Nc scope cl s3 (upd H2 D (.lst [])) fp) rfl rfl rfl hc i [] s5 σ5 H5 (fun _ _=>False) I5 (stat fr5) st5 go) fun r s6 ⟨u,hr,h6⟩=>?_;subst hr;refine thn h6 fun _ s7 hz=>?_;obtain⟨x,H7,I7,r7,y7,st7,fr7⟩:=hz;have I7':=I7.pinned (stat fr7) (T.obj _ _ st7);refine thn ((hg s3 (upd H2 D (.lst [])) fp).h _ s7 σ5 H7 x u _ I7' r7 (step x H7 y7)) fun _ s8 hz=>?_;obtain⟨σ8,H8,I8,q8⟩:=hz;have fin:∀{s10:Shared} {H10:Hp},Inv (cxC X Nc scope cl s3 (upd H2 D (.lst [])) fp) _ σ8 H10 s10->N σ8 H10->∃m',m'<n'/\∃i' σ' H',Inv (cxC X Nc scope cl s3 (upd H2 D (.lst [])) fp) [] σ' H' s10/\tnn i' s10.heap/\(∀b∈fp,H' b=none)/\W i' m' σ' H':=fun{s10 H10} I10 q10=>by
    obtain⟨m',hm,w10⟩:=hN' σ8 H10 q10;refine⟨m',hm,i+1,σ8,H10,Inv.unpinned I10,T.keep _ _ _ st7 fun b hb o e=>(Inv.pin I10 (b,o) (Qm _ (Qm _ (cY hb e)))).1,fun b hb=>?_,w10⟩;obtain⟨o,e,d⟩:=T.obj _ _ st7 b hb;exact(Inv.pin I10 (b,o) (Qm _ (Qm _ (cY hb e)))).2.1
   refine thn ((ht s3 (upd H2 D (.lst [])) fp).h _ s8 σ8 H8 _ I8 q8) fun b9 s9' h9=>?_;obtain⟨H9',I9',q9'⟩:=h9;cases b9 with
   |false=>exact fin I9' q9'
   |true=>
    refine thn ((he s3 (upd H2 D (.lst [])) fp).h _ s9' σ8 H9' _ I9' q9') fun v9 s9 hz=>?_;obtain⟨x9,H9,I9,r9,ys,hy,hlt,q9⟩:=hz;exact thn (jT (X:=cxC X Nc scope cl s3 (upd H2 D (.lst [])) fp) _ s9 σ8 H9 (.ref D) [x9] (.ref D) [v9] (fun _ H'=>N σ8 H') I9 rfl (.cons r9 .nil) ⟨D,ys,x9,rfl,rfl,hy,hlt,q9⟩) fun _ s10 ⟨_,H10,I10,_,q10⟩=>fin I10 q10
 have e4:∀t',({ s2 with heap:=h₁,toks:=t' }:Shared)={ s3 with heap:=h₁,toks:=t' }:=fun t'=>by rw[<-hs3]
 refine codeAny_compStart_list (loop _ ⟨_,e4 _⟩) (T.self _ 0 _ _ _ (T.keep 0 _ _ st2 fun b hb o e=>kept _ _ (old _ _ e)) (loop _ ⟨_,e4 _⟩))
theorem sj{X:Cx}{Nc capN tn:List Str}{scope:Scope}{cl:List (Str×Addr)}{n:Nat}{caps:List Nat}{tg iter elt:Expr}{pos:Pos}{wi:TI}{g:TG}{te:TE}{tt:TT}{c:Expr}
  (hc:X.calm=true) (hi:WI X tg iter wi) (hg:∀s3 H3 fp,WG (cxC X Nc scope cl s3 H3 fp) tg g) (he:∀s3 H3 fp,WE (cxC X Nc scope cl s3 H3 fp) elt te)
  (ht:∀s3 H3 fp,WT (cxC X Nc scope cl s3 H3 fp) c tt)
  (hclos:closureFor scope X.env=pure cl) (hkind:scope.kind=.function) (hnl:∀x∈scope.names,x.2=.local->scope.names.lookup x.1=some .local) (hcell:∀x∈scope.names,x.2≠.cell)
  (hcl:se X.env cl) (hhas:((relabel scope X.env).names.all fun p=>!(p.2 == .cell||p.2 == .free)||(cl.lookup p.1).isSome)=true)
  (hcap:Paired (Cap X scope cl) caps capN) (hN:Nc=tn++capN) (hn:tn.length=n)
  (hs:∀x,foldedSetIterable iter X.env x=pure x:=by intro _;rfl) :
  WE X (.ListComp elt [⟨tg,iter,[c],0⟩] scope pos) (me wi g tt te n caps):=by
 constructor;intro pins s σ H Q I h;rw[eval_ListComp];refine lO hc hi hg he ht hclos hkind hnl hcell hcl hhas hcap hN hn I h (fun D C s6 H5 m I7 hm fr nl sz cn pn qn=>⟨m,hm,fun h' hs'=>?_⟩) hs;exact⟨.ref D,H5,I7.turned (t':=s6.toks) (it:=C) (fun b o hb e=>hs'.extBut b o hb e) fr nl (.inr sz) cn pn,rfl,qn⟩
end OG
namespace OP
open PySem PySem.Spec PyProof.Rows L2 OG
open Classical in
def bL(ok:Sto->Prop)(g:CG)(ct:CT)(ce:CE)(l:Nat):List U->Rho->Sto->Option Sto
 |[],_,S=>if ok S then some S else none
 |u::us,ρ,S=>if ok S then(g u ρ S).bind fun p=>(ct p.1 p.2).bind fun q=>if q.1=true then(ce p.1 q.2).bind fun r=>match r.2[l]? with
  |some (.lst ys)=>if ys.length<LIM then bL ok g ct ce l us p.1 (r.2.set l (.lst (ys++[r.1])))else none
  |_=>none else bL ok g ct ce l us p.1 q.2 else none
def aW(ci:CI)(g:CG)(ct:CT)(ce:CE)(n:Nat)(caps:List Nat):CE:=fun ρ S=>(ci ρ S).bind fun p=>(bL p.2.1 g ct ce p.2.2.length p.1 (jM n caps ρ) (p.2.2++[.lst []])).bind fun S'=>some (.ref p.2.2.length,S')
section
variable{X:Cx}{K:Q4}
theorem qf{g:CG}{ct:CT}{ce:CE}{n:Nat}{caps:List Nat}{J:It}{us:List U}{ok:Sto->Prop}{Q:VK}{m1:List Addr}{H1:Hp}{S1 S':Sto}{ρ:Rho}{σ:L2.St}{l:Addr}(sr1:Sr K m1 S1 H1)(lr:Lr K m1 H1 ρ σ)(ito:Aj K J m1 H1 us ok)(hl:H1 l=none)(h2:bL ok g ct ce S1.length us (jM n caps ρ) (S1++[.lst []])=some S')
  (post:∀m2 H2,Ext K (m1++[l]) (upd H1 l (.lst [])) m2 H2->Sr K m2 S' H2->Q (.ref l) H2) :
  ∃W:Nat->Nat->L2.St->Hp->Prop,(∃m,W 0 m (OG.stC n caps σ) (upd H1 l (.lst [])))/\
 ∀i m σ' H2,W i m σ' H2->(J.stop i H2/\Q (.ref l) H2)\/(J.go i H2/\∃N:L2.St->Hp->Prop,(∀σ'' H',N σ'' H'->∃m',m'<m/\W (i+1) m' σ'' H')/\
  ∀x H3,J.yld i H2 x H3->tG K g x σ' H3 fun σ2 H4=>tT K ct σ2 H4 fun b H5=>match b with
   |true=>tE K ce σ2 H5 fun v H6=>∃ys,H6 l=some (.lst ys)/\ys.length<sizeLine/\N σ2 (upd H6 l (.lst (ys++[v])))
   |false=>N σ2 H5):=by
 have ee:Ext K m1 H1 (m1++[l]) (upd H1 l (.lst [])):=.new (bc hl _);let W:Nat->Nat->L2.St->Hp->Prop:=fun i k σ2 H2=>k=us.length-i/\i<=us.length/\∃m2 ρ2 S2,Ext K (m1++[l]) (upd H1 l (.lst [])) m2 H2/\Sr K m2 S2 H2/\Lr K m2 H2 ρ2 σ2/\bL ok g ct ce S1.length (us.drop i) ρ2 S2=some S'
 refine⟨W,⟨us.length,by simp,ZQ _,m1++[l],jM n caps ρ,S1++[.lst []],.refl,sr1.new (o:=.lst []) hl ⟨[],aF,.nil_⟩,vT (lr.mono ee),by simpa using h2⟩,?_⟩;rintro i k σ2 H2 ⟨rfl,hi,m2,ρ2,S2,e2,sr2,lr2,hl2⟩;by_cases hlt:i<us.length
 ·have hu:=Q6 hlt;rw[ku hu]at hl2;unfold bL at hl2;split at hl2
  ·rename_i hok;obtain⟨⟨ρ3,S3⟩,h3,hl2⟩:=Q2.mp hl2;obtain⟨⟨b4,S4⟩,h4,hl2⟩:=Q2.mp hl2;obtain⟨hgo,hy⟩:=(ito m2 S2 H2 i (ee.trans e2) sr2 hok).1 _ hu;refine .inr ⟨hgo,W (i+1) (us.length-(i+1)),fun σ' H' w'=>⟨_,by omega,w'⟩,fun x H3 y=>?_⟩;obtain⟨e3,sr3,ix⟩:=hy x H3 y;refine⟨m2,ρ2,S2,_,ρ3,S3,sr3,lr2.mono e3,ix,h3,fun m4 σ4 H4 e4 sr4 lr4=>⟨m4,ρ3,S3,b4,S4,sr4,lr4,h4,fun m4' H4' e4' sr4'=>?_⟩⟩;cases b4 with
   |false=>
    rw[if_neg QM]at hl2;exact⟨rfl,hlt,m4',ρ3,_,(((e2.trans e3).trans e4).trans e4'),sr4',lr4.mono e4',hl2⟩
   |true=>
    rw[if_pos rfl]at hl2;obtain⟨⟨u5,S5⟩,h5,hl2⟩:=Q2.mp hl2;simp only at hl2;split at hl2<;>try cases hl2
    rename_i ys hys;split at hl2<;>try cases hl2
    rename_i hlen;refine⟨m4',ρ3,S4,u5,S5,sr4',lr4.mono e4',h5,fun m5 v5 H5 e5 sr5 i5=>?_⟩;obtain⟨a',ha',xs,hx,il⟩:=sr5.get hys;have ha:m5[S1.length]?=some l:=((((e2.trans e3).trans e4).trans e4').trans e5).get (b6 sr1.len);rw[ha]at ha';cases ha';have eu:Ext K m5 H5 m5 (upd H5 l (.lst (xs++[v5]))):=.of (sr5.keep ha _);exact⟨xs,hx,F0 (by rw[il.length];exact hlen),rfl,hlt,m5,ρ3,_,(((((e2.trans e3).trans e4).trans e4').trans e5).trans eu),sr5.put (o:=.lst (ys++[u5])) ha ⟨_,aF,(il.append (.cons_ i5 .nil_)).mono eu⟩,(lr4.mono ((e4'.trans e5).trans eu)),hl2⟩
  ·cases hl2
 ·have e:i=us.length:=by omega
  subst e;rw[List.drop_length]at hl2;unfold bL at hl2;split at hl2
  ·rename_i hok;cases hl2;exact .inl ⟨(ito m2 _ H2 _ (ee.trans e2) sr2 hok).2 (QJ _),post m2 H2 e2 sr2⟩
  ·cases hl2
theorem lN{ci:CI}{g:CG}{ct:CT}{ce:CE}{n:Nat}{caps:List Nat}:∀σ H Q,tE K (aW ci g ct ce n caps) σ H Q->me (tI K ci) (tG K g) (tT K ct) (tE K ce) n caps σ H Q:=by
 rintro σ H Q ⟨m,ρ,S,u,S',sr,lr,hc,post⟩;obtain⟨⟨us,ok,S1⟩,h1,h2⟩:=Q2.mp hc;obtain⟨S2,h2,h3⟩:=Q2.mp h2;cases h3;refine⟨m,ρ,S,us,ok,S1,sr,lr,h1,fun m1 H1 J e1 sr1 ito l hl=>?_⟩;have ee:Ext K m1 H1 (m1++[l]) (upd H1 l (.lst [])):=.new (bc hl _);exact qf sr1 (lr.mono e1) ito hl h2 fun m2 H2 e2 sr2=>post m2 _ H2 ((e1.trans ee).trans e2) sr2 (.ref_ (e2.get (b6 sr1.len)))
theorem fH{Nc capN tn:List Str}{scope:Scope}{cl:List (Str×Addr)}{n:Nat}{caps:List Nat}{tg iter elt:Expr}{pos:Pos}{ci:CI}{g:CG}{ct:CT}{ce:CE}{c:Expr}
  (hc:X.calm=true) (hi:QI X tg iter ci) (hg:∀s3 H3 fp,WG (cxC X Nc scope cl s3 H3 fp) tg (tG X.K g)) (ht:∀s3 H3 fp,WT (cxC X Nc scope cl s3 H3 fp) c (tT X.K ct)) (he:∀s3 H3 fp,WE (cxC X Nc scope cl s3 H3 fp) elt (tE X.K ce))
  (hclos:closureFor scope X.env=pure cl) (hkind:scope.kind=.function) (hnl:∀x∈scope.names,x.2=.local->scope.names.lookup x.1=some .local) (hcell:∀x∈scope.names,x.2≠.cell)
  (hcl:se X.env cl) (hhas:((relabel scope X.env).names.all fun p=>!(p.2 == .cell||p.2 == .free)||(cl.lookup p.1).isSome)=true)
  (hcap:Paired (Cap X scope cl) caps capN) (hN:Nc=tn++capN) (hn:tn.length=n)
  (hs:∀x,foldedSetIterable iter X.env x=pure x:=by intro _;rfl) :
  QE X (.ListComp elt [⟨tg,iter,[c],0⟩] scope pos) (aW ci g ct ce n caps):=(sj hc hi hg he ht hclos hkind hnl hcell hcl hhas hcap hN hn hs).imp lN
end
end OP
namespace OP
open PySem PySem.Spec PyProof PyProof.Rows L2 OG
mutual
inductive RdV(K:Q4)(H:Hp):V->PyData->Prop
 |non:RdV K H .non .none
 |bl (b:Bool):RdV K H (.bl b) (.bool b)
 |int (i:Int):RdV K H (.int i) (.int i)
 |str (x:Str):RdV K H (.str x) (.str x)
 |lst {a:Addr} {xs:List V} {ds:List PyData}:SqL K H a xs->xH K H xs ds->RdV K H (.ref a) (.list ds)
 |tup {a:Addr} {xs:List V} {ds:List PyData}:SqT K H a xs->xH K H xs ds->RdV K H (.ref a) (.tuple ds)
inductive xH(K:Q4)(H:Hp):List V->List PyData->Prop
 |nil:xH K H [] []
 |cons {x:V} {xs:List V} {d:PyData} {ds:List PyData}:RdV K H x d->xH K H xs ds->xH K H (x::xs) (d::ds)
end
mutual
inductive Dt(S:Sto):U->PyData->Prop
 |non:Dt S .non .none
 |bl (b:Bool):Dt S (.bl b) (.bool b)
 |int (i:Int):Dt S (.int i) (.int i)
 |str (x:Str):Dt S (.str x) (.str x)
 |lst {l:Nat} {us:List U} {ds:List PyData}:S[l]?=some (.lst us)->DtL S us ds->Dt S (.ref l) (.list ds)
 |tup {us:List U} {ds:List PyData}:DtL S us ds->Dt S (.tup us) (.tuple ds)
inductive DtL(S:Sto):List U->List PyData->Prop
 |nil:DtL S [] []
 |cons {x:U} {xs:List U} {d:PyData} {ds:List PyData}:Dt S x d->DtL S xs ds->DtL S (x::xs) (d::ds)
end
section
variable{X:Cx}{K:Q4}{pins:List (Addr×Obj)}{σ:L2.St}{H:Hp}{s:Shared}
mutual
theorem RdV.reads(I:Inv X pins σ H s):∀{x:V} {d:PyData} {v:Value},RdV X.K H x d->bP x v->∃as,Reads s.heap v d as
 |_,_,_,.non,r=>by cases r;exact⟨_,.none⟩
 |_,_,_,.bl b,r=>by cases r;exact⟨_,.bool b⟩
 |_,_,_,.int i,r=>by obtain⟨t,rfl⟩:=r;exact⟨_,.int i t⟩
 |_,_,_,.str i,r=>by obtain⟨t,rfl⟩:=r;exact⟨_,.str i t⟩
 |_,_,_,.lst (a:=a) h t,r=>by
  cases r;obtain⟨its,rv,pl,_⟩:=I.list h;obtain⟨as,k⟩:=xH.reads I t rv;obtain⟨o,h1,h2,n,h3⟩:=pl.isList;exact⟨_,.list h1 h2 h3 (by simpa using k)⟩
 |_,_,_,.tup (a:=a) h t,r=>by
  cases r;obtain⟨its,rv,pl,_⟩:=I.tuple h;obtain⟨as,k⟩:=xH.reads I t rv;obtain⟨o,h1,h2,n,h3⟩:=pl;exact⟨_,.tuple h1 h2 h3 (by simpa using k)⟩
theorem xH.reads(I:Inv X pins σ H s):∀{xs:List V} {ds:List PyData} {vs:List Value},xH X.K H xs ds->a5 xs vs->∃as,ReadsAll s.heap vs ds as
 |_,_,_,.nil,r=>by cases r;exact⟨_,.nil⟩
 |_,_,_,.cons h t,.cons r rs=>by
  obtain⟨as,a⟩:=RdV.reads I h r;obtain⟨bs,b⟩:=xH.reads I t rs;exact⟨_,.cons a b⟩
end
mutual
theorem Dt.rd{m:List Addr}{S:Sto}(sr:Sr K m S H):∀{u:U} {d:PyData} {v:V},Dt S u d->Is K m H v u->RdV K H v d
 |_,_,_,.non,i=>by rw[i.of_non];exact .non
 |_,_,_,.bl b,i=>by rw[i.of_bl];exact .bl b
 |_,_,_,.int b,i=>by rw[i.of_int];exact .int b
 |_,_,_,.str b,i=>by rw[i.of_str];exact .str b
 |_,_,_,.lst h t,i=>by
  obtain⟨a,ha,rfl⟩:=i.of_ref;obtain⟨a',ha',xs,hx,il⟩:=sr.get h;rw[ha]at ha';cases ha';exact .lst (SqL.of hx) (DtL.rd sr t il)
 |_,_,_,.tup t,i=>by
  obtain⟨a,xs,rfl,sa,la⟩:=i.of_tup;exact .tup sa (DtL.rd sr t la)
theorem DtL.rd{m:List Addr}{S:Sto}(sr:Sr K m S H):∀{us:List U} {ds:List PyData} {vs:List V},DtL S us ds->IsL K m H vs us->xH K H vs ds
 |_,_,_,.nil,i=>by rw[i.of_nil];exact .nil
 |_,_,_,.cons h t,i=>by
  obtain⟨x,r,rfl,i1,i2⟩:=i.of_cons;exact .cons (Dt.rd sr h i1) (DtL.rd sr t i2)
end
mutual
theorem Dt.uniq{S:Sto}:∀{u:U} {d e:PyData},Dt S u d->Dt S u e->d=e
 |_,_,_,.non,.non=>rfl
 |_,_,_,.bl _,.bl _=>rfl
 |_,_,_,.int _,.int _=>rfl
 |_,_,_,.str _,.str _=>rfl
 |_,_,_,.lst h t,.lst h' t'=>by
  rw[h]at h';cases h';rw[DtL.uniq t t']
 |_,_,_,.tup t,.tup t'=>by rw[DtL.uniq t t']
theorem DtL.uniq{S:Sto}:∀{us:List U} {ds es:List PyData},DtL S us ds->DtL S us es->ds=es
 |_,_,_,.nil,.nil=>rfl
 |_,_,_,.cons h t,.cons h' t'=>by rw[Dt.uniq h h',DtL.uniq t t']
end
def qt(d:PyData):Prop:=d.canLay0=true/\d.depth<=60
def HS(K:Q4)(neg:Bool):R2:=fun x y H Q=>(∃dx dy,RdV K H x dx/\RdV K H y dy/\qt dx/\qt dy/\Q (.bl (if neg then !dx.eqv dy else dx.eqv dy)) H)\/
 ∃a b xs ys,x=.ref a/\y=.ref b/\SqL K H a xs/\SqL K H b ys/\xs.length≠ys.length/\Q (.bl neg) H
theorem AE(hu:X.A.units+64<cLine):OpR X (compareOp .Eq) (HS X.K false):=by
 rintro pins s σ H x y v u Q I rx ry (⟨dx,dy,hx,hy,lx,ly,q⟩|⟨a,b,xs,ys,rfl,rfl,ha,hb,ne,q⟩)
 ·obtain⟨as,hx⟩:=hx.reads I rx;obtain⟨bs,hy⟩:=hy.reads I ry;exact SeqAt.compareEq_reads hx hy lx.1 ly.1 (by have:=lx.2;omega) ⟨.bl _,H,I,rfl,q⟩
 ·cases rx;cases ry;obtain⟨i1,r1,p1,_⟩:=I.list ha;obtain⟨i2,r2,p2,_⟩:=I.list hb;have l1:=r1.length;have l2:=r2.length;exact SeqAt.RcAt.lists_lengths p1.isList p2.isList (by simp;omega) (by omega) X.prog X.w X.xe _ ⟨.bl false,H,I,rfl,q⟩
theorem nZ(hu:X.A.units+64<cLine):OpR X (compareOp .NotEq) (HS X.K true):=by
 rintro pins s σ H x y v u Q I rx ry (⟨dx,dy,hx,hy,lx,ly,q⟩|⟨a,b,xs,ys,rfl,rfl,ha,hb,ne,q⟩)
 ·obtain⟨as,hx⟩:=hx.reads I rx;obtain⟨bs,hy⟩:=hy.reads I ry;exact SeqAt.compareNe_reads hx hy lx.1 ly.1 (by have:=lx.2;omega) ⟨.bl _,H,I,rfl,q⟩
 ·cases rx;cases ry;obtain⟨i1,r1,p1,_⟩:=I.list ha;obtain⟨i2,r2,p2,_⟩:=I.list hb;have l1:=r1.length;have l2:=r2.length;exact SeqAt.RcNeAt.lists_lengths p1.isList p2.isList (by simp;omega) (by omega) X.prog X.w X.xe _ ⟨.bl true,H,I,rfl,q⟩
def xV(x y:U)(S:Sto)(b:Bool):Prop:=(∃dx dy,Dt S x dx/\Dt S y dy/\qt dx/\qt dy/\b=dx.eqv dy)\/∃l l' us vs,x=.ref l/\y=.ref l'/\S[l]?=some (.lst us)/\S[l']?=some (.lst vs)/\us.length≠vs.length/\b=false
theorem DtL.length{S:Sto}:∀{us:List U} {ds:List PyData},DtL S us ds->us.length=ds.length
 |_,_,.nil=>rfl
 |_,_,.cons _ t=>by rw[QB,QB,DtL.length t]
theorem xV.mix{l l':Nat}{us vs:List U}{S:Sto}{dx dy:PyData}(h1:Dt S (.ref l) dx)(h2:Dt S (.ref l') dy)(k1:S[l]?=some (.lst us))(k2:S[l']?=some (.lst vs))(ne:us.length≠vs.length):dx.eqv dy=false:=by
 cases h1 with
 |lst a1 t1=>
  cases h2 with
  |lst a2 t2=>
   rw[k1]at a1;cases a1;rw[k2]at a2;cases a2;show PyData.eqvAll _ _=false;exact SeqAt.eqvAll_other_length (by rw[<-t1.length,<-t2.length];exact ne)
theorem xV.uniq{x y:U}{S:Sto}{b c:Bool}(h:xV x y S b)(k:xV x y S c):b=c:=by
 rcases h with⟨dx,dy,h1,h2,_,_,rfl⟩|⟨l,l',us,vs,rfl,rfl,h1,h2,ne,rfl⟩
 ·rcases k with⟨ex,ey,k1,k2,_,_,rfl⟩|⟨l,l',us,vs,rfl,rfl,k1,k2,ne,rfl⟩
  ·rw[h1.uniq k1,h2.uniq k2]
  ·exact xV.mix h1 h2 k1 k2 ne
 ·rcases k with⟨ex,ey,k1,k2,_,_,rfl⟩|⟨_,_,_,_,_,_,_,_,_,rfl⟩
  ·exact(xV.mix k1 k2 h1 h2 ne).symm
  ·rfl
open Classical in
def nk(neg:Bool):U->U->Sto->Option (U×Sto):=fun x y S=>if h:∃b,xV x y S b then some (.bl (if neg then !h.choose else h.choose),S)else none
theorem p6{x y:U}{S:Sto}{b:Bool}(neg:Bool)(h:xV x y S b):nk neg x y S=some (.bl (if neg then !b else b),S):=by
 unfold nk;rw[dif_pos ⟨b,h⟩];have e:(⟨b,h⟩:∃b,xV x y S b).choose=b:=(Exists.choose_spec (⟨b,h⟩:∃b,xV x y S b)).uniq h;rw[e]
theorem pK{neg:Bool}:OpP K (HS K neg) (nk neg):=by
 intro m S H x y v w u S' Q sr ix iy hf post;unfold nk at hf;split at hf<;>try cases hf
 rename_i h;have hb:=h.choose_spec;generalize h.choose=b at hb post;rcases hb with⟨dx,dy,h1,h2,l1,l2,rfl⟩|⟨l,l',us,vs,rfl,rfl,h1,h2,ne,rfl⟩
 ·exact .inl ⟨dx,dy,h1.rd sr ix,h2.rd sr iy,l1,l2,post m _ H .refl sr .bl_⟩
 ·obtain⟨a,ha,rfl⟩:=ix.of_ref;obtain⟨a',ha',xs,hx,la⟩:=sr.get h1;rw[ha]at ha';cases ha';obtain⟨c,hc,rfl⟩:=iy.of_ref;obtain⟨c',hc',ys,hy,lc⟩:=sr.get h2;rw[hc]at hc';cases hc';refine .inr ⟨a,c,xs,ys,rfl,rfl,SqL.of hx,SqL.of hy,by rw[la.length,lc.length];exact ne,?_⟩;have e:(if neg=true then !false else false)=neg:=by cases neg<;>rfl
  have:=post m _ H .refl sr (Is.bl_ (b:=if neg=true then !false else false));rw[e]at this;exact this
def HR(K:Q4)(neg:Bool):R2:=fun x y H Q=>∃dx dys,RdV K H x dx/\(RdV K H y (.list dys)\/RdV K H y (.tuple dys))/\qt dx/\PyData.canLayAll0 dys=true/\Q (.bl (if neg then !(dys.any fun z=>z.eqv dx)else dys.any fun z=>z.eqv dx)) H
theorem FO(hu:X.A.units+64<cLine):OpR X (compareOp .In) (HR X.K false):=by
 rintro pins s σ H x y v u Q I rx ry ⟨dx,dys,hx,hy,lx,ly,q⟩;obtain⟨as,hx⟩:=hx.reads I rx;rcases hy with hy|hy
 ·obtain⟨bs,hy⟩:=hy.reads I ry;exact SeqAt.in_list_reads hy hx ly lx.1 (by have:=lx.2;omega) ⟨.bl _,H,I,rfl,q⟩
 ·obtain⟨bs,hy⟩:=hy.reads I ry;exact SeqAt.in_tuple_reads hy hx ly lx.1 (by have:=lx.2;omega) ⟨.bl _,H,I,rfl,q⟩
def DP(x y:U)(S:Sto)(b:Bool):Prop:=∃dx dys,Dt S x dx/\(Dt S y (.list dys)\/Dt S y (.tuple dys))/\qt dx/\PyData.canLayAll0 dys=true/\b=dys.any fun z=>z.eqv dx
theorem DP.uniq{x y:U}{S:Sto}{b c:Bool}(h:DP x y S b)(k:DP x y S c):b=c:=by
 obtain⟨dx,dy,h1,h2,_,_,rfl⟩:=h;obtain⟨ex,ey,k1,k2,_,_,rfl⟩:=k;rw[h1.uniq k1];rcases h2 with h2|h2<;>rcases k2 with k2|k2<;>cases h2.uniq k2<;>rfl
open Classical in
def AQ(neg:Bool):U->U->Sto->Option (U×Sto):=fun x y S=>if h:∃b,DP x y S b then some (.bl (if neg then !h.choose else h.choose),S)else none
theorem wL{x y:U}{S:Sto}{b:Bool}(neg:Bool)(h:DP x y S b):AQ neg x y S=some (.bl (if neg then !b else b),S):=by
 unfold AQ;rw[dif_pos ⟨b,h⟩];have e:(⟨b,h⟩:∃b,DP x y S b).choose=b:=(Exists.choose_spec (⟨b,h⟩:∃b,DP x y S b)).uniq h;rw[e]
theorem FJ{neg:Bool}:OpP K (HR K neg) (AQ neg):=by
 intro m S H x y v w u S' Q sr ix iy hf post;unfold AQ at hf;split at hf<;>try cases hf
 rename_i h;have hb:=h.choose_spec;generalize h.choose=b at hb post;obtain⟨dx,dy,h1,h2,l1,l2,rfl⟩:=hb;exact⟨dx,dy,h1.rd sr ix,h2.elim (fun z=>.inl (z.rd sr iy)) (fun z=>.inr (z.rd sr iy)),l1,l2,post m _ H .refl sr .bl_⟩
def oI(us:List U)(lo hi:Option Int):List U:=(us.drop (HT.sIx us.length 0 lo)).take (HT.sIx us.length us.length hi-HT.sIx us.length 0 lo)
theorem rN{m:List Addr}{xs:List V}{us:List U}{lo hi:Option Int}(i:IsL K m H xs us):IsL K m H (AX xs lo hi) (oI us lo hi):=by
 unfold AX oI;rw[i.length];exact(i.drop _).take _
def fSl(x:U)(lo hi:Option Int)(S:Sto):Option (U×Sto):=match x with
 |.tup us=>if HT.sIx us.length 0 lo=0/\HT.sIx us.length us.length hi=us.length then none else some (.tup (oI us lo hi),S)
 |.ref l=>match S[l]? with
  |some (.lst us)=>some (.ref S.length,S++[.lst (oI us lo hi)])
  |_=>none
 |_=>none
def gB:Option CE->Rho->Sto->Option (Option Int×Sto)
 |none,_,S=>some (none,S)
 |some c,ρ,S=>(c ρ S).bind fun p=>match p.1 with
  |.int i=>some (some i,p.2)
  |_=>none
def cSl(ca:CE)(cl ch:Option CE):CE:=fun ρ S=>(ca ρ S).bind fun p=>(gB cl ρ p.2).bind fun q=>(gB ch ρ q.2).bind fun r=>fSl p.1 q.1 r.1 r.2
def Ja(K:Q4)(m:List Addr)(H:Hp)(Q:Option Int->Hp->Prop)(o:Option Int)(S':Sto):Prop:=∀m' H',Ext K m H m' H'->Sr K m' S' H'->Q o H'
def tO(K:Q4)(c:Option CE):TO:=fun σ H Q=>∃m ρ S o S',Sr K m S H/\Lr K m H ρ σ/\gB c ρ S=some (o,S')/\Ja K m H Q o S'
abbrev QO(X:Cx)(e:Option Expr)(c:Option CE):Prop:=WO X e (tO X.K c)
theorem dJ:QO X none none:=⟨fun pins s σ H Q I hz=>iA hz fun m ρ S o S' sr lr hc post=>ye.h pins s σ H Q I (by cases hc;exact post m H .refl sr)⟩
theorem dI{e:Expr}{ca:CE}(h:QE X e ca):QO X (some e) (some ca):=⟨fun pins s σ H Q I hz=>iA hz fun m ρ S o S' sr lr hc post=>(yd h).h pins s σ H Q I (by
 obtain⟨⟨x,S1⟩,h1,h2⟩:=Q2.mp hc;refine⟨m,ρ,S,x,S1,sr,lr,h1,fun m1 v1 H1 e1 sr1 i1=>?_⟩;cases x<;>simp at h2;obtain⟨rfl,rfl⟩:=h2;exact⟨_,i1.of_int,post m1 H1 e1 sr1⟩)⟩
theorem yJ{e:Expr}{lo hi:Option Expr}{ca:CE}{cl ch:Option CE}{pos p2:Pos}(ha:QE X e ca)(hl:QO X lo cl)(hh:QO X hi ch):QE X (.Subscript e (.Slice lo hi none p2) pos) (cSl ca cl ch):=(nA (uN.or Ar) ha hl hh).imp fun σ H Q hz=>iA hz fun m ρ S u S' sr lr hc post=>by
 obtain⟨⟨x,S1⟩,h1,ha⟩:=Q2.mp hc;obtain⟨⟨l,S2⟩,h2,hb⟩:=Q2.mp ha;obtain⟨⟨k,S3⟩,h3,h⟩:=Q2.mp hb;clear ha hb hc;refine⟨m,ρ,S,x,S1,sr,lr,h1,fun m1 v1 H1 e1 sr1 i1=>⟨m1,ρ,S1,l,S2,sr1,lr.mono e1,h2,fun m2 H2 e2 sr2=>⟨m2,ρ,S2,k,S3,sr2,lr.mono (e1.trans e2),h3,fun m3 H3 e3 sr3=>?_⟩⟩⟩;have i3:=i1.mono (e2.trans e3);have e03:=(e1.trans e2).trans e3;cases x with
 |tup us=>
  simp only[fSl]at h;split at h<;>try cases h
  rename_i hw;obtain⟨a,xs,rfl,sa,la⟩:=i3.of_tup;exact .inr ⟨a,xs,rfl,sa,by rw[la.length];exact hw,fun p hp=>jj sr3 (rN la) (post.mono e03) hp⟩
 |ref r=>
  simp only[fSl]at h;split at h<;>try cases h
  rename_i us hS;obtain⟨a,ha,rfl⟩:=i3.of_ref;obtain⟨a',ha',xs,hx,la⟩:=sr3.get hS;rw[ha]at ha';cases ha';exact .inl ⟨a,xs,rfl,SqL.of hx,fun p hp=>bB sr3 (rN la) (post.mono e03) hp⟩
 |_=>simp[fSl]at h
end
instance {us:List U}:Decidable (us≠[]):=match us with
 |[]=>.isFalse fun h=>h rfl
 |_::_=>.isTrue fun h=>by cases h
end OP
namespace OG
open PySem PySem.Spec PyProof.Rows L2
theorem FV{C a:Addr}{m:Str->Option Value}{h h':Heap}(n:h.Ns C m)(s:X4 a h h')(ne:C≠a):h'.Ns C m:=by
 obtain⟨o,es,ep,e,r⟩:=n;exact⟨o,es,ep,(s.2 C ne).trans e,r⟩
theorem ny{X:Cx}{Nc capN tn:List Str}{scope:Scope}{cl:List (Str×Addr)}{n:Nat}{caps:List Nat}{tg iter elt:Expr}{pos:Pos}{wi:TI}{g:TG}{te:TE}{tt:TT}{c:Expr}
  (hc:X.calm=true) (hi:WI X tg iter wi) (hg:∀s3 H3 fp,WG (cxC X Nc scope cl s3 H3 fp) tg g) (he:∀s3 H3 fp,WE (cxC X Nc scope cl s3 H3 fp) elt te)
  (ht:∀s3 H3 fp,WT (cxC X Nc scope cl s3 H3 fp) c tt)
  (hclos:closureFor scope X.env=pure cl) (hkind:scope.kind=.function) (hnl:∀x∈scope.names,x.2=.local->scope.names.lookup x.1=some .local) (hcell:∀x∈scope.names,x.2≠.cell)
  (hcl:se X.env cl) (hhas:((relabel scope X.env).names.all fun p=>!(p.2 == .cell||p.2 == .free)||(cl.lookup p.1).isSome)=true)
  (hcap:Paired (Cap X scope cl) caps capN) (hN:Nc=tn++capN) (hn:tn.length=n)
  {i₀:Nat} {x₀:Str} {pos₀ pos':Pos} (hN0:X.N.Nodup) (hi0:X.N[i₀]?=some x₀) (hx0:X.env.scope.names.lookup x₀=some .local)
  (hsw:swapsWith (.ListComp elt [⟨tg,iter,[c],0⟩] scope pos) (some (.Name x₀ pos')) pos₀.line X.env=pure true)
  (hs:∀x,foldedSetIterable iter X.env x=pure x:=by intro _;rfl) :
  WS X (.Assign [.Name x₀ pos'] (.ListComp elt [⟨tg,iter,[c],0⟩] scope pos) pos₀) (fun D σ H=>me wi g tt te n caps σ H fun v H'=>D.nx (σ.set i₀ (some v)) H'):=by
 constructor;intro pins s σ H Dn I h;rw[exec_Assign_arm];refine Q0 (wpAny_standAt ?_);have hsw':swapsWithSole [.Name x₀ pos'] (.ListComp elt [⟨tg,iter,[c],0⟩] scope pos) pos₀.line X.env=pure true:=hsw;rw[hsw'];refine Q0 (Q5 ?_);rw[if_pos rfl,arm_evalThenUse_ListComp];refine Q0 (Q0 (lO (Qf:=fun _ s'=>wpAny (model X.prog X.w) X.A (pure ()) (fun _ s'=>wpAny (model X.prog X.w) X.A (pure Flow.next) (SP X pins Dn) X.xe s') X.xe s') hc hi hg he ht hclos hkind hnl hcell hcl hhas hcap hN hn I h (fun D C s6 H5 m I7 hm fr nl sz cn pn qn=>?_) hs));show wpAny _ _ (assign (.Name x₀ pos') X.env (.ref D)) _ _ s6;rw[arm_assign_Name];refine Q0 (wpAny_standAt (wpAny_bindName (nH (v:=.ref D) I7 hN0 hi0 (.inl hx0) rfl (fun s7 I7' hsb=>?_) (.inr hx0))));obtain⟨a7,hsb,ha7⟩:=hsb;have cNe:C≠a7:=by
  rcases ha7 with z|z
  ·rw[z];exact nl
  ·exact Ne.symm (cn _ _ z)
 refine⟨m,FV hm hsb cNe,fun h' hs'=>Q5 (Q5 ⟨_,H5,?_,qn⟩)⟩;exact I7'.turned (t':=s7.toks) (it:=C) (fun b o hb e=>hs'.extBut b o hb e) fr nl (.inr sz) cn pn
end OG
namespace OP
open PySem PySem.Spec PyProof.Rows L2 OG
section
variable{X:Cx}{K:Q4}
theorem iZ{i₀:Nat}{x₀:Str}{pos₀ pos':Pos}{Nc capN tn:List Str}{scope:Scope}{cl:List (Str×Addr)}{n:Nat}{caps:List Nat}{tg iter elt:Expr}{pos:Pos}{ci:CI}{g:CG}{ct:CT}{ce:CE}{c:Expr}
  (hc:X.calm=true) (hi:QI X tg iter ci) (hg:∀s3 H3 fp,WG (cxC X Nc scope cl s3 H3 fp) tg (tG X.K g)) (ht:∀s3 H3 fp,WT (cxC X Nc scope cl s3 H3 fp) c (tT X.K ct)) (he:∀s3 H3 fp,WE (cxC X Nc scope cl s3 H3 fp) elt (tE X.K ce))
  (hclos:closureFor scope X.env=pure cl) (hkind:scope.kind=.function) (hnl:∀x∈scope.names,x.2=.local->scope.names.lookup x.1=some .local) (hcell:∀x∈scope.names,x.2≠.cell)
  (hcl:se X.env cl) (hhas:((relabel scope X.env).names.all fun p=>!(p.2 == .cell||p.2 == .free)||(cl.lookup p.1).isSome)=true)
  (hcap:Paired (Cap X scope cl) caps capN) (hN:Nc=tn++capN) (hn:tn.length=n)
  (hN0:X.N.Nodup) (hi0:X.N[i₀]?=some x₀) (hx0:X.env.scope.names.lookup x₀=some .local)
  (hsw:swapsWith (.ListComp elt [⟨tg,iter,[c],0⟩] scope pos) (some (.Name x₀ pos')) pos₀.line X.env=pure true)
  (hs:∀x,foldedSetIterable iter X.env x=pure x:=by intro _;rfl) :
  QS X (.Assign [.Name x₀ pos'] (.ListComp elt [⟨tg,iter,[c],0⟩] scope pos) pos₀) (cm i₀ (aW ci g ct ce n caps)):=(ny hc hi hg he ht hclos hkind hnl hcell hcl hhas hcap hN hn hN0 hi0 hx0 hsw hs).imp fun D σ H hz=>tP hz fun m ρ S o ρ' S' sr lr hc post=>by
 obtain⟨⟨u,S1⟩,h1,h2⟩:=Q2.mp hc;cases h2;exact lN _ _ _ ⟨m,ρ,S,u,_,sr,lr,h1,fun m1 v1 H1 e1 sr1 i1=>post m1 _ H1 e1 sr1 ((lr.mono e1).set i₀ i1)⟩
end
end OP
namespace OP
open PySem PySem.Spec PyProof PyProof.Rows L2 OG
section
variable{X:Cx}{K:Q4}
def rP(ca:CE):CE:=fun ρ S=>(ca ρ S).bind fun p=>match p.1 with
 |.int i=>some (.int (-i),p.2)
 |_=>none
theorem EJ:UnR X (unaryOp .USub) (fun x H Q=>∃i,x=.int i/\Q (.int (-i)) H):=by
 rintro pins s σ H x v Q I rx ⟨i,rfl,q⟩;obtain⟨t,rfl⟩:=rx;exact PyProof.Rows.neg_int ⟨.int (-i),H,I.tok _,⟨_,rfl⟩,q⟩
theorem sN{a:Expr}{ca:CE}{pos:Pos}(ha:QE X a ca):QE X (.UnaryOp .USub a pos) (rP ca):=(EC EJ ha).imp fun σ H Q hz=>iA hz fun m ρ S u S' sr lr hc post=>by
 obtain⟨⟨x,S1⟩,h1,h2⟩:=Q2.mp hc;refine⟨m,ρ,S,x,S1,sr,lr,h1,fun m1 v1 H1 e1 sr1 i1=>?_⟩;cases x<;>simp at h2;obtain⟨rfl,rfl⟩:=h2;exact⟨_,i1.of_int,post m1 _ H1 e1 sr1 .int_⟩
def dM:U->List U->Sto->Option (U×Sto)
 |.ref l,[.ref b],S=>match S[l]?,S[b]? with
  |some (.lst us),some (.lst vs)=>if us.length+vs.length<=LIM then some (.non,S.set l (.lst (us++vs)))else none
  |_,_=>none
 |_,_,_=>none
theorem za:MtP K vb dM:=by
 intro m S H x v us vs u S' Q sr ix i hf post;match x,us,hf with
 |.ref l,[.ref b],hf=>
  simp only[dM]at hf;split at hf<;>try cases hf
  rename_i xs0 ys0 hS hB;split at hf<;>try cases hf
  rename_i hl;obtain⟨a,ha,rfl⟩:=ix.of_ref;obtain⟨a',ha',xs,hx,la⟩:=sr.get hS;rw[ha]at ha';cases ha';obtain⟨y,rfl,iy⟩:=i.one;obtain⟨c,hc,rfl⟩:=iy.of_ref;obtain⟨c',hc',ys,hy,lb⟩:=sr.get hB;rw[hc]at hc';cases hc';have eu:Ext K m H m (upd H a (.lst (xs++ys))):=.of (sr.keep ha _);exact⟨a,c,xs,ys,rfl,rfl,hx,hy,lim (by rw[la.length,lb.length];exact hl),post m _ _ eu (sr.put ha ⟨_,aF,(la.append lb).mono eu⟩) .non_⟩
def lJ:U->List U->Sto->Option (U×Sto)
 |.ref l,[.int i],S=>match S[l]? with
  |some (.lst us)=>if 0<=i/\i<us.length/\us.length<=LIM then(us[i.toNat]?).bind fun u=>some (u,S.set l (.lst (us.eraseIdx i.toNat)))else none
  |_=>none
 |_,_,_=>none
theorem CK:MtP K Aw lJ:=by
 intro m S H x v us vs u S' Q sr ix i hf post;match x,us,hf with
 |.ref l,[.int k],hf=>
  simp only[lJ]at hf;split at hf<;>try cases hf
  rename_i ws hS;split at hf<;>try cases hf
  rename_i hk;obtain⟨w,hw,h⟩:=Q2.mp hf;cases h;obtain⟨a,ha,rfl⟩:=ix.of_ref;obtain⟨a',ha',xs,hx,la⟩:=sr.get hS;rw[ha]at ha';cases ha';obtain⟨y,hy,iy⟩:=la.getD hw;obtain⟨z,rfl,iz⟩:=i.one;have eu:Ext K m H m (upd H a (.lst (xs.eraseIdx k.toNat))):=.of (sr.keep ha _);have hL:ws.length<=100000:=hk.2.2;exact⟨a,xs,k,k.toNat,y,rfl,by rw[iz.of_int],hx,by omega,by omega,seqIndex_of hk.1 (by rw[la.length];exact hk.2.1),hy,post m _ _ eu (sr.put ha ⟨_,aF,(la.erase _).mono eu⟩) (iy.mono eu)⟩
variable{e:Expr}{es:List Expr}{co:CE}{cr:CA}{o:Expr}{apos cpos:Pos}
theorem ji (ho : QE X o co) (ha : QA X (e :: es) cr) (hbase : attributeBase o "extend" X.env (eval o X.env) = eval o X.env := by rfl) (hfew : ((backTo cpos (starEach (e :: es) X.env)).all (fun x => !x.1) && (backToKw cpos (keywordEach [] X.env)).all (fun x => x.1.isSome)
   && decide ((e::es).length+([]:List Keyword).length+(if ([]:List Keyword).isEmpty then 0 else 1)<30))=true:=by rfl) (hline:(apos.endLine == cpos.line)=true:=by rfl) (hs:starEach (e::es) X.env=(false,eval e X.env)::starEach es X.env:=by rfl) (hplain:(backTo cpos (starEach es X.env)).any (·.1)=false:=by rfl) :
  QE X (.Call (.Attribute o "extend" apos) (e::es) [] cpos) (cBM dM co cr):=(qC PySem.F.plainAttrs_list PySem.F.slot_list_extend PySem.F.type_list_extend vM ho ha.h hbase hfew hline hs hplain).imp (rV za)
theorem Ce (ho : QE X o co) (ha : QA X (e :: es) cr) (hbase : attributeBase o "pop" X.env (eval o X.env) = eval o X.env := by rfl) (hfew : ((backTo cpos (starEach (e :: es) X.env)).all (fun x => !x.1) && (backToKw cpos (keywordEach [] X.env)).all (fun x => x.1.isSome)
   && decide ((e::es).length+([]:List Keyword).length+(if ([]:List Keyword).isEmpty then 0 else 1)<30))=true:=by rfl) (hline:(apos.endLine == cpos.line)=true:=by rfl) (hs:starEach (e::es) X.env=(false,eval e X.env)::starEach es X.env:=by rfl) (hplain:(backTo cpos (starEach es X.env)).any (·.1)=false:=by rfl) :
  QE X (.Call (.Attribute o "pop" apos) (e::es) [] cpos) (cBM lJ co cr):=(qC PySem.F.plainAttrs_list PySem.F.slot_list_pop PySem.F.type_list_pop zh ho ha.h hbase hfew hline hs hplain).imp (rV CK)
theorem Ae(bs:List Bool):(Qy bs.length).any (fun i=>(bs[i]?).getD false)=bs.any id:=by
 rw[ZE,List.any_eq_true,List.any_eq_true];constructor
 ·rintro⟨i,hi,h⟩;have hi':=Qb.mp hi;rw[Q6 hi',Ql]at h;exact⟨_,Z9 hi',h⟩
 ·rintro⟨b,hb,h⟩;obtain⟨i,hi,e⟩:=List.mem_iff_getElem.mp hb;refine⟨i,Qb.mpr hi,?_⟩;rw[Q6 hi,Ql,e];exact h
theorem zY(hc:X.calm=true):bX X (.builtin "any") (fun xs H Q=>∃(p:Addr) (bs:List Bool),xs=[.ref p]/\SqL X.K H p (bs.map V.bl)/\Q (.bl (bs.any id)) H):=by
 intro pins s σ H xs us Q I r h;obtain⟨p,bs,rfl,hq,q⟩:=h;obtain⟨u,rfl,rx⟩:=fP r;cases rx;obtain⟨its,rv,pl,hz⟩:=I.list hq;have hlen:=rv.length;rw[Q9]at hlen;refine call_any_walk (wpAny_pyIter_list pl.isList ?_);have lt:p<s.heap.objs.size:=by obtain⟨o,e,_⟩:=pl.isList;exact QX e
 refine⟨s.heap.objs.size,_,_,_,_,_,fun i=>(bs[i]?).getD false,rfl,Walks.list (show X.A.in1.handled=none from I.ok.hd hc) s.heap.objs.size p (QL lt) its.toArray,⟨⟨_,QY _ rfl,rfl,rfl⟩,pl.isList.at fun o e=>Q3 _ e⟩,?_,fun h' tk hk=>?_⟩
 ·intro i v s' Q' E' hP hQ;have hP':its.toArray[i]?=some v:=hP;obtain⟨b,e1,e2⟩:=pC rv (by simpa using hP');subst e2;dsimp only at hQ;rw[e1,Ql]at hQ;exact wpAny_truthy_bool hQ
 ·have e:(Qy its.toArray.size).any (fun i=>(bs[i]?).getD false)=bs.any id:=by
   rw[QC,<-hlen];exact Ae bs
  rw[e];exact⟨.bl (bs.any id),H,I.kept fun b o e=>hk b o (vL e) (Q3 _ e),rfl,q⟩
def Gx:Fn
 |[.ref l],S=>match S[l]? with
  |some (.lst us)=>(DH us).bind fun bs=>some (.bl (bs.any id),S)
  |_=>none
 |_,_=>none
theorem Ir:iG K (fun xs H Q=>∃(p:Addr) (bs:List Bool),xs=[.ref p]/\SqL K H p (bs.map V.bl)/\Q (.bl (bs.any id)) H) Gx:=by
 intro m S H us vs u S' Q sr i hf post;match us,hf with
 |[.ref l],hf=>
  obtain⟨v,rfl,iv⟩:=i.one;obtain⟨a,ha,rfl⟩:=iv.of_ref;simp only[Gx]at hf;split at hf<;>try cases hf
  rename_i ws hS;obtain⟨bs,hb,h⟩:=Q2.mp hf;cases h;obtain⟨a',ha',xs,hx,la⟩:=sr.get hS;rw[ha]at ha';cases ha';rw[qk hb]at la;rw[la.bls]at hx;exact⟨a,bs,rfl,SqL.of hx,post m _ H .refl sr .bl_⟩
def c0(cr:CA):CE:=fun ρ S=>(cr ρ S).bind fun p=>match p.1 with
 |[.int j]=>if 0<=j/\j<=1000 then some (.ref p.2.length,p.2++[.lst (bz 0 j.toNat)])else none
 |_=>none
theorem lI:∀(n:Nat) (a:Int) (vs:List Value),vs.length=n->(∀(j:Nat) (v:Value),vs[j]?=some v->∃t,v=Value.int (a+(j:Int)) t)->a5 ((Qy n).map fun i:Nat=>V.int (a+(i:Nat))) vs
 |0,a,vs,hl,h=>by
  rw[List.length_eq_zero_iff.mp hl];exact .nil
 |n+1,a,[],hl,h=>by simp at hl
 |n+1,a,v::vs,hl,h=>by
  rw[List.range_succ_eq_map,QF,Qa];refine .cons ?_ ?_
  ·obtain⟨t,e⟩:=h 0 v rfl;exact⟨t,by simpa using e⟩
  ·have:=lI n (a+1) vs (by simpa using hl) fun j x hx=>by
    obtain⟨t,e⟩:=h (j+1) x (by simpa using hx);exact⟨t,by rw[e];congr 1;omega⟩
   have e:(Qy n).map (fun i:Nat=>V.int (a+1+(i:Nat)))=(Qy n).map ((fun i:Nat=>V.int (a+(i:Nat))) ∘ Nat.succ):=List.map_congr_left fun i _=>by
    simp only[Function.comp];congr 1;omega
   rw[<-e];exact this
theorem nD{a:Expr}{ta:TA}{p1 p2 pos1 pos2:Pos}(hc:X.calm=true)(hgl:Gl X "list")(hml:X.mg "list"=none)(hg:Gl X "range")(hm:X.mg "range"=none)(ha:WA X [a] ta)(hs:starEach [a] X.env=[(false,eval a X.env)])
  (hs1:starEach [Expr.Call (.Name "range" p2) [a] [] pos2] X.env=[(false,eval (.Call (.Name "range" p2) [a] [] pos2) X.env)]) :
  WE X (.Call (.Name "list" p1) [.Call (.Name "range" p2) [a] [] pos2] [] pos1) (fun σ H Q=>ta σ H fun vs H1=>∃j:Int,vs=[.int j]/\0<=j/\j<=1000/\∀p,H1 p=none->Q (.ref p) (upd H1 p (.lst ((Qy j.toNat).map fun i:Nat=>V.int (0+(i:Nat)))))):=by
 constructor;intro pins s σ H Q I h;refine wpAny_Call_Name_kw (fq I hgl hml OG.cg ?_ (by decide) (by decide));refine PyProof.Rows.callWith_type1 ?_ hs1 rfl;rw[hs1];show wpAny _ _ (spliced [(false,eval (.Call (.Name "range" p2) [a] [] pos2) X.env)]) _ _ s;refine Calls.spliced_cons ?_;refine Call_ (fq I hg hm boot_range (PyProof.Rows.callWith_type1 (thn (ha.h pos2 pins s σ H _ I h) fun us s1 ⟨vs,H1,I1,r1,q1⟩=>?_) hs rfl));obtain⟨j,e,j0,j1,q⟩:=q1;subst e;cases r1 with
 |cons r rr=>
  cases rr;obtain⟨t,rfl⟩:=r;refine call_range_1 ?_;refine Calls.spliced_nil ?_;have hsz:Builtin.Range.rangeSize 0 j 1=((j.toNat:Nat):Int):=by
   unfold Builtin.Range.rangeSize;simp;omega
  refine call_list_range (n:=j.toNat) (I1.ok.hd hc) (QY _ rfl) ?_ hsz (by omega) fun h' tk acc c' hk hg' hi=>?_
  ·unfold Builtin.Range.small;rw[hsz];unfold Builtin.Range.rangeFitsLong;simp;omega
  ·have hv:a5 ((Qy j.toNat).map fun i:Nat=>V.int (0+(i:Nat))) acc.toList:=lI j.toNat 0 acc.toList (by simpa using hi.1) fun k v hv=>by
    obtain⟨t,e⟩:=hi.2 k v (by simpa using hv);exact⟨t,by rw[e];congr 1;omega⟩
   refine⟨.ref _,_,I1.laid (t':=tk) (o:=.lst ((Qy j.toNat).map fun i:Nat=>V.int (0+(i:Nat)))) (fun b ob q=>hk b ob (Q3 _ q)) (by rw[ZL];omega) ?_,rfl,q _ (I1.hok.fresh (by rw[ZL];omega))⟩;exact⟨by rw[Q9,Zp];exact Qc (by omega) (show 1000<=sizeLine by decide),_,_,hv,by simpa using hg'⟩
theorem wk{m:List Addr}{H:Hp}(n:Nat):IsL K m H ((Qy n).map fun i:Nat=>V.int (0+(i:Nat))) (bz 0 n):=by
 unfold bz;generalize Qy n=l;induction l with
 |nil=>exact .nil_
 |cons a r ih=>exact .cons_ .int_ ih
theorem jP{a:Expr}{cr:CA}{p1 p2 pos1 pos2:Pos}(hc:X.calm=true)(hgl:Gl X "list")(hml:X.mg "list"=none)(hg:Gl X "range")(hm:X.mg "range"=none)(ha:QA X [a] cr)(hs:starEach [a] X.env=[(false,eval a X.env)])
  (hs1:starEach [Expr.Call (.Name "range" p2) [a] [] pos2] X.env=[(false,eval (.Call (.Name "range" p2) [a] [] pos2) X.env)]) :
  QE X (.Call (.Name "list" p1) [.Call (.Name "range" p2) [a] [] pos2] [] pos1) (c0 cr):=(nD hc hgl hml hg hm ha.h hs hs1).imp fun σ H Q hz=>iA hz fun m ρ S u S' sr lr hc post=>by
 obtain⟨⟨ws,S1⟩,h1,h2⟩:=Q2.mp hc;simp only at h2;split at h2<;>try cases h2
 rename_i j;split at h2<;>try cases h2
 rename_i hj;refine⟨m,ρ,S,_,S1,sr,lr,h1,fun m1 v1 H1 e1 sr1 i1=>?_⟩;obtain⟨x,rfl,ix⟩:=i1.one;rw[ix.of_int];exact⟨j,rfl,hj.1,hj.2,fun p hp=>bB sr1 (wk _) (post.mono e1) hp⟩
end
section
variable{X:Cx}{K:Q4}
variable{pos:Pos}
def BU:List U->Option (List Key)
 |[]=>some []
 |u::r=>(oj u).bind fun k=>(BU r).map (k::·)
theorem pD{m:List Addr}{H:Hp}:∀{us:List U} {xs:List V} {ks:List Key},IsL K m H xs us->BU us=some ks->xs=ks.map kV
 |[],xs,ks,i,h=>by cases h;exact i.of_nil
 |u::r,xs,ks,i,h=>by
  obtain⟨x,t,rfl,ix,it⟩:=i.of_cons;obtain⟨k,hk,h⟩:=Q2.mp h;obtain⟨ks',h',rfl⟩:=Qt.mp h;rw[iQ ix hk,pD it h'];rfl
def xn:CE:=fun _ S=>some (.ref S.length,S++[.dit []])
theorem vg{pos:Pos}:QE X (.Dict [] [] pos) xn:=uo.imp fun σ H Q hz=>iA hz fun m ρ S u S' sr lr hc post=>by
 cases hc;exact fun p hp=>post (m++[p]) _ _ (.new (bc hp _)) (sr.new hp ⟨[],aF,.nil_⟩) (.ref_ (b6 sr.len))
def gv(co:CE)(cr:CA)(cv:CE):CS:=fun ρ S=>(cv ρ S).bind fun p=>(co ρ p.2).bind fun q=>(cr ρ q.2).bind fun r=>match q.1 with
 |.ref l=>match r.2[l]? with
  |some (.dit kus)=>(BU r.1).bind fun k=>if kus.length<LIM/\r.1.length<=LIM then some (.nx,ρ,r.2.set l (.dit (i7 kus k p.1)))else none
  |_=>none
 |_=>none
theorem nQ{o:Expr}{es:List Expr}{e:Expr}{co cv:CE}{cr:CA}{k2:Nat}{p2 pos pos':Pos}(hu:X.A.units+1<cLine)(ho:QE X o co)(hi:QA X es cr)(hv:QE X e cv)
  (hs:swapsWith e (some (.Subscript o (.Tuple es k2 p2) pos')) pos.line X.env=pure false:=by rfl):QS X (.Assign [.Subscript o (.Tuple es k2 p2) pos'] e pos) (gv co cr cv):=
 (qz hu ho (um hi.h) hv hs).imp fun D σ H hz=>tP hz fun m ρ S oo ρ' S' sr lr hc post=>by
 obtain⟨⟨v,S1⟩,h1,ha⟩:=Q2.mp hc;obtain⟨⟨ou,S2⟩,h2,hb⟩:=Q2.mp ha;obtain⟨⟨ius,S3⟩,h3,h⟩:=Q2.mp hb;clear ha hb hc;cases ou with
 |ref l=>
  simp only at h;split at h<;>try cases h
  rename_i kus hS;obtain⟨k,hk,h4⟩:=Q2.mp h;split at h4<;>try cases h4
  rename_i hlen;refine⟨m,ρ,S,v,S1,sr,lr,h1,fun m1 v1 H1 e1 sr1 i1=>⟨m1,ρ,S1,_,S2,sr1,lr.mono e1,h2,fun m2 v2 H2 e2 sr2 i2=>⟨m2,ρ,S2,ius,S3,sr2,lr.mono (e1.trans e2),h3,fun m3 vs H3 e3 sr3 i3=>?_⟩⟩⟩;refine⟨lim (by rw[i3.length];exact hlen.2),fun p hp=>?_⟩;obtain⟨a,ha,rfl⟩:=(i2.mono e3).of_ref;obtain⟨a',ha',kvs,hx,ip⟩:=sr3.get hS;rw[ha]at ha';cases ha';have hvs:=pD i3 hk;subst hvs;have s3:sd H3 (upd H3 p (.tup (k.map kV))):=eA hp _;have en:Ext X.K m3 H3 m3 (upd H3 p (.tup (k.map kV))):=.of (bc hp _);have srn:=sr3.same s3;have hxn:(upd H3 p (.tup (k.map kV))) a=some (.dT kvs):=s3 _ _ hx;have e13:=((e1.trans e2).trans e3).trans en;have ee:Ext X.K m3 (upd H3 p (.tup (k.map kV))) m3 (upd (upd H3 p (.tup (k.map kV))) a (.dT (o8 kvs k v1))):=.of (srn.keep ha _);exact⟨a,_,rfl,A4.t hxn aF (F0 (by rw[IsP.length ip];exact hlen.1)),post m3 σ _ (e13.trans ee) (srn.put ha ⟨_,aF,(IsP.put (ip.mono en) (i1.mono ((e2.trans e3).trans en))).mono ee⟩) (lr.mono (e13.trans ee))⟩
 |_=>cases h
end
end OP
namespace OP
open PySem PySem.Spec PyProof PyProof.Rows L2 OG PySem.W
section
variable{cmp:Nat->Nat->(Bool->Shared->Prop)->Shared->Prop}{s:Shared}{n:Nat}{lt:Nat->Nat->Bool}
structure xU(n:Nat)(lt:Nat->Nat->Bool):Prop where
 tr:∀{i j k},i<n->j<n->k<n->lt i j=true->lt j k=true->lt i k=true
 tot:∀{i j},i<n->j<n->i≠j->lt i j=false->lt j i=true
 asym:∀{i j},i<n->j<n->lt i j=true->lt j i=false
def DZ(cmp:Nat->Nat->(Bool->Shared->Prop)->Shared->Prop)(n:Nat)(lt:Nat->Nat->Bool)(s:Shared):Prop:=∀i j C,i<n->j<n->C (lt i j) s->cmp i j C s
structure Pm(n:Nat)(p:Array Nat):Prop where
 sz:p.size=n
 bd:∀i,i<n->p.getD i 0<n
 ne:∀i j,i<j->j<n->p.getD i 0≠p.getD j 0
def Asc(lt:Nat->Nat->Bool)(p:Array Nat)(k:Nat):Prop:=∀i j,i<j->j<k->lt (p.getD i 0) (p.getD j 0)=true
def Dsc(lt:Nat->Nat->Bool)(p:Array Nat)(k:Nat):Prop:=∀i j,i<j->j<k->lt (p.getD j 0) (p.getD i 0)=true
variable{p:Array Nat}
theorem Pm.ne'(P:Pm n p){i j:Nat}(hi:i<n)(hj:j<n)(h:i≠j):p.getD i 0≠p.getD j 0:=by
 rcases Nat.lt_or_gt_of_ne h with z|z
 ·exact P.ne i j z hj
 ·exact Ne.symm (P.ne j i z hi)
theorem Asc.snoc(O:xU n lt)(P:Pm n p){m:Nat}(h1:1<=m)(hm:m<n)(h:Asc lt p m)(h2:lt (p.getD (m-1) 0) (p.getD m 0)=true):Asc lt p (m+1):=fun i j hij hj=>by
 by_cases e:j=m
 ·subst e;by_cases e2:i=j-1
  ·subst e2;exact h2
  ·exact O.tr (P.bd _ (by omega)) (P.bd _ (by omega)) (P.bd _ (by omega)) (h i (j-1) (by omega) (by omega)) h2
 ·exact h i j hij (by omega)
theorem Dsc.snoc(O:xU n lt)(P:Pm n p){m:Nat}(h1:1<=m)(hm:m<n)(h:Dsc lt p m)(h2:lt (p.getD m 0) (p.getD (m-1) 0)=true):Dsc lt p (m+1):=fun i j hij hj=>by
 by_cases e:j=m
 ·subst e;by_cases e2:i=j-1
  ·subst e2;exact h2
  ·exact O.tr (P.bd _ (by omega)) (P.bd _ (by omega)) (P.bd _ (by omega)) h2 (h i (j-1) (by omega) (by omega))
 ·exact h i j hij (by omega)
theorem xA(O:xU n lt)(A:DZ cmp n lt s)(P:Pm n p):∀(f m:Nat) {Q:Nat->Shared->Prop},1<=m->m+f<=n->Asc lt p m->(∀m',m<=m'->m'<=m+f->Asc lt p m'->(m'=m+f\/lt (p.getD m' 0) (p.getD (m'-1) 0)=true)->Q m' s)->(kas_asc p f m).kasWp cmp Q s
 |0,m,Q,h1,h2,h3,q=>q m (QJ _) (by omega) h3 (.inl rfl)
 |f+1,m,Q,h1,h2,h3,q=>by
  refine A _ _ _ (P.bd _ (by omega)) (P.bd _ (by omega)) ?_;cases hc:lt (p.getD m 0) (p.getD (m-1) 0)with
  |true=>exact q m (QJ _) (by omega) h3 (.inr hc)
  |false=>
   have h4:=h3.snoc O P h1 (by omega) (O.tot (P.bd _ (by omega)) (P.bd _ (by omega)) (P.ne' (by omega) (by omega) (by omega)) hc);exact xA O A P f (m+1) (by omega) (by omega) h4 fun m' a b c d=>q m' (by omega) (by omega) c (by rcases d with d|d;exact .inl (by omega);exact .inr d)
theorem wU(O:xU n lt)(A:DZ cmp n lt s)(P:Pm n p):∀(f m:Nat) {Q:Array Nat×Nat×Nat->Shared->Prop},1<=m->m+f<=n->Dsc lt p m->(∀m',m<=m'->m'<=m+f->Dsc lt p m'->Q (p,m',0) s)->(kas_desc f p m 0).kasWp cmp Q s
 |0,m,Q,h1,h2,h3,q=>q m (QJ _) (by omega) h3
 |f+1,m,Q,h1,h2,h3,q=>by
  refine A _ _ _ (P.bd _ (by omega)) (P.bd _ (by omega)) ?_;cases hc:lt (p.getD m 0) (p.getD (m-1) 0)with
  |true=>exact wU O A P f (m+1) (by omega) (by omega) (h3.snoc O P h1 (by omega) hc) fun m' a b c=>q m' (by omega) (by omega) c
  |false=>
   refine A _ _ _ (P.bd _ (by omega)) (P.bd _ (by omega)) ?_;rw[O.tot (P.bd _ (by omega)) (P.bd _ (by omega)) (P.ne' (by omega) (by omega) (by omega)) hc];exact q m (QJ _) (by omega) h3
theorem kg{p q:Array Nat}{i j:Nat}(h:p[i]?=q[j]?):p.getD i 0=q.getD j 0:=by
 rw[Zq,Zq,h]
theorem jN{m k:Nat}(hm:m<=p.size):(kas_rev p 0 m).getD k 0=if k<m then p.getD (m-1-k) 0 else p.getD k 0:=by
 unfold kas_rev;have h:=getElem?_mirror_all (i:=0) hm k;split
 ·rename_i c;rw[if_pos ⟨ZQ _,c⟩]at h;exact kg (by rw[h];congr 1;omega)
 ·rename_i c;rw[if_neg (by omega)]at h;exact kg h
theorem Pm.rev(P:Pm n p){m:Nat}(hm:m<=n):Pm n (kas_rev p 0 m) where
 sz:=by rw[kas_rev_size];exact P.sz
 bd:=fun i hi=>by
  rw[jN (by rw[P.sz];exact hm)];split<;>exact P.bd _ (by omega)
 ne:=fun i j hij hj=>by
  rw[jN (by rw[P.sz];exact hm),jN (by rw[P.sz];exact hm)];split<;>split<;>exact P.ne' (by omega) (by omega) (by omega)
theorem Dsc.rev{m:Nat}(P:Pm n p)(hm:m<=n)(h:Dsc lt p m):Asc lt (kas_rev p 0 m) m:=fun i j hij hj=>by
 rw[jN (by rw[P.sz];exact hm),jN (by rw[P.sz];exact hm),if_pos (by omega),if_pos hj];exact h _ _ (by omega) (by omega)
theorem zT(O:xU n lt)(A:DZ cmp n lt s)(P:Pm n p){Q:Nat×Array Nat->Shared->Prop}(h1:1<=n)(q:∀m p',1<=m->m<=n->Pm n p'->Asc lt p' m->Q (m,p') s):(kas_count n p).kasWp cmp Q s:=by
 unfold kas_count;rw[KasT.kasWp_bind];refine xA O A P (n-1) 1 (QJ _) (by omega) (fun i j a b=>by omega) fun m a b c d=>?_;by_cases e:m=n
 ·rw[if_pos (by rw[e];exact beq_self_eq_true n)];exact q m p a (by omega) P c
 rw[if_neg (by simpa using e)];have d':lt (p.getD m 0) (p.getD (m-1) 0)=true:=by
  rcases d with d|d
  ·omega
  ·exact d
 by_cases g:m>1
 ·rw[if_pos g];refine A _ _ _ (P.bd _ (by omega)) (P.bd _ (by omega)) ?_;rw[c 0 (m-1) (by omega) (by omega)];exact q m p a (by omega) P c
 ·rw[if_neg g];have m1:m=1:=by omega
  subst m1;unfold kas_descPart;rw[KasT.kasWp_bind];have d2:Dsc lt p 2:=fun i j a b=>by
   have e1:i=0:=by omega
   have e2:j=1:=by omega
   subst e1;subst e2;exact d'
  refine wU O A P (n-(1+1)) (1+1) (by omega) (by omega) d2 fun m' a' b' c'=>?_;rw[if_neg (by simp)];unfold kas_tail3;rw[KasT.kasWp_bind];have hm':m'<=n:=by omega
  exact xA O A (P.rev hm') (n-m') m' (by omega) (by omega) (c'.rev P hm') fun m2 a2 b2 c2 _=>q m2 _ (by omega) (by omega) (P.rev hm') c2
theorem mB(O:xU n lt)(A:DZ cmp n lt s)(P:Pm n p){k:Nat}(hk:k<n)(hs:Asc lt p k):∀(f l r:Nat) {Q:Nat->Shared->Prop},l<=r->r<=k->r-l<=f->(∀i,i<l->lt (p.getD i 0) (p.getD k 0)=true)->(∀i,r<=i->i<k->lt (p.getD k 0) (p.getD i 0)=true)->
  (∀l',l'<=k->(∀i,i<l'->lt (p.getD i 0) (p.getD k 0)=true)->(∀i,l'<=i->i<k->lt (p.getD k 0) (p.getD i 0)=true)->Q l' s)->(kas_place p k f l r).kasWp cmp Q s
 |0,l,r,Q,h1,h2,h3,h4,h5,q=>q l (by omega) h4 fun i a b=>h5 i (by omega) b
 |f+1,l,r,Q,h1,h2,h3,h4,h5,q=>by
  unfold kas_place;by_cases e:l≥r
  ·rw[if_pos e];exact q l (by omega) h4 fun i a b=>h5 i (by omega) b
  ·rw[if_neg e];have hM:(l+r) / 2<k:=by omega
   refine A _ _ _ (P.bd _ hk) (P.bd _ (by omega)) ?_;cases hc:lt (p.getD k 0) (p.getD ((l+r) / 2) 0)with
   |true=>
    refine mB O A P hk hs f l ((l+r) / 2) (by omega) (by omega) (by omega) h4 (fun i a b=>?_) q;by_cases e2:i=(l+r) / 2
    ·subst e2;exact hc
    ·exact O.tr (P.bd _ hk) (P.bd _ (by omega)) (P.bd _ (by omega)) hc (hs _ i (by omega) b)
   |false=>
    have hc':=O.tot (P.bd _ hk) (P.bd _ (show(l+r) / 2<n by omega)) (P.ne' hk (by omega) (by omega)) hc;refine mB O A P hk hs f ((l+r) / 2+1) r (by omega) (by omega) (by omega) (fun i a=>?_) h5 q;by_cases e2:i=(l+r) / 2
    ·subst e2;exact hc'
    ·exact O.tr (P.bd _ (by omega)) (P.bd _ (by omega)) (P.bd _ hk) (hs i ((l+r) / 2) (by omega) hM) hc'
theorem kE{k l i:Nat}(hk:k<p.size)(hl:l<=k):(bubble p k (k-l)).getD i 0=if i=l then p.getD k 0 else if l<i/\i<=k then p.getD (i-1) 0 else p.getD i 0:=by
 have h:=getElem?_bubble hk (k-l) (by omega) i;rw[show k-(k-l)=l by omega]at h;by_cases c:i=l
 ·rw[if_pos c]at h ⊢;exact kg h
 ·rw[if_neg c]at h ⊢;by_cases d:l<i/\i<=k
  ·rw[if_pos d]at h ⊢;exact kg h
  ·rw[if_neg d]at h ⊢;exact kg h
theorem Pm.bub(P:Pm n p){k l:Nat}(hk:k<n)(hl:l<=k):Pm n (bubble p k (k-l)) where
 sz:=by rw[bubble_size];exact P.sz
 bd:=fun i hi=>by
  rw[kE (by rw[P.sz];exact hk) hl];repeat' split
  all_goals exact P.bd _ (by omega)
 ne:=fun i j hij hj=>by
  rw[kE (by rw[P.sz];exact hk) hl,kE (by rw[P.sz];exact hk) hl];repeat' split
  all_goals first|(exfalso;omega)|exact P.ne' (by omega) (by omega) (by omega)
theorem Asc.bub(P:Pm n p){k l:Nat}(hk:k<n)(hl:l<=k)(h:Asc lt p k)(h1:∀i,i<l->lt (p.getD i 0) (p.getD k 0)=true)(h2:∀i,l<=i->i<k->lt (p.getD k 0) (p.getD i 0)=true):Asc lt (bubble p k (k-l)) (k+1):=fun i j hij hj=>by
 rw[kE (by rw[P.sz];exact hk) hl,kE (by rw[P.sz];exact hk) hl];repeat' split
 all_goals first|(exfalso;omega)|exact h1 _ (by omega)|exact h2 _ (by omega) (by omega)|exact h _ _ (by omega) (by omega)
theorem AZ(O:xU n lt)(A:DZ cmp n lt s):∀(f:Nat) (p:Array Nat) (k:Nat) {Q:Array Nat->Shared->Prop},Pm n p->k+f=n->Asc lt p k->(∀p',Pm n p'->Asc lt p' n->Q p' s)->(kas_bin f p k).kasWp cmp Q s
 |0,p,k,Q,P,h1,h2,q=>q p P (by rw[<-h1];exact h2)
 |f+1,p,k,Q,P,h1,h2,q=>by
  unfold kas_bin;rw[KasT.kasWp_bind];refine mB O A P (k:=k) (by omega) h2 k 0 k (ZQ _) (QJ _) (by omega) (fun i a=>by omega) (fun i a b=>by omega) fun l a b c=>?_;exact AZ O A f _ (k+1) (P.bub (by omega) a) (by omega) (h2.bub P (by omega) a b c) q
theorem mz:Pm n (List.toArray (Qy n)):=by
 have g:∀i,i<n->(List.toArray (Qy n)).getD i 0=i:=fun i hi=>by simp[X9,hi]
 exact⟨by simp,fun i hi=>by rw[g i hi];exact hi,fun i j hij hj=>by rw[g i (by omega),g j hj];omega⟩
theorem uK(O:xU n lt)(A:DZ cmp n lt s){Q:Array Nat->Shared->Prop}(h1:1<=n)(q:∀p',Pm n p'->Asc lt p' n->Q p' s):(kas_sort n).kasWp cmp Q s:=by
 unfold kas_sort;rw[KasT.kasWp_bind];refine zT O A mz h1 fun m p' a b P c=>?_;by_cases e:m<n
 ·rw[if_pos e];rw[show max m 1=m by omega];exact AZ O A _ _ _ P (by omega) c q
 ·rw[if_neg e];exact q p' P (by rw[show n=m by omega];exact c)
end
end OP
namespace OP
open PySem PySem.Spec PyProof PyProof.Rows L2 OG
section
variable{prog:Program}{w:World}{A:Around}{E:Value->Shared->Prop}{s:Shared}{d it:Addr}{o:Obj}{es:Array DictEntry}{ep i:Nat}
theorem qS{Q:Value->Shared->Prop}(hd:(d == sysModules)=false)(ho:s.heap.get? d=some o)(hc:o.ExactDict)(he:o.data=.dict es ep)
  (q:Q (.ref s.heap.objs.size) { s with heap:=s.heap.push { cls:=.type "dict_keyiterator",data:=.fields #[.ref d,.int 0 0,.int es.size 0,.int ep 0] } }):wpAny (model prog w) A (pyIter (.ref d)) Q E s:=by
 have T:s.TypeIs (.ref d) "dict":=⟨o,ho,hc.1⟩;refine wpAny_pyIter_slot T F.slot_dict_iter (wpAny_call_entry F.slot_dict_iter T F.entry_dict_iter ?_ (F.args_dict_iter_1 _));unfold Builtin.«dict.__iter__»;refine Q0 ?_;unfold Builtin.Dict.dictSlotNone;refine Q0 (wpAny_notOrdered_dict T ?_);refine Q5 (show wpAny _ _ (Builtin.Dict.showsAll d >>= _) _ _ s from ?_);unfold Builtin.Dict.showsAll;rw[if_neg (by rw[hd];exact QM)];refine Q0 (Q5 (Q0 (wpAny_dictEntries ho he (Q0 (wpAny_dictEpoch ho he ?_)))));refine Q0 (wpAny_newObj_type (Q5 ⟨_,rfl,"dict_keyiterator",_,⟨_,QY _ rfl,rfl⟩,F.slot_dict_keyiterator_next.lookup,q⟩))
theorem qT{Q:Option Value->Shared->Prop}(hit:s.heap.IsKeyIter it d i es.size ep)(ho:s.heap.get? d=some o)(he:o.data=.dict es ep)(hi:i<es.size)
  (q:∀h',h'.IsKeyIter it d (i+1) es.size ep->X4 it s.heap h'->Q (some es[i].key) { s with heap:=h' }):wpAny (model prog w) A (pyNext (.ref it)) Q E s:=by
 obtain⟨io,hio,ic,id'⟩:=id hit;unfold pyNext;refine Q0 (wpAny_attempt (wpAny_callSpecial?_slot (name:=Str.ofString "__next__") hit.typeIs F.slot_dict_keyiterator_next (wpAny_call_entry F.slot_dict_keyiterator_next hit.typeIs F.entry_dict_keyiterator_next ?_ (F.args_dict_keyiterator_next_1 _))));refine Q0 (Q5 (Q0 (Q0 ?_)));first|refine Q0 (wpAny_typeNameOfWhole_keyiter hit.typeIs (Q5 (Q0 (wpAny_fieldsOf hio id' ?_))))|refine Q0 (wpAny_typeNameOf_keyiter hit.typeIs (Q5 (Q0 (wpAny_fieldsOf hio id' ?_))))
 simp only[show Builtin.Dict_items.ownsTuple "dict_keyiterator"=false by decide,Qx,if_false];refine(show wpAny _ _ (if (Value.ref d == Value.none)=true then _ else _) _ _ s from ?_);rw[if_neg (show ¬((Value.ref d == Value.none)=true)from QM)];refine Q0 (Q5 (Q0 (wpAny_dictEntries ho he ?_)));rw[if_neg (by simp)];refine Q0 (Q5 (Q0 (wpAny_dictEpoch ho he ?_)));rw[if_neg (by simp)];refine Q5 ?_;simp only[show ¬((i:Int)<0)by omega,if_false,ZC,QR hi];refine Q0 ?_;first|refine Q0 (wpAny_typeNameOfWhole_keyiter hit.typeIs (Q5 (Q0 (wpAny_isOneOf_keyiter hit.typeIs ?_))))|refine Q0 (wpAny_typeNameOf_keyiter hit.typeIs (Q5 (Q0 (wpAny_isOneOf_keyiter hit.typeIs ?_))))
 refine(show wpAny _ _ (setField (.ref it) 1 (rawInt ((i:Int)+1)) >>= _) _ _ s from Q0 (wpAny_setField hio id' (by simp) ?_));have hit2:(s.heap.update it (Obj.mapFields (·.setIfInBounds 1 (rawInt ((i:Int)+1))))).IsKeyIter it d (i+1) es.size ep:=⟨_,ZT _ hio (Obj.isFreed_of_fields (Obj.data_mapFields id' _)),(Obj.cls_mapFields ..).trans ic,by rw[Obj.data_mapFields id'];simp[rawInt]⟩;refine Q0 (wpAny_holding (Q0 (wpAny_isOneOf_keyiter (s:={ s with heap:=s.heap.update it (Obj.mapFields (·.setIfInBounds 1 (rawInt ((i:Int)+1)))) }) hit2.typeIs ?_)));exact(show wpAny _ _ (pure es[i].key) _ _ _ from Q5 (Q5 ⟨_,rfl,Q5 (q _ hit2 (Heap.SameBut.update ..))⟩))
theorem u7{Q:Option Value->Shared->Prop}(hh:A.handled=none)(hit:s.heap.IsKeyIter it d i es.size ep)(ho:s.heap.get? d=some o)(he:o.data=.dict es ep)(hi:es.size<=i)
  (q:∀h',Heap.ExtBut it s.heap h'->Q none { s with heap:=h' }):wpAny (model prog w) A (pyNext (.ref it)) Q E s:=by
 obtain⟨io,hio,ic,id'⟩:=id hit;unfold pyNext;refine Q0 (wpAny_attempt (wpAny_callSpecial?_slot (name:=Str.ofString "__next__") hit.typeIs F.slot_dict_keyiterator_next (wpAny_call_entry F.slot_dict_keyiterator_next hit.typeIs F.entry_dict_keyiterator_next ?_ (F.args_dict_keyiterator_next_1 _))));refine Q0 (Q5 (Q0 (Q0 ?_)));first|refine Q0 (wpAny_typeNameOfWhole_keyiter hit.typeIs (Q5 (Q0 (wpAny_fieldsOf hio id' ?_))))|refine Q0 (wpAny_typeNameOf_keyiter hit.typeIs (Q5 (Q0 (wpAny_fieldsOf hio id' ?_))))
 simp only[show Builtin.Dict_items.ownsTuple "dict_keyiterator"=false by decide,Qx,if_false];refine(show wpAny _ _ (if (Value.ref d == Value.none)=true then _ else _) _ _ s from ?_);rw[if_neg (show ¬((Value.ref d == Value.none)=true)from QM)];refine Q0 (Q5 (Q0 (wpAny_dictEntries ho he ?_)));rw[if_neg (by simp)];refine Q0 (Q5 (Q0 (wpAny_dictEpoch ho he ?_)));rw[if_neg (by simp)];refine Q5 ?_;simp only[show ¬((i:Int)<0)by omega,if_false,ZC,Ze hi];refine Q0 ?_;first|refine Q0 (wpAny_typeNameOfWhole_keyiter hit.typeIs (Q5 ?_));skip|refine Q0 (wpAny_typeNameOf_keyiter hit.typeIs (Q5 ?_));skip
 refine(show wpAny _ _ (setField (.ref it) 0 .none >>= _) _ _ s from Q0 (wpAny_setField hio id' (by simp) ?_));refine(show wpAny _ _ (newExc (.type "StopIteration") [] >>= _) _ _ _ from Q0 ?_);simp only[newExc,newTuple];refine Q0 (wpAny_newObj_type ?_ (by size_fits));refine Q0 (m:=firstArgMember _ _) (wpAny_of_eq (a:=Value.none) (by first|rfl|(simp only[firstArgMember];rfl)) (wpAny_newObj_type ?_ (by size_fits)));simp only[raiseNew];refine Q0 (wpAny_handled ?_);rw[show A.in1.handled=none from hh];refine Q0 (Q5 (wpAny_throw ?_));refine Q0 (wpAny_isInstance (T:="StopIteration") (b:=true) ⟨_,QY _ rfl,rfl⟩ isSubtype_stop ?_);exact Q5 (q _ (((Heap.SameBut.update ..).extBut.push _).push _))
end
def FzT(H:Hp)(a:Addr)(ep:Nat)(ks:List (List Key)):Prop:=∃ob es kvs,H a=some (.frz ob (.dT kvs))/\ob.data=.dict es ep/\kvs.map (·.1)=ks
def Itt(a:Addr)(ep:Nat)(ks:List (List Key)):It:=
 ⟨fun i H=>i<ks.length/\FzT H a ep ks,fun i H x H'=>H'=H/\∃k p,ks[i]?=some k/\x=.ref p/\H p=some (.tup (k.map kV)),fun i H=>ks.length<=i/\FzT H a ep ks⟩
theorem wH{P:Program}{w:World}{H:Hp}{h:Heap}{a:Addr}{ob:Obj}{kvs:List (List Key×V)}{es:Array DictEntry}{ep:Nat}(ok:HOk P w H h)(e:H a=some (.frz ob (.dT kvs)))(d:ob.data=.dict es ep) :
  h.get? a=some ob/\es.size=kvs.length/\∀(i:Nat) (hi:i<es.size),∃k p,(kvs.map (·.1))[i]?=some k/\es[i].key=.ref p/\H p=some (.tup (k.map kV)):=by
 obtain⟨e1,_,_,xs,r,o,es',ep',e2,e3,e4,e5,_⟩:=(show bx P w H h a (.frz ob (.dT kvs))from ok a _ e);rw[e1]at e2;cases e2;rw[d]at e4;cases e4;have hl:kvs.length=xs.length:=Paired.length r;have hs:es.size=xs.length:=size_of_entries e5;refine⟨e1,by omega,fun i hi=>?_⟩;have key:∀{l:List (List Key×V)} {m:List (List Key×Addr×Value)} {i:Nat} {x:List Key×Addr×Value},Paired (fun(p:List Key×V) (q:List Key×Addr×Value)=>p.1=q.1/\H q.2.1=some (.tup (p.1.map kV))/\bP p.2 q.2.2) l m->m[i]?=some x->∃k,(l.map (·.1))[i]?=some k/\H x.2.1=some (.tup (k.map kV)):=by
  intro l m i x q;induction q generalizing i with
  |nil=>intro z;simp at z
  |@cons p q ps qs hq t ih=>
   intro z;cases i with
   |zero=>simp at z;subst z;exact⟨p.1,by simp,hq.2.1⟩
   |succ i=>obtain⟨k,k1,k2⟩:=ih (by simpa using z);exact⟨k,by simpa using k1,k2⟩
 have hx:xs[i]?=some xs[i]:=Q6 (by omega);obtain⟨k,k1,k2⟩:=key r hx;refine⟨k,(xs[i]).2.1,k1,?_,k2⟩;have h1:=entry_at e5 i;rw[hx,QR hi]at h1;have h2:=Option.some.inj h1;rw[h2];rfl
theorem sy{P:Program}{w:World}{K:Q4}{tg:Expr}(a it:Addr){ks:List (List Key)}{ep:Nat} :
  DX P w K tg (Itt a ep ks) [it] it (fun n h=>h.IsKeyIter it a n ks.length ep) where
 mem:=by simp
 obj:=fun n h st c hc=>by
  simp only[QH,ZV,or_false]at hc;subst hc;obtain⟨o,e,_,q⟩:=st;exact⟨o,e,fun v z=>by rw[q]at z;cases z⟩
 keep:=fun n h h' st kp=>Heap.IsKeyIter.at st fun o q=>kp it (by simp) o q
 item:=by
  intro X hP hw hK hc n pins s σ H E Iv hf st hg;subst hP hw hK;obtain⟨hi,ob,es,kvs,hq,d,ek⟩:=hg;obtain⟨g1,g2,g3⟩:=wH Iv.hok hq d;have hl:ks.length=es.size:=by rw[<-ek,Q9,g2]
  have hi':n<es.size:=by omega
  obtain⟨k,p,k1,k2,k3⟩:=g3 n hi';obtain⟨f0,f1,f2,f3⟩:=hf it (by simp);refine qT (by rw[<-hl];exact st) g1 d hi' fun h1 st1 sb=>⟨_,rfl,?_⟩;have I1:Inv X pins σ H { s with heap:=h1 }:=Iv.turned (t':=s.toks) (fun b o hb e=>(sb.2 b hb).trans e) f0 f1 f3.1 f3.2.1 f3.2.2;have st2:h1.IsKeyIter it a (n+1) ks.length ep:=by rw[hl];exact st1
  obtain⟨o,e,c,q⟩:=id st2;exact zL (s:={ s with heap:=h1 }) e c q (by decide) ⟨.ref p,H,I1,by rw[k2];rfl,⟨rfl,k,p,by rw[<-ek];exact k1,rfl,k3⟩,st2,fun b hb=>(hf b hb).1⟩
 done:=by
  intro X hP hw hK hc n pins s σ H E Iv hf st hg;subst hP hw hK;obtain⟨hi,ob,es,kvs,hq,d,ek⟩:=hg;obtain⟨g1,g2,g3⟩:=wH Iv.hok hq d;have hl:ks.length=es.size:=by rw[<-ek,Q9,g2]
  obtain⟨f0,f1,f2,f3⟩:=hf it (by simp);exact u7 (Iv.ok.hd hc) (by rw[<-hl];exact st) g1 d (by omega) fun h1 eb=>⟨rfl,Iv.turned (t':=s.toks) (fun b o hb e=>eb b o hb e) f0 f1 f3.1 f3.2.1 f3.2.2⟩
 self:=fun _ _ _ _ _ st h=>wpAny_pyIter_keyiter st h
def AN(X:Cx)(tl:TE):TI:=fun σ H R=>tl σ H fun x H1=>∃a kvs,x=.ref a/\H1 a=some (.dT kvs)/\∀ob es ep,GG X a->ob.data=.dict es ep->R (Itt a ep (kvs.map (·.1))) (upd H1 a (.frz ob (.dT kvs)))
theorem yk{X:Cx}{tg l:Expr}{tl:TE}(hl:WE X l tl):WI X tg l (AN X tl):=by
 constructor;intro pins s σ H R I h;refine thn (hl.h pins s σ H _ I h) fun v s1 hz=>?_;obtain⟨x,H1,I1,r1,q1⟩:=hz;obtain⟨a,kvs,rfl,hq,q⟩:=q1;have hq0:=hq;cases r1;obtain⟨hz,hs,xs,rv,ob,es,ep,e1,e2,e3,e4,e5⟩:=(show bx X.prog X.w H1 s1.heap a (.dT kvs)from I1.hok a _ hq);have hl:kvs.length=es.size:=by rw[size_of_entries e4];exact Paired.length rv
 have nf:GG X a:=fun ob' u' z=>by have:=I1.base.frzs a ob' u' z;rw[hq]at this;cases this
 have mono:∀{l:List (List Key×V)} {m:List (List Key×Addr×Value)} (fz:HO),Paired (fun(p:List Key×V) (q:List Key×Addr×Value)=>p.1=q.1/\H1 q.2.1=some (.tup (p.1.map kV))/\bP p.2 q.2.2) l m->Paired (fun(p:List Key×V) (q:List Key×Addr×Value)=>p.1=q.1/\(upd H1 a fz) q.2.1=some (.tup (p.1.map kV))/\bP p.2 q.2.2) l m:=by
  intro l m fz z;induction z with
  |nil=>exact .nil
  |cons hq t ih=>exact .cons ⟨hq.1,by rw[aT (fun e=>by rw[e,hq0]at hq;cases hq.2.1)];exact hq.2.1,hq.2.2⟩ ih
 have rv2:=mono (.frz ob (.dT kvs)) rv;have I2:Inv X pins σ (upd H1 a (.frz ob (.dT kvs))) s1:=rH I1 hq (by simp) (by simp) (by simp) nf ⟨e1,hz,hs,xs,rv2,ob,es,ep,e1,e2,e3,e4,e5⟩;refine qS hs e1 e2 e3 ?_;refine⟨s1.heap.objs.size,[s1.heap.objs.size],_,_,_,rfl,I2.kept (t':=s1.toks) fun b o g=>Q3 _ g,sy a _,⟨_,QY _ rfl,rfl,by rw[Q9,hl];rfl⟩,fun b hb=>?_,q ob es ep nf e3⟩;simp only[QH,ZV,or_false]at hb;subst hb;exact I2.fpOk (QJ _) (I2.hok.fresh (QJ _))
theorem wo{X:Cx}{pins:List (Addr×Obj)}{σ:L2.St}{H:Hp}{s:Shared}{a:Addr}{ob:Obj}{kvs:List (List Key×V)}(I:Inv X pins σ H s)(nf:GG X a)(e:H a=some (.frz ob (.dT kvs))):Inv X pins σ (upd H a (.dT kvs)) s:=by
 obtain⟨_,hz,hs,xs,rv,rest⟩:=(show bx X.prog X.w H s.heap a (.frz ob (.dT kvs))from I.hok a _ e);have mono:∀{l:List (List Key×V)} {m:List (List Key×Addr×Value)} (fz:HO),Paired (fun(p:List Key×V) (q:List Key×Addr×Value)=>p.1=q.1/\H q.2.1=some (.tup (p.1.map kV))/\bP p.2 q.2.2) l m->Paired (fun(p:List Key×V) (q:List Key×Addr×Value)=>p.1=q.1/\(upd H a fz) q.2.1=some (.tup (p.1.map kV))/\bP p.2 q.2.2) l m:=by
  intro l m fz z;induction z with
  |nil=>exact .nil
  |cons hq t ih=>exact .cons ⟨hq.1,by rw[aT (fun q=>by rw[q,e]at hq;cases hq.2.1)];exact hq.2.1,hq.2.2⟩ ih
 exact rH I e (by simp) (by simp) (by simp) nf ⟨hz,hs,xs,mono _ rv,rest⟩
theorem rF{K:Q4}{m:List Addr}{H:Hp}:∀ks:List Key,IsL K m H (ks.map kV) (ks.map kU)
 |[]=>.nil_
 |k::r=>.cons_ (AK k) (rF r)
theorem zC{K:Q4}{m:List Addr}{H:Hp}{a:Addr}{l ep:Nat}{kus:List (List Key×U)}(ha:m[l]?=some a):Aj K (Itt a ep (kus.map (·.1))) m H (kus.map fun q=>.tup (q.1.map kU)) (fun S'=>S'[l]?=some (.fdt ep kus)):=by
 intro m2 S2 H2 i e sr hok;obtain⟨a',ha',ob,es,kvs,hx,hd,ip⟩:=sr.get hok;have ha2:=e.get ha;rw[ha2]at ha';cases ha';have hz:FzT H2 a ep (kus.map (·.1)):=⟨ob,es,kvs,hx,hd,ip.1⟩;refine⟨fun u hu=>?_,fun hu=>⟨by simpa using hu,hz⟩⟩;have hi:i<kus.length:=by have:=(Q7.mp hu).1;simpa using this
 refine⟨⟨by simpa using hi,hz⟩,?_⟩;rintro x H3 ⟨rfl,k,p,hk,rfl,hp⟩;refine⟨.refl,sr,?_⟩;rw[Qr]at hk hu;rw[Q6 hi]at hk hu;cases hk;cases hu;exact .tup_ (.inl (.inl hp)) (rF _)
end OP
namespace OP
open PySem PySem.Spec PyProof PyProof.Rows L2 OG PySem.W
theorem ig{prog:Program}{w:World}{A:Around}{E:Value->Shared->Prop}{s:Shared}{a:Addr}{vs:List Value}{n:Nat}{P:PySem.Fin->Shared->Prop}
  (g:s.heap.get? a=some (seqObj "list" vs.toArray n)) (h2:2<=vs.length) (h64:vs.length<64)
  (ask:∀h':Heap,(∀b o,b≠a->s.heap.get? b=some o->h'.get? b=some o)->wpAny (model prog w) A (keyKind' vs.toArray) (fun κ s'=>s'={ s with heap:=h' }/\KasT.kasWp (kas_ask prog w A κ vs) (kas_sort vs.length)
   (fun p s''=>s''={ s with heap:=h' }/\P (Fin.done (Flow.ret Value.none)) { s with heap:=sortedHeap s.heap a vs (p.toList.map fun i=>vs.getD i Value.none).toArray }) { s with heap:=h' }) E { s with heap:=h' }) :
  wpAny (model prog w) A (Builtin.«list.sort» { pos:=[Value.ref a] }) P E s:=by
 rw[list_sort_plain];have hS:vs.toArray.size=vs.length:=by simp
 have hz:vs.length<=sizeLine:=by unfold sizeLine;omega
 have lt:=QX g;refine Q0 (listItems_at g rfl (Q0 (listUpdate_at g rfl ?_ (by rw[hS];exact hz) (by simp))));obtain⟨e1,g1⟩:∃e1,(s.heap.update a (Obj.mapSeq fun _=>#[])).get? a=some (seqObj "list" #[] e1):=⟨_,get?_update_seq g fun _=>#[]⟩;refine Q0 (seqEpoch_at g1 rfl (Q0 (wpAny_newTuple (Q0 (wpAny_newList (wpAny_holding ?_) (by simp))) (by simpa using hz))));have hu:(s.heap.update a (Obj.mapSeq fun _=>#[])).objs.size=s.heap.objs.size:=Heap.size_update ..;have g2:(((s.heap.update a (Obj.mapSeq fun _=>#[])).push (seqObj "tuple" vs.toArray 0)).push (seqObj "list" #[] 0)).get? a=some (seqObj "list" #[] e1):=
  Q3 _ (Q3 _ g1)
 have n2:¬vs.toArray.size<2:=by rw[hS];omega
 dsimp only;rw[if_neg n2];have hk:∀b o,b≠a->s.heap.get? b=some o->(((s.heap.update a (Obj.mapSeq fun _=>#[])).push (seqObj "tuple" vs.toArray 0)).push (seqObj "list" #[] 0)).get? b=some o:=fun b o hb ho=>by
  refine Q3 _ (Q3 _ ?_);rw[Heap.get?_update_ne _ _ _ _ hb];exact ho
 refine Q0 (ZY (ask _ hk) (fun κ s' hs'=>?_) fun _ _ h'=>h');obtain⟨rfl,hrun⟩:=hs';rw[if_neg n2];refine Q0 (ZY (kat_run (ks:=vs) (Q:=fun st' s'=>∃p:Array Nat,p.size=vs.length/\arrOf st'=Array.map (kas_item (vs.toArray.zip vs.toArray)) p/\failedOf st'=none/\s'=_/\P (Fin.done (Flow.ret Value.none)) { s with heap:=sortedHeap s.heap a vs (p.toList.map fun i=>vs.getD i Value.none).toArray }) rfl h2 h64 (fun p st' s' hp harr hfail hG=>⟨p,hp,harr,hfail,hG⟩) hrun) (fun r s' hr=>?_) fun _ _ h'=>h');obtain⟨u,st'⟩:=r;obtain⟨p,hp,harr,hfail,rfl,hP⟩:=hr;have hout:Array.map (fun x=>x.snd) (arrOf st')=(p.toList.map fun i=>vs.getD i Value.none).toArray:=kat_snds rfl harr;refine Q0 (seqEpoch_at g2 rfl (Q0 (listUpdate_at g2 rfl ?_ (by simp) ?_)))
 ·dsimp only at hfail ⊢;rw[hfail];simp only[bne_self_eq_false,Qx,if_false];have hP':=hP;rw[<-hout]at hP';exact Q5 hP'
 ·dsimp only;rw[hout];simp;unfold sizeLine;omega
def bC(h:Heap)(v:Value)(p:Int×Int):Prop:=∃b o t1 t2 e,v=Value.ref b/\h.get? b=some o/\o.cls=Value.type "tuple"/\o.data=Data.seq #[Value.int p.1 t1,Value.int p.2 t2] e
def ltP(p q:Int×Int):Bool:=decide (p.1<q.1\/p.1=q.1/\p.2<q.2)
section
variable{prog:Program}{w:World}{A:Around}{E:Value->Shared->Prop}{s:Shared}
theorem iP{b:Bool}{x y:Int}{t u:Tok}{Q:Bool->Shared->Prop}(h:Q (decide (x<y)) s):wpAny (model prog w) A (oneLt' b (Value.int x t) (Value.int y u)) Q E s:=by
 cases b with
 |true=>exact oneLt_int h
 |false=>
  rw[oneLt'_eq];dsimp only;rw[if_neg QM];exact Q0 (wpAny_lt_int (wpAny_truthy_bool h))
theorem CF{v v':Value}{p p':Int×Int}{C:Bool->Shared->Prop}(h:bC s.heap v p)(h':bC s.heap v' p')(c:C (ltP p p') s):wpAny (model prog w) A (keyLt' (tuples' true) v v') C E s:=by
 obtain⟨b,o,t1,t2,e,rfl,g,_,d⟩:=h;obtain⟨b',o',t1',t2',e',rfl,g',_,d'⟩:=h';refine kat_lt g d g' d' (kat_cons (wpAny_eqBool_int ?_));by_cases e1:p.1=p'.1
 ·rw[e1,beq_self_eq_true];refine kat_yes (kat_cons (wpAny_eqBool_int ?_));by_cases e2:p.2=p'.2
  ·rw[e2,beq_self_eq_true];refine kat_yes (kat_nil ?_);have:ltP p p'=false:=by simp[ltP,e1,e2]
   rw[this]at c;exact c
  ·rw[beq_eq_false_iff_ne.mpr e2];refine kat_no (iP ?_);have:ltP p p'=decide (p.2<p'.2):=by simp[ltP,e1]
   rw[this]at c;exact c
 ·rw[beq_eq_false_iff_ne.mpr e1];refine kat_no (iP ?_);have:ltP p p'=decide (p.1<p'.1):=by simp[ltP,e1]
  rw[this]at c;exact c
def cR(h:Heap):List Value->List (Int×Int)->Prop
 |[],[]=>True
 |v::vs,p::ps=>bC h v p/\cR h vs ps
 |_,_=>False
theorem dS{h:Heap}:∀{vs:List Value} {ps:List (Int×Int)},cR h vs ps->vs.length=ps.length
 |[],[],_=>rfl
 |_::_,_::_,k=>by rw[QB,QB,dS k.2]
 |[],_::_,k=>k.elim
 |_::_,[],k=>k.elim
theorem fh{h:Heap}:∀{vs:List Value} {ps:List (Int×Int)} {i:Nat},cR h vs ps->i<ps.length->bC h (vs.getD i Value.none) (ps.getD i (0,0))
 |[],[],_,_,k=>absurd k (Nat.not_lt_zero _)
 |_::_,_::_,0,k,_=>k.1
 |_::vs,_::ps,i+1,k,l=>by
  show bC h (vs.getD i Value.none) (ps.getD i (0,0));exact fh k.2 (by rw[QB]at l;omega)
 |[],_::_,_,k,_=>k.elim
 |_::_,[],_,k,_=>k.elim
theorem vC{h h':Heap}{v:Value}{p:Int×Int}{a:Addr}(k:bC h v p)(hv:v≠.ref a)(m:∀b o,b≠a->h.get? b=some o->h'.get? b=some o):bC h' v p:=by
 obtain⟨b,o,t1,t2,e,rfl,g,c,d⟩:=k;exact⟨b,o,t1,t2,e,rfl,m b o (fun e=>hv (by rw[e])) g,c,d⟩
theorem iN{h h':Heap}{a:Addr}(m:∀b o,b≠a->h.get? b=some o->h'.get? b=some o):∀{vs:List Value} {ps:List (Int×Int)},cR h vs ps->(∀v∈vs,v≠.ref a)->cR h' vs ps
 |[],[],_,_=>trivial
 |v::vs,_::_,k,hv=>⟨vC k.1 (hv v QK) m,iN m k.2 fun x hx=>hv x (QU _ hx)⟩
 |[],_::_,k,_=>k.elim
 |_::_,[],k,_=>k.elim
theorem lC{h:Heap}:∀{vs:List Value} {ps:List (Int×Int)},cR h vs ps->∃fs,KatTups h vs fs/\fs.length=vs.length/\∀f∈fs,∃i t,f=Value.int i t
 |[],[],_=>⟨[],trivial,rfl,fun f hf=>by cases hf⟩
 |v::vs,p::ps,k=>by
  obtain⟨fs,h1,h2,h3⟩:=lC k.2;obtain⟨b,o,t1,t2,e,hv,g,c,d⟩:=k.1;refine⟨Value.int p.1 t1::fs,⟨⟨b,o,_,e,hv,g,c,d,rfl⟩,h1⟩,by rw[QB,QB,h2],fun f hf=>?_⟩;rcases QH.mp hf with z|z
  ·exact⟨_,_,z⟩
  ·exact h3 f z
 |[],_::_,k=>k.elim
 |_::_,[],k=>k.elim
theorem sP{vs:List Value}{ps:List (Int×Int)}{Q:SortKind->Shared->Prop}(h:cR s.heap vs ps)(hn:0<vs.length)(q:Q (tuples' true) s):wpAny (model prog w) A (keyKind' vs.toArray) Q E s:=by
 obtain⟨fs,h1,h2,h3⟩:=lC h;refine kat_kind (T:=Value.type "int") h1 (by omega) (fun v hv A Q E s' _ q=>?_) (by decide +kernel) (by exact q);obtain⟨i,t,rfl⟩:=h3 v hv;exact wpAny_typeOf (typeIs_int s' i t) q
end
theorem FY{ps:List (Int×Int)}(nd:ps.Nodup):xU ps.length fun i j=>ltP (ps.getD i (0,0)) (ps.getD j (0,0)) where
 tr:=fun{i j k} hi hj hk h1 h2=>by simp only[ltP,decide_eq_true_eq]at *;omega
 asym:=fun{i j} hi hj h=>by simp only[ltP,decide_eq_true_eq,decide_eq_false_iff_not]at *;omega
 tot:=fun{i j} hi hj hne h=>by
  simp only[ltP,decide_eq_true_eq,decide_eq_false_iff_not]at *;have hd:ps.getD i (0,0)≠ps.getD j (0,0):=by
   rw[QQ,QQ,Q6 hi,Q6 hj];simp only[Ql];exact fun e=>hne ((List.getElem_inj nd).mp e)
  have:¬((ps.getD i (0,0)).1=(ps.getD j (0,0)).1/\(ps.getD i (0,0)).2=(ps.getD j (0,0)).2):=fun e=>hd (Prod.ext e.1 e.2);omega
theorem fk{prog:Program}{w:World}{A:Around}{E:Value->Shared->Prop}{s:Shared}{a:Addr}{vs:List Value}{n:Nat}{P:PySem.Fin->Shared->Prop}
  (g:s.heap.get? a=some (seqObj "list" vs.toArray n)) (h2:vs.length<2) (hP:P (Fin.done (Flow.ret Value.none)) { s with heap:=sortedHeap s.heap a vs vs.toArray }) :
  wpAny (model prog w) A (Builtin.«list.sort» { pos:=[Value.ref a] }) P E s:=by
 rw[list_sort_plain];have hS:vs.toArray.size=vs.length:=by simp
 have hz:vs.length<=sizeLine:=by unfold sizeLine;omega
 refine Q0 (listItems_at g rfl (Q0 (listUpdate_at g rfl ?_ (by rw[hS];exact hz) (by simp))));obtain⟨e1,g1⟩:∃e1,(s.heap.update a (Obj.mapSeq fun _=>#[])).get? a=some (seqObj "list" #[] e1):=⟨_,get?_update_seq g fun _=>#[]⟩;refine Q0 (seqEpoch_at g1 rfl (Q0 (wpAny_newTuple (Q0 (wpAny_newList (wpAny_holding ?_) (by simp))) (by simpa using hz))));have g2:(((s.heap.update a (Obj.mapSeq fun _=>#[])).push (seqObj "tuple" vs.toArray 0)).push (seqObj "list" #[] 0)).get? a=some (seqObj "list" #[] e1):=
  Q3 _ (Q3 _ g1)
 have n2:vs.toArray.size<2:=by rw[hS];omega
 dsimp only;rw[if_pos n2];refine Q0 (Q5 ?_);rw[if_pos n2];refine Q0 (Q5 ?_);have hout:Array.map (fun x=>x.snd) (arrOf (SortSt.mk' general' (vs.toArray.zip vs.toArray) #[] 7 none))=vs.toArray:=by
  show Array.map (fun x=>x.snd) (vs.toArray.zip vs.toArray)=vs.toArray;simp[List.map_snd_zip]
 refine Q0 (seqEpoch_at g2 rfl (Q0 (listUpdate_at g2 rfl ?_ (by simp) ?_)))
 ·have hfail:failedOf (SortSt.mk' general' (vs.toArray.zip vs.toArray) #[] 7 none)=none:=rfl;dsimp only at hfail ⊢;simp only[hfail,bne_self_eq_false,Qx,if_false];have hP':=hP;rw[<-hout]at hP';exact Q5 hP'
 ·dsimp only;rw[hout];rw[hS];omega
def Ha(ps:List (Int×Int))(q:Array Nat):Prop:=Pm ps.length q/\Asc (fun i j=>ltP (ps.getD i (0,0)) (ps.getD j (0,0))) q ps.length
theorem jV{prog:Program}{w:World}{A:Around}{E:Value->Shared->Prop}{s:Shared}{a:Addr}{vs:List Value}{ps:List (Int×Int)}{n:Nat}{P:PySem.Fin->Shared->Prop}
  (g:s.heap.get? a=some (seqObj "list" vs.toArray n)) (hp:cR s.heap vs ps) (hv:∀v∈vs,v≠.ref a) (nd:ps.Nodup) (h64:ps.length<64)
  (k:∀q:Array Nat,Ha ps q->P (Fin.done (Flow.ret Value.none)) { s with heap:=sortedHeap s.heap a vs (q.toList.map fun i=>vs.getD i Value.none).toArray }) :
  wpAny (model prog w) A (Builtin.«list.sort» { pos:=[Value.ref a] }) P E s:=by
 have hl:=dS hp;by_cases h2:vs.length<2
 ·have hr:((Qy ps.length).toArray.toList.map fun i=>vs.getD i Value.none)=vs:=by
   rw[<-hl];refine Zt fun i=>?_;by_cases hi:i<vs.length
   ·simp[List.getElem?_range hi,Q6 hi]
   ·simp[ZK (Nat.le_of_not_lt hi),hi]
  have:=k (Qy ps.length).toArray ⟨mz,fun i j hij hj=>by omega⟩;rw[hr]at this;exact fk g h2 this
 ·refine ig g (by omega) (by omega) fun h' m=>?_;have hp':cR ({ s with heap:=h' }:Shared).heap vs ps:=iN m hp hv;refine sP hp' (by omega) ⟨rfl,?_⟩;have hl':vs.length=ps.length:=hl;rw[hl'];refine uK (FY nd) (fun i j C hi hj c=>?_) (by omega) fun q P1 P2=>⟨rfl,k q ⟨P1,P2⟩⟩;exact CF (fh hp' hi) (fh hp' hj) c
theorem lD{h:Heap}:∀{vs:List Value} {ps:List (Int×Int)},cR h vs ps->∀v∈vs,∀a,h.objs.size<=a->v≠.ref a
 |[],[],_,v,hv,_,_=>by cases hv
 |_::_,_::_,k,v,hv,a,ha=>by
  rcases QH.mp hv with z|z
  ·obtain⟨b,o,t1,t2,e,e1,g,_⟩:=k.1;rw[z,e1];intro e2;cases e2;exact absurd (QX g) (Zl.mpr ha)
  ·exact lD k.2 v z a ha
 |[],_::_,k,_,_,_,_=>k.elim
 |_::_,[],k,_,_,_,_=>k.elim
def PrL(K:Q4)(H:Hp):List V->List (Int×Int)->Prop
 |[],[]=>True
 |x::xs,p::ps=>(∃a,x=.ref a/\SqT K H a [.int p.1,.int p.2])/\PrL K H xs ps
 |_,_=>False
theorem my{K:Q4}{H:Hp}:∀{ys:List V} {ps:List (Int×Int)},PrL K H ys ps->ys.length=ps.length
 |[],[],_=>rfl
 |_::_,_::_,k=>by rw[QB,QB,my k.2]
 |[],_::_,k=>k.elim
 |_::_,[],k=>k.elim
theorem vo{X:Cx}{pins:List (Addr×Obj)}{σ:L2.St}{H:Hp}{s:Shared}(I:Inv X pins σ H s):∀{ys:List V} {ps:List (Int×Int)} {vs:List Value},PrL X.K H ys ps->a5 ys vs->cR s.heap vs ps
 |[],[],_,_,r=>by cases r;trivial
 |_::_,p::ps,_,k,r=>by
  cases r with
  |cons r1 r2=>
   refine⟨?_,vo I k.2 r2⟩;obtain⟨a,rfl,hs⟩:=k.1;obtain⟨its,rv,⟨o,g,c,n,d⟩,_⟩:=I.tuple hs;cases r1;cases rv with
   |cons u1 u2=>cases u2 with
    |cons u3 u4=>
     cases u4;obtain⟨t1,rfl⟩:=u1;obtain⟨t2,rfl⟩:=u3;exact⟨a,o,t1,t2,n,rfl,g,c,d⟩
 |[],_::_,_,k,_=>k.elim
 |_::_,[],_,k,_=>k.elim
theorem yp{ys:List V}{vs:List Value}(r:a5 ys vs){i:Nat}(hi:i<ys.length):bP (ys.getD i .non) (vs.getD i Value.none):=by
 induction r generalizing i with
 |nil=>simp at hi
 |cons r1 r2 ih=>
  cases i with
  |zero=>exact r1
  |succ i=>exact ih (by simpa using hi)
theorem jb{ys:List V}{vs:List Value}(r:a5 ys vs):∀(is:List Nat),(∀i∈is,i<ys.length)->a5 (is.map fun i=>ys.getD i .non) (is.map fun i=>vs.getD i Value.none)
 |[],_=>.nil
 |i::is,h=>.cons (yp r (h i QK)) (jb r is fun j hj=>h j (QU _ hj))
theorem eQ{n:Nat}{q:Array Nat}(P:Pm n q):∀i∈q.toList,i<n:=fun i hi=>by
 obtain⟨j,hj,e⟩:=List.mem_iff_getElem.mp hi;have hj':j<q.size:=by simpa using hj
 have:=P.bd j (by rw[<-P.sz];exact hj');rw[Zq,QR hj']at this;rw[Array.getElem_toList]at e;rw[<-e];exact this
theorem xQ{X:Cx}{pins:List (Addr×Obj)}{σ:List (Option V)}{H H':Hp}{s:Shared}{h':Heap}{t':Nat}(I:Inv X pins σ H s)(k:∀b u,s.heap.get? b=some u->h'.get? b=some u)
  (same:∀b,b<s.heap.objs.size->H' b=H b) (new:∀b u,s.heap.objs.size<=b->H' b=some u->bx X.prog X.w H' h' b u):Inv X pins σ H' { s with heap:=h',toks:=t' }:=by
 have up:∀b u,H b=some u->H' b=some u:=fun b u e=>by
  rw[same b (Nat.lt_of_not_le fun z=>by rw[I.hok.fresh z]at e;cases e)];exact e
 refine I.un ⟨fun b u q _ _ _=>k b u q,fun b u q _ _ _=>⟨u.slots,k b u q⟩,fun b u q n _=>?_,fun b u q _=>⟨u,k b u q⟩,fun b xs q=>up b _ q,fun b u xs q=>up b _ q,fun b ps q=>⟨#[],by rw[up b _ q];simp⟩⟩ fun b u e=>?_
 ·rw[same b (QX q)];exact n
 ·by_cases hb:b<s.heap.objs.size
  ·rw[same b hb]at e;exact(I.hok b u e).stay (fun c v _ q=>k c v q) (fun c q=>up c _ q) fun c xs q=>up c _ q
  ·exact new b u (Nat.le_of_not_lt hb) e
theorem lZ:∀as:List Addr,a5 (as.map V.ref) (as.map Value.ref)
 |[]=>.nil
 |a::r=>.cons rfl (lZ r)
theorem mK{p:Int×Int}:ltP p p=false:=by simp[ltP]
theorem zm{p q:Int×Int}(h:ltP p q=true)(k:ltP q p=true):False:=by simp only[ltP,decide_eq_true_eq]at h k;omega
theorem rX:∀{L M:List (Int×Int)},L.Pairwise (fun a b=>ltP a b=true)->M.Pairwise (fun a b=>ltP a b=true)->(∀x,x∈L↔x∈M)->L=M
 |[],[],_,_,_=>rfl
 |[],m::M,_,_,h=>by have:=(h m).mpr QK;cases this
 |l::L,[],_,_,h=>by have:=(h l).mp QK;cases this
 |l::L,m::M,h1,h2,h=>by
  obtain⟨a1,b1⟩:=Z0.mp h1;obtain⟨a2,b2⟩:=Z0.mp h2;have e:l=m:=by
   rcases QH.mp ((h l).mp QK)with z|z
   ·exact z
   ·rcases QH.mp ((h m).mpr QK)with y|y
    ·exact y.symm
    ·exact(zm (a2 l z) (a1 m y)).elim
  subst e;congr 1;refine rX b1 b2 fun x=>⟨fun hx=>?_,fun hx=>?_⟩
  ·rcases QH.mp ((h x).mp (QU _ hx))with z|z
   ·subst z;have:=a1 x hx;rw[mK]at this;cases this
   ·exact z
  ·rcases QH.mp ((h x).mpr (QU _ hx))with z|z
   ·subst z;have:=a2 x hx;rw[mK]at this;cases this
   ·exact z
open Classical in
def bD(ps:List (Int×Int)):List (Int×Int):=if h:∃L:List (Int×Int),L.Pairwise (fun a b=>ltP a b=true)/\∀x,x∈L↔x∈ps then h.choose else[]
theorem jd{L ps:List (Int×Int)}(h1:L.Pairwise (fun a b=>ltP a b=true))(h2:∀x,x∈L↔x∈ps):bD ps=L:=by
 have h:∃L:List (Int×Int),L.Pairwise (fun a b=>ltP a b=true)/\∀x,x∈L↔x∈ps:=⟨L,h1,h2⟩;unfold bD;rw[dif_pos h];obtain⟨k1,k2⟩:=h.choose_spec;exact rX k1 h1 fun x=>(k2 x).trans (h2 x).symm
theorem xC{ps:List (Int×Int)}{q:Array Nat}(h:Ha ps q):bD ps=q.toList.map fun i=>ps.getD i (0,0):=by
 obtain⟨P,A⟩:=h;have hl:q.toList.length=ps.length:=by rw[QD,P.sz]
 have gd:∀i (hi:i<q.toList.length),q.getD i 0=q.toList[i]:=fun i hi=>by
  have hi':i<q.size:=by simpa using hi
  rw[Zq,QR hi',Array.getElem_toList];rfl
 have h1:(q.toList.map fun i=>ps.getD i (0,0)).Pairwise (fun a b=>ltP a b=true):=by
  rw[Z8];intro i j hi hj hij;rw[Q9]at hi hj;rw[List.getElem_map,List.getElem_map,<-gd i hi,<-gd j hj];exact A i j hij (by omega)
 have nd:(q.toList.map fun i=>ps.getD i (0,0)).Nodup:=h1.imp fun{a b} h e=>by subst e;rw[mK]at h;cases h
 have sub:∀x∈q.toList.map fun i=>ps.getD i (0,0),x∈ps:=fun x hx=>by
  obtain⟨i,hi,rfl⟩:=Qu.mp hx;have:=eQ P i hi;rw[QQ,Q6 this];exact Z9 this
 refine jd h1 fun x=>⟨sub x,fun hx=>?_⟩;refine Classical.byContradiction fun hn=>?_;have:=List.Nodup.length_le_of_subset (ZJ.mpr ⟨hn,nd⟩) (l₂:=ps) fun y hy=>by
  rcases QH.mp hy with z|z
  ·rw[z];exact hx
  ·exact sub y z
 rw[QB,Q9,hl]at this;omega
def pP(p:Int×Int):U:=.tup [.int p.1,.int p.2]
def lF:List U->Option (List (Int×Int))
 |[]=>some []
 |.tup [.int a,.int b]::r=>(lF r).map ((a,b)::·)
 |_=>none
theorem lE:∀ps:List (Int×Int),lF (ps.map pP)=some ps
 |[]=>rfl
 |p::ps=>by rw[QF,pP,lF,lE ps];rfl
theorem nU:∀{us:List U} {ps:List (Int×Int)},lF us=some ps->us=ps.map pP
 |[],ps,h=>by cases h;rfl
 |u::us,ps,h=>by
  unfold lF at h;split at h
  ·rename_i e;cases e
  ·rename_i e;injection e with e1 e2;subst e1;subst e2;obtain⟨qs,e,h⟩:=Qt.mp h;subst h;rw[QF,<-nU e];rfl
  ·cases h
section
variable{K:Q4}{m:List Addr}{H:Hp}
theorem AA:∀{ys:List V} {ps:List (Int×Int)},IsL K m H ys (ps.map pP)->PrL K H ys ps
 |ys,[],h=>by rw[h.of_nil];trivial
 |ys,p::ps,h=>by
  obtain⟨y,r,rfl,i,t⟩:=h.of_cons;obtain⟨a,xs,rfl,hs,il⟩:=i.of_tup;have e:xs=[p.1,p.2].map V.int:=IsL.ints (ns:=[p.1,p.2]) il;subst e;exact⟨⟨a,rfl,hs⟩,AA t⟩
theorem vm:∀{ys:List V} {ps:List (Int×Int)} {i:Nat},PrL K H ys ps->i<ps.length->Is K m H (ys.getD i .non) (pP (ps.getD i (0,0)))
 |[],[],i,_,h=>by simp at h
 |y::ys,p::ps,0,k,_=>by
  obtain⟨a,e,hs⟩:=k.1;show Is K m H y (pP p);rw[e];exact .tup_ hs (fK [p.1,p.2])
 |y::ys,p::ps,i+1,k,h=>by
  show Is K m H (ys.getD i .non) (pP (ps.getD i (0,0)));exact vm k.2 (by simpa using h)
 |[],_::_,_,k,_=>k.elim
 |_::_,[],_,k,_=>k.elim
theorem vk{ys:List V}{ps:List (Int×Int)}(k:PrL K H ys ps):∀is:List Nat,(∀i∈is,i<ps.length)->IsL K m H (is.map fun i=>ys.getD i .non) (is.map fun i=>pP (ps.getD i (0,0)))
 |[],_=>.nil_
 |i::is,h=>.cons_ (vm k (h i QK)) (vk k is fun j hj=>h j (QU _ hj))
end
section
variable{X:Cx}{K:Q4}
def Ay:V->List V->Hp->VK->Prop:=fun x vs H Q=>∃(l:Addr) (ns:List Int) (z:Int) (j:Nat),x=.ref l/\vs=[.int z]/\H l=some (.lst (ns.map V.int))/\ns[j]?=some z/\(∀m,m<j->ns[m]?≠some z)/\j<1000000/\Q (.int (j:Nat)) H
def wm(z:Int):Value->Bool
 |.int i _=>i == z
 |_=>false
theorem nE{ns:List Int}{its:List Value}(r:a5 (ns.map V.int) its){i:Nat}{v:Value}(h:its[i]?=some v):∃n t,ns[i]?=some n/\v=Value.int n t:=by
 have hi:i<its.length:=(Q7.mp h).1;have hl:=r.length;rw[Q9]at hl;have hn:i<ns.length:=by omega
 obtain⟨u,e1,e2⟩:=r.get (i:=i) (x:=.int ns[i]) (by rw[Qr,Q6 hn];rfl);rw[h]at e1;cases e1;obtain⟨t,e⟩:=e2;exact⟨_,t,Q6 hn,e⟩
theorem zi:MtM X "list.index" Ay:=by
 intro pins s σ H x vs v us Q I rx rv h;obtain⟨l,ns,z,j,rfl,rfl,hH,hj,hm,hb,q⟩:=h;cases rx;obtain⟨u,rfl,ru⟩:=rv.one;obtain⟨tz,rfl⟩:=ru;obtain⟨_,its,n,r,hl,e⟩:=I.lstM hH;have hlen:=r.length;rw[Q9]at hlen;have hj':j<its.toArray.size:=by have:=(Q7.mp hj).1;simp;omega
 have at_:∀(m:Nat) (hm:m<its.toArray.size),∃k t,ns[m]?=some k/\its.toArray[m]=Value.int k t:=fun m hm=>by
  have hm':m<its.length:=by simpa using hm
  obtain⟨k,t,e1,e2⟩:=nE r (Q6 hm');exact⟨k,t,e1,by simpa using e2⟩
 refine call_meets PySem.F.slot_list_index ⟨_,e,rfl⟩ PySem.F.entry_list_index (PySem.F.args_list_index_2 _ _) (PySem.MeetsSeq.list_index l its.toArray n (Value.int z tz) (wm z) (fun y hy=>?_) j hj' (by omega) ?_ fun m hm1 hm2=>?_) ⟨e,?_⟩
 ·obtain⟨m,hm1,rfl⟩:=Array.mem_iff_getElem.mp hy;obtain⟨k,t,_,e2⟩:=at_ m hm1;rw[e2];exact PySem.MeetsSeq.EqGives.int _ _ _ _
 ·obtain⟨k,t,e1,e2⟩:=at_ j hj';rw[e2];rw[hj]at e1;cases e1;simp[wm]
 ·obtain⟨k,t,e1,e2⟩:=at_ m hm1;rw[e2];simp only[wm,beq_eq_false_iff_ne];intro e3;exact hm m hm2 (by rw[e1,e3])
 ·exact⟨.int (j:Nat),_,I.kept (fun b o g=>g),⟨_,rfl⟩,q⟩
theorem AM:∀{ns:List Int} {z:Int} {k:Nat} (h:k<ns.length),ns[k]=z->ns.idxOf z<=k
 |[],_,_,h,_=>absurd h (Nat.not_lt_zero _)
 |n::ns,z,0,_,e=>by
  have:n=z:=e;subst this;simp
 |n::ns,z,k+1,h,e=>by
  rw[List.idxOf_cons];have:=AM (ns:=ns) (z:=z) (k:=k) (by simpa using h) (by simpa using e);cases (n == z)<;>simp<;>omega
def aP:U->List U->Sto->Option (U×Sto)
 |.ref l,[.int z],S=>match S[l]? with
  |some (.lst us)=>(mM us).bind fun ns=>if z∈ns/\ns.length<=LIM then some (.int (ns.idxOf z:Nat),S)else none
  |_=>none
 |_,_,_=>none
theorem CN:MtP K Ay aP:=by
 intro m S H x v us vs u S' Q sr ix i hf post;match x,us,hf with
 |.ref l,[.int z],hf=>
  simp only[aP]at hf;split at hf<;>try cases hf
  rename_i ws hS;obtain⟨ns,hn,h⟩:=Q2.mp hf;split at h<;>try cases h
  have hk:z∈ns/\ns.length<=LIM:=by assumption
  obtain⟨a,ha,rfl⟩:=ix.of_ref;obtain⟨a',ha',xs,hx,la⟩:=sr.get hS;rw[ha]at ha';cases ha';obtain⟨y,rfl,iy⟩:=i.one;rw[ik hn]at la;rw[la.ints]at hx;have hlt:ns.idxOf z<ns.length:=Qo hk.1;have hL:ns.length<=100000:=hk.2;refine⟨a,ns,z,ns.idxOf z,rfl,by rw[iy.of_int],hx,?_,fun k hk e=>?_,by omega,post m _ _ .refl sr .int_⟩
  ·rw[Q6 hlt,List.getElem_idxOf]
  ·obtain⟨h1,h2⟩:=Q7.mp e;exact absurd (AM h1 h2) (Nat.not_le.mpr hk)
variable{e:Expr}{es:List Expr}{co:CE}{cr:CA}{o:Expr}{apos cpos:Pos}
theorem cP (ho : QE X o co) (ha : QA X (e :: es) cr) (hbase : attributeBase o "index" X.env (eval o X.env) = eval o X.env := by rfl) (hfew : ((backTo cpos (starEach (e :: es) X.env)).all (fun x => !x.1) && (backToKw cpos (keywordEach [] X.env)).all (fun x => x.1.isSome)
   && decide ((e::es).length+([]:List Keyword).length+(if ([]:List Keyword).isEmpty then 0 else 1)<30))=true:=by rfl) (hline:(apos.endLine == cpos.line)=true:=by rfl) (hs:starEach (e::es) X.env=(false,eval e X.env)::starEach es X.env:=by rfl) (hplain:(backTo cpos (starEach es X.env)).any (·.1)=false:=by rfl) :
  QE X (.Call (.Attribute o "index" apos) (e::es) [] cpos) (cBM aP co cr):=(qC PySem.F.plainAttrs_list PySem.F.slot_list_index PySem.F.type_list_index zi ho ha.h hbase hfew hline hs hplain).imp (rV CN)
end
section
variable{X:Cx}{K:Q4}
theorem C2{pins:List (Addr×Obj)}{σ:L2.St}{H:Hp}{s:Shared}{b:Addr}{ks:List Key}(I:Inv X pins σ H s)(sq:SqT X.K H b (ks.map kV)):(tupleKind (bw X.prog X.w)).is s.heap ks b:=by
 obtain⟨its,r,⟨o,h1,h2,n,h3⟩,_⟩:=I.tuple sq;exact⟨o,its.toArray,n,h1,h2,h3,by simpa using jZ r⟩
def ET(K:Q4)(td ty:TE):TE:=fun σ H Q=>td σ H fun x H1=>ty σ H1 fun y H2=>∃(a b:Addr) (kvs:List (List Key×V)) (k:List Key) (v:V),x=.ref a/\y=.ref b/\Rd H2 a (.dT kvs)/\SqT K H2 b (k.map kV)/\kK kvs k=some v/\Q v H2
theorem ur{o i:Expr}{td ty:TE}{pos:Pos}(hu:X.A.units+1<cLine)(ho:WE X o td)(hi:WE X i ty)(hs:DY i):WE X (.Subscript o i pos) (ET X.K td ty):=by
 constructor;intro pins s σ H Q I h;refine uI PySem.F.slot_dict_getitem.lookup hs (thn (ho.h pins s σ H _ I h) fun u s1 hz=>?_);obtain⟨x,H1,I1,rx,q1⟩:=hz;refine thn (hi.h pins s1 σ H1 _ I1 q1) fun iv s2 hz=>?_;obtain⟨y,H2,I2,ry,a,b,kvs,k,v,ex,ey,e,sq,l,q2⟩:=hz;subst ex;subst ey;cases (show u=Value.ref a from rx);cases (show iv=Value.ref b from ry);obtain⟨z,hd,xs,rel,dd⟩:=qd I2.hok e;refine⟨dd.typeIs,?_⟩;obtain⟨w',hw,rw'⟩:=tQ.some_of (v:=v) (o:=(atKey xs k).map (·.2)) (by rw[<-l];exact rel.val k);obtain⟨p,hp,hp2⟩:=Qt.mp hw;refine wpAny_getItem_heap (tupleKind_room_in1 hu) (C2 I2 sq) dd hp ?_;rw[hp2];exact⟨v,H2,I2.tok _,rw',q2⟩
def Di:U->U->Sto->Option (U×Sto):=fun x y S=>match x with
 |.ref l=>match y with
  |.tup us=>(BU us).bind fun ks=>match S[l]? with
   |some (.dit kus)=>(kW kus ks).bind fun u=>some (u,S)
   |some (.fdt _ kus)=>(kW kus ks).bind fun u=>some (u,S)
   |_=>none
  |_=>none
 |_=>none
theorem HY{a b:Expr}{ca cb:CE}{pos:Pos}(hu:X.A.units+1<cLine)(ha:QE X a ca)(hb:QE X b cb)(hs:DY b):QE X (.Subscript a b pos) (cOp Di ca cb):=
 (ur hu ha hb hs).imp fun σ H Q hz=>iA hz fun m ρ S u S' sr lr hc post=>by
 obtain⟨⟨x,S1⟩,h1,h⟩:=Q2.mp hc;obtain⟨⟨y,S2⟩,h3,h4⟩:=Q2.mp h;refine⟨m,ρ,S,_,S1,sr,lr,h1,fun m1 v1 H1 e1 sr1 i1=>⟨m1,ρ,S1,_,S2,sr1,lr.mono e1,h3,fun m2 v2 H2 e2 sr2 i2=>?_⟩⟩;cases x with
 |ref l=>
  cases y with
  |tup us=>
   simp only[Di]at h4;obtain⟨ks,hk,h5⟩:=Q2.mp h4;obtain⟨a,ha,rfl⟩:=(i1.mono e2).of_ref;obtain⟨b,xs,rfl,sb,lb⟩:=i2.of_tup;have hx:=pD lb hk;subst hx;split at h5<;>try cases h5
   ·rename_i kus hS;obtain⟨w,hw,h6⟩:=Q2.mp h5;cases h6;obtain⟨a',ha',kvs,hx,ip⟩:=sr2.get hS;rw[ha]at ha';cases ha';have rf:=IsP.val (k:=ks) ip;rw[hw]at rf;cases hv:kK kvs ks with
    |none=>rw[hv]at rf;exact rf.elim
    |some z=>
     rw[hv]at rf;exact⟨a,b,kvs,ks,z,rfl,rfl,.inl hx,sb,hv,post m2 _ H2 (e1.trans e2) sr2 rf⟩
   ·rename_i ep kus hS;obtain⟨w,hw,h6⟩:=Q2.mp h5;cases h6;obtain⟨a',ha',ob,es,kvs,hx,hd,ip⟩:=sr2.get hS;rw[ha]at ha';cases ha';have rf:=IsP.val (k:=ks) ip;rw[hw]at rf;cases hv:kK kvs ks with
    |none=>rw[hv]at rf;exact rf.elim
    |some z=>
     rw[hv]at rf;exact⟨a,b,kvs,ks,z,rfl,rfl,.inr ⟨ob,hx⟩,sb,hv,post m2 _ H2 (e1.trans e2) sr2 rf⟩
  |_=>cases h4
 |_=>cases h4
theorem yn{e:Expr}{t:TE}(h:WE X e t):WE X e (fun σ H Q=>t σ H fun v H'=>∃a ob kvs,GG X a/\H' a=some (.frz ob (.dT kvs))/\Q v (upd H' a (.dT kvs))):=by
 constructor;intro pins s σ H Q I k;refine thn (h.h pins s σ H _ I k) fun u s1 hz=>?_;obtain⟨v,H1,I1,r1,a,ob,kvs,nf,e,q⟩:=hz;exact⟨v,_,wo I1 nf e,r1,q⟩
def xl(ce:CE)(f:(Sto->Prop)->Nat->List U->Rho->Sto->Option Sto)(n:Nat)(caps:List Nat):CE:=fun ρ S=>(ce ρ S).bind fun p=>match p.1 with
 |.ref l=>match p.2[l]? with
  |some (.dit kus)=>uni fun ep=>(f (fun S'=>S'[l]?=some (.fdt ep kus)) p.2.length (kus.map fun q=>.tup (q.1.map kU)) (jM n caps ρ) (p.2.set l (.fdt ep kus)++[.lst []])).bind fun S'=>match S'[l]? with
   |some (.fdt _ kus')=>some (.ref p.2.length,S'.set l (.dit kus'))
   |_=>none
  |_=>none
 |_=>none
def rQ(ce:CE)(g:CG)(el:CE)(n:Nat)(caps:List Nat):CE:=xl ce (fun ok l=>gq ok g el l) n caps
theorem uw{ce:CE}{f:(Sto->Prop)->Nat->List U->Rho->Sto->Option Sto}{n:Nat}{caps:List Nat}{G:It->Hp->L2.St->VK->Prop}
  (core:∀{J:It} {us:List U} {ok:Sto->Prop} {Q:VK} {m1:List Addr} {H1:Hp} {S1 S':Sto} {ρ:Rho} {σ:L2.St},Sr X.K m1 S1 H1->Lr X.K m1 H1 ρ σ->Aj X.K J m1 H1 us ok->f ok S1.length us (jM n caps ρ) (S1++[.lst []])=some S'->
   (∀l,H1 l=none->∀m2 H2,Ext X.K (m1++[l]) (upd H1 l (.lst [])) m2 H2->Sr X.K m2 S' H2->Q (.ref l) H2)->G J H1 σ Q) :
  ∀σ H Q,tE X.K (xl ce f n caps) σ H Q->AN X (tE X.K ce) σ H fun J H1=>G J H1 σ fun v H'=>∃a ob kvs,GG X a/\H' a=some (.frz ob (.dT kvs))/\Q v (upd H' a (.dT kvs)):=by
 intro σ H Q hz;refine iA hz fun m ρ S u S' sr lr hc post=>?_;obtain⟨⟨x,S1⟩,h1,h⟩:=Q2.mp hc;refine⟨m,ρ,S,x,S1,sr,lr,h1,fun m1 v1 H1 e1 sr1 i1=>?_⟩;cases x with
 |ref l=>
  simp only at h;split at h<;>try cases h
  rename_i kus hS;obtain⟨a,ha,rfl⟩:=i1.of_ref;obtain⟨a',ha',kvs,hx,ip⟩:=sr1.get hS;rw[ha]at ha';cases ha';refine⟨a,kvs,rfl,hx,fun ob es ep nf hd=>?_⟩;obtain⟨S2,h2,h3⟩:=Q2.mp (yr h ep);try simp only at h3
  split at h3<;>try cases h3
  rename_i ep' kus' hS2;have ee:Ext X.K m1 H1 m1 (upd H1 a (.frz ob (.dT kvs))):=.of (sr1.keep ha _);have sr2:Sr X.K m1 (S1.set l (.fdt ep kus)) (upd H1 a (.frz ob (.dT kvs))):=sr1.put ha ⟨ob,es,kvs,aF,hd,ip.mono ee⟩;rw[ip.1];have hln:(S1.set l (.fdt ep kus)).length=S1.length:=by simp
  refine core sr2 (lr.mono (e1.trans ee)) (zC ha) (by rw[hln];exact h2) fun p hp m3 H3 e3 sr3=>?_;have en:Ext X.K m1 (upd H1 a (.frz ob (.dT kvs))) (m1++[p]) (upd (upd H1 a (.frz ob (.dT kvs))) p (.lst [])):=.new (bc hp _);have e03:=en.trans e3;obtain⟨a3,ha3,ob3,es3,kvs3,hx3,hd3,ip3⟩:=sr3.get hS2;rw[e03.get ha]at ha3;cases ha3;have e4:Ext X.K m3 H3 m3 (upd H3 a (.dT kvs3)):=.of (sr3.keep (e03.get ha) _);refine⟨a,ob3,kvs3,nf,hx3,post m3 _ _ (((e1.trans ee).trans e03).trans e4) (sr3.put (e03.get ha) ⟨kvs3,aF,ip3.mono e4⟩) ?_⟩;have lg:(m1++[p])[S1.length]?=some p:=b6 sr1.len;exact .ref_ (e3.get lg)
 |_=>cases h
variable{Nc capN tn:List Str}{scope:Scope}{cl:List (Str×Addr)}{n:Nat}{caps:List Nat}{tg iter elt:Expr}{pos:Pos}{ci:CE}{g:CG}{ce:CE}
theorem Cj(hc:X.calm=true)(hi:QE X iter ci)(hg:∀s3 H3 fp,WG (cxC X Nc scope cl s3 H3 fp) tg (tG X.K g))(he:∀s3 H3 fp,WE (cxC X Nc scope cl s3 H3 fp) elt (tE X.K ce))
  (hclos:closureFor scope X.env=pure cl) (hkind:scope.kind=.function) (hnl:∀x∈scope.names,x.2=.local->scope.names.lookup x.1=some .local) (hcell:∀x∈scope.names,x.2≠.cell)
  (hcl:se X.env cl) (hhas:((relabel scope X.env).names.all fun p=>!(p.2 == .cell||p.2 == .free)||(cl.lookup p.1).isSome)=true)
  (hcap:Paired (Cap X scope cl) caps capN) (hN:Nc=tn++capN) (hn:tn.length=n)
  (hs:∀x,foldedSetIterable iter X.env x=pure x:=by intro _;rfl) :
  QE X (.ListComp elt [⟨tg,iter,[],0⟩] scope pos) (rQ ci g ce n caps):=
 (yn (qA hc (yk hi) hg he hclos hkind hnl hcell hcl hhas hcap hN hn hs)).imp (uw (G:=fun J H1 σ Q=>∀l,H1 l=none->∃W:Nat->Nat->L2.St->Hp->Prop,(∃m,W 0 m (OG.stC n caps σ) (upd H1 l (.lst [])))/\
  ∀i m σ' H2,W i m σ' H2->(J.stop i H2/\Q (.ref l) H2)\/(J.go i H2/\∃N:L2.St->Hp->Prop,(∀σ'' H',N σ'' H'->∃m',m'<m/\W (i+1) m' σ'' H')/\
  ∀x H3,J.yld i H2 x H3->tG X.K g x σ' H3 fun σ2 H4=>tE X.K ce σ2 H4 fun v H5=>∃ys,H5 l=some (.lst ys)/\ys.length<sizeLine/\N σ2 (upd H5 l (.lst (ys++[v]))))) fun sr lr ito h2 post l hl=>oK sr lr ito hl h2 (post l hl))
end
theorem sH(n:Nat):(Qy n).map (fun k=>n-1-k)=(Qy n).reverse:=by
 refine List.ext_getElem (by simp) fun i h1 h2=>?_;simp at h1;simp[List.getElem_reverse]
theorem vx(its:List Value):slicePick its.toArray none none (some (-1))=its.reverse.toArray:=by
 have hr:sliceRange ((its.length:Int)-1) (-1) (-1)=(Qy its.length).reverse:=by
  rw[<-sH];unfold sliceRange;have h0:¬((-1:Int)>0):=by decide
  simp only[h0,if_false];have hc:(if (its.length:Int)-1 > -1 then((its.length:Int)-1 - -1 - -1-1) / - -1 else 0).toNat=its.length:=by
   by_cases h:(its.length:Int)-1 > -1
   ·rw[if_pos h];have:((its.length:Int)-1 - -1 - -1-1) / - -1=its.length:=by
     rw[Int.neg_neg,Int.ediv_one];omega
    rw[this];exact ZC _
   ·rw[if_neg h];simp;omega
  rw[hc];refine List.map_congr_left fun k hk=>?_;have:=Qb.mp hk;omega
 unfold slicePick sliceBounds;have h0:¬((-1:Int)>0):=by decide
 simp only[Ql,h0,if_false,QC,hr];rw[List.filterMap_reverse];have:=pick_run its.toArray 0 its.length;simp only[Nat.zero_add,List.map_id',List.drop_zero]at this;rw[this,ZD (by simp)]
theorem yU(its:List Value):slicePick its.toArray none none (some 1)=its.toArray:=by
 unfold slicePick sliceBounds;have h0:(1:Int)>0:=by decide
 simp only[Ql,h0,if_true,QC];have:=sliceRange_one 0 its.length;simp only[Nat.sub_zero]at this;rw[show((0:Int))=((0:Nat):Int)from rfl,this];have:=pick_run its.toArray 0 its.length;rw[this,List.drop_zero,ZD (by simp)]
theorem lX:∀{xs:List V} {us:List Value},a5 xs us->a5 xs.reverse us.reverse
 |[],us,r=>by cases r;exact .nil
 |x::xs,us,r=>by
  cases r with
  |cons r1 r2=>
   rw[List.reverse_cons,List.reverse_cons];exact a5.append (lX r2) (.cons r1 .nil)
section
variable{X:Cx}{K:Q4}
def JV(K:Q4)(te ts:TE):TE:=fun σ H Q=>te σ H fun x H1=>ts σ H1 fun y H2=>∃(a:Addr) (xs:List V) (b:Bool),x=.ref a/\SqL K H2 a xs/\y=.int (if b then 1 else -1)/\∀p,H2 p=none->Q (.ref p) (upd H2 p (.lst (if b then xs else xs.reverse)))
theorem BE{e st:Expr}{te ts:TE}{pos p2:Pos}(he:WE X e te)(hst:WE X st ts):WE X (.Subscript e (.Slice none none (some st) p2) pos) (JV X.K te ts):=by
 constructor;intro pins s σ H Q I h;refine Subscript_ (thn (he.h pins s σ H _ I h) fun v s1 hz=>?_);obtain⟨x,H1,I1,r1,q1⟩:=hz;refine wpAny_Slice ?_;rw[evalPart_none];refine Q5 (Q5 ?_);show wpAny _ _ (eval st X.env) _ _ s1;refine thn (hst.h pins s1 σ H1 _ I1 q1) fun vs s3 hz=>?_;obtain⟨y,H3,I3,ry,a,xs,b,rfl,hx,rfl,q⟩:=hz;cases r1;obtain⟨t,rfl⟩:=(show ∃t,vs=Value.int (if b then 1 else -1) t from ry);have I4:Inv X pins σ H3 { s3 with heap:=s3.heap.push { cls:=.type "slice",data:=.fields #[.none,.none,.int (if b then 1 else -1) t] } }:=I3.kept (t':=s3.toks) fun b ob q=>Q3 _ q;obtain⟨its,r,ht,hz⟩:=I4.list hx;have hlen:=r.length;show wpAny (model X.prog X.w) X.A (subscriptTail e (.Slice none none (some st) p2) (.ref a) (.ref s3.heap.objs.size)) (EP X pins σ Q) X.xe { s3 with heap:=s3.heap.push { cls:=.type "slice",data:=.fields #[.none,.none,.int (if b then 1 else -1) t] } };refine tail_any (ops:=[.ref a,.ref s3.heap.objs.size]) ht.isList.typeIs slot_list_getitem.lookup ?_ (by with_unfolding_all rfl);refine wpAny_getItem_list_slice ht.isList (Heap.IsSliceOf.new ..) .none .none (.int _ t) (by cases b<;>simp) ?_ (by rw[QC]<;>omega);have hp:slicePick its.toArray none none (some (if b then 1 else -1))=(if b then its else its.reverse).toArray:=by
  cases b
  ·exact vx its
  ·exact yU its
 rw[hp];refine⟨.ref _,_,I4.laid (t':=s3.toks) (o:=.lst (if b then xs else xs.reverse)) (fun b ob q=>Q3 _ q) (QJ _) ?_,rfl,q _ (I4.hok.fresh (QJ _))⟩;cases b
 ·exact⟨by simpa using hz,_,0,lX r,QY _ rfl⟩
 ·exact⟨hz,_,0,r,QY _ rfl⟩
def DU(x y:U)(S:Sto):Option (U×Sto):=match x with
 |.ref l=>match y with
  |.int i=>match S[l]? with
   |some (.lst us)=>if i=1 then some (.ref S.length,S++[.lst us])else if i=-1 then some (.ref S.length,S++[.lst us.reverse])else none
   |_=>none
  |_=>none
 |_=>none
theorem HW{e st:Expr}{ca cs:CE}{pos p2:Pos}(ha:QE X e ca)(hs:QE X st cs):QE X (.Subscript e (.Slice none none (some st) p2) pos) (cOp DU ca cs):=
 (BE ha hs).imp fun σ H Q hz=>iA hz fun m ρ S u S' sr lr hc post=>by
 obtain⟨⟨x,S1⟩,h1,h⟩:=Q2.mp hc;obtain⟨⟨y,S2⟩,h3,h4⟩:=Q2.mp h;refine⟨m,ρ,S,_,S1,sr,lr,h1,fun m1 v1 H1 e1 sr1 i1=>⟨m1,ρ,S1,_,S2,sr1,lr.mono e1,h3,fun m2 v2 H2 e2 sr2 i2=>?_⟩⟩;cases x with
 |ref l=>
  cases y with
  |int i=>
   simp only[DU]at h4;split at h4<;>try cases h4
   rename_i us hS;obtain⟨a,ha,rfl⟩:=(i1.mono e2).of_ref;obtain⟨a',ha',xs,hx,la⟩:=sr2.get hS;rw[ha]at ha';cases ha';split at h4
   ·rename_i hi;subst hi;cases h4;refine⟨a,xs,true,rfl,SqL.of hx,i2.of_int,fun p hp=>?_⟩;have en:Ext X.K m2 H2 (m2++[p]) (upd H2 p (.lst xs)):=.new (bc hp _);exact post (m2++[p]) _ _ ((e1.trans e2).trans en) (sr2.new hp ⟨xs,aF,la.mono en⟩) (.ref_ (b6 sr2.len))
   ·split at h4<;>try cases h4
    rename_i hi;subst hi;refine⟨a,xs,false,rfl,SqL.of hx,i2.of_int,fun p hp=>?_⟩;have en:Ext X.K m2 H2 (m2++[p]) (upd H2 p (.lst xs.reverse)):=.new (bc hp _);exact post (m2++[p]) _ _ ((e1.trans e2).trans en) (sr2.new hp ⟨xs.reverse,aF,la.rev.mono en⟩) (.ref_ (b6 sr2.len))
  |_=>cases h4
 |_=>cases h4
end
def ltR:List Int->List Int->Bool
 |[],[]=>false
 |[],_::_=>true
 |_::_,[]=>false
 |a::r,b::t=>if a=b then ltR r t else decide (a<b)
theorem jU:∀r:List Int,ltR r r=false
 |[]=>rfl
 |a::r=>by rw[ltR,if_pos rfl];exact jU r
theorem mJ:∀{r t:List Int},ltR r t=true->ltR t r=false
 |[],[],h=>by cases h
 |[],_::_,_=>rfl
 |_::_,[],h=>by cases h
 |a::r,b::t,h=>by
  rw[ltR]at h ⊢;by_cases e:a=b
  ·rw[if_pos e]at h;rw[if_pos e.symm];exact mJ h
  ·rw[if_neg e,decide_eq_true_eq]at h;rw[if_neg (Ne.symm e),decide_eq_false_iff_not];omega
theorem vR:∀{r t:List Int},r≠t->ltR r t=false->ltR t r=true
 |[],[],n,_=>absurd rfl n
 |[],_::_,_,h=>by cases h
 |_::_,[],_,_=>rfl
 |a::r,b::t,n,h=>by
  rw[ltR]at h ⊢;by_cases e:a=b
  ·subst e;rw[if_pos rfl]at h ⊢;exact vR (fun z=>n (by rw[z])) h
  ·rw[if_neg e,decide_eq_false_iff_not]at h;rw[if_neg (Ne.symm e),decide_eq_true_eq];omega
theorem n9:∀{r t u:List Int},ltR r t=true->ltR t u=true->ltR r u=true
 |[],[],_,h,_=>by cases h
 |_::_,[],_,h,_=>by cases h
 |_,_::_,[],_,k=>by cases k
 |[],_::_,_::_,_,_=>rfl
 |a::r,b::t,c::u,h,k=>by
  rw[ltR]at h k ⊢;by_cases e:a=b
  ·subst e;rw[if_pos rfl]at h;by_cases e2:a=c
   ·rw[if_pos e2]at k ⊢;exact n9 h k
   ·rw[if_neg e2]at k ⊢;exact k
  ·rw[if_neg e,decide_eq_true_eq]at h;by_cases e2:b=c
   ·subst e2;rw[if_neg e,decide_eq_true_eq];exact h
   ·rw[if_neg e2,decide_eq_true_eq]at k;have:a≠c:=by omega
    rw[if_neg this,decide_eq_true_eq];omega
def qp(h:Heap)(v:Value)(ns:List Int):Prop:=∃b o its e,v=Value.ref b/\h.get? b=some o/\o.cls=Value.type "tuple"/\o.data=Data.seq its e/\a5 (ns.map V.int) its.toList
section
variable{prog:Program}{w:World}{A:Around}{E:Value->Shared->Prop}{s:Shared}
theorem AH{C:Bool->Shared->Prop}{fin:Bool}:∀{ns ms:List Int} {vs us:List Value} {i:Nat},a5 (ns.map V.int) vs->a5 (ms.map V.int) us->fin=decide (ns.length<ms.length)->C (ltR ns ms) s->KatLex prog w A true fin C (vs.zip us) i s
 |[],ms,vs,us,i,r1,r2,e,c=>by
  cases r1;rw[List.zip_nil_left];refine kat_nil ?_;cases ms with
  |nil=>subst e;exact c
  |cons m ms=>subst e;exact c
 |n::ns,[],vs,us,i,r1,r2,e,c=>by
  cases r2;rw[List.zip_nil_right];refine kat_nil ?_;subst e;exact c
 |n::ns,m::ms,vs,us,i,r1,r2,e,c=>by
  cases r1 with
  |cons u1 t1=>
   cases r2 with
   |cons u2 t2=>
    obtain⟨k1,rfl⟩:=u1;obtain⟨k2,rfl⟩:=u2;rw[List.zip_cons_cons];refine kat_cons (wpAny_eqBool_int ?_);by_cases en:n=m
    ·subst en;rw[beq_self_eq_true];rw[ltR,if_pos rfl]at c;exact kat_yes (AH t1 t2 (by rw[e];simp) c)
    ·rw[beq_eq_false_iff_ne.mpr en];rw[ltR,if_neg en]at c;exact kat_no (iP c)
theorem E8{v v':Value}{ns ms:List Int}{C:Bool->Shared->Prop}(h:qp s.heap v ns)(h':qp s.heap v' ms)(c:C (ltR ns ms) s):wpAny (model prog w) A (keyLt' (tuples' true) v v') C E s:=by
 obtain⟨b,o,its,e,rfl,g,_,d,r⟩:=h;obtain⟨b',o',its',e',rfl,g',_,d',r'⟩:=h';refine kat_lt g d g' d' (AH r r' ?_ c);have l1:its.size=ns.length:=by have:=r.length;rw[Q9]at this;rw[this];exact QD.symm
 have l2:its'.size=ms.length:=by have:=r'.length;rw[Q9]at this;rw[this];exact QD.symm
 rw[l1,l2]
def dG(h:Heap):List Value->List (List Int)->Prop
 |[],[]=>True
 |v::vs,p::ps=>qp h v p/\dG h vs ps
 |_,_=>False
theorem mn{h:Heap}:∀{vs:List Value} {ps:List (List Int)},dG h vs ps->vs.length=ps.length
 |[],[],_=>rfl
 |_::_,_::_,k=>by rw[QB,QB,mn k.2]
 |[],_::_,k=>k.elim
 |_::_,[],k=>k.elim
theorem mq{h:Heap}:∀{vs:List Value} {ps:List (List Int)} {i:Nat},dG h vs ps->i<ps.length->qp h (vs.getD i Value.none) (ps.getD i [])
 |[],[],_,_,k=>absurd k (Nat.not_lt_zero _)
 |_::_,_::_,0,k,_=>k.1
 |_::vs,_::ps,i+1,k,l=>by
  show qp h (vs.getD i Value.none) (ps.getD i []);exact mq k.2 (by rw[QB]at l;omega)
 |[],_::_,_,k,_=>k.elim
 |_::_,[],_,k,_=>k.elim
theorem gR{h h':Heap}{a:Addr}(m:∀b o,b≠a->h.get? b=some o->h'.get? b=some o):∀{vs:List Value} {ps:List (List Int)},dG h vs ps->(∀v∈vs,v≠.ref a)->dG h' vs ps
 |[],[],_,_=>trivial
 |v::vs,_::_,k,hv=>by
  refine⟨?_,gR m k.2 fun x hx=>hv x (QU _ hx)⟩;obtain⟨b,o,its,e,rfl,g,c,d⟩:=k.1;exact⟨b,o,its,e,rfl,m b o (fun e=>hv _ QK (by rw[e])) g,c,d⟩
 |[],_::_,k,_=>k.elim
 |_::_,[],k,_=>k.elim
theorem nM{h:Heap}:∀{vs:List Value} {ps:List (List Int)},dG h vs ps->(∀p∈ps,p≠[])->∃fs,KatTups h vs fs/\fs.length=vs.length/\∀f∈fs,∃i t,f=Value.int i t
 |[],[],_,_=>⟨[],trivial,rfl,fun f hf=>by cases hf⟩
 |v::vs,p::ps,k,ne=>by
  obtain⟨fs,h1,h2,h3⟩:=nM k.2 fun q hq=>ne q (QU _ hq);obtain⟨b,o,its,e,hv,g,c,d,r⟩:=k.1;cases p with
  |nil=>exact absurd rfl (ne [] QK)
  |cons n ns=>
   obtain⟨x,t,hx⟩:∃x t,its.toList=x::t:=by
    cases hl:its.toList with
    |nil=>rw[hl]at r;have:=r.length;simp at this
    |cons x t=>exact⟨x,t,rfl⟩
   have hi:∃i t',x=Value.int i t':=by
    rw[hx]at r;cases r with
    |cons u1 t1=>obtain⟨k1,rfl⟩:=u1;exact⟨_,_,rfl⟩
   refine⟨x::fs,⟨⟨b,o,its,e,hv,g,c,d,?_⟩,h1⟩,by rw[QB,QB,h2],fun f hf=>?_⟩
   ·rw[<-Qk,hx];rfl
   ·rcases QH.mp hf with z|z
    ·rw[z];exact hi
    ·exact h3 f z
 |[],_::_,k,_=>k.elim
 |_::_,[],k,_=>k.elim
theorem uZ{vs:List Value}{ps:List (List Int)}{Q:SortKind->Shared->Prop}(h:dG s.heap vs ps)(ne:∀p∈ps,p≠[])(hn:0<vs.length)(q:Q (tuples' true) s):wpAny (model prog w) A (keyKind' vs.toArray) Q E s:=by
 obtain⟨fs,h1,h2,h3⟩:=nM h ne;refine kat_kind (T:=Value.type "int") h1 (by omega) (fun v hv A Q E s' _ q=>?_) (by decide +kernel) (by exact q);obtain⟨i,t,rfl⟩:=h3 v hv;exact wpAny_typeOf (typeIs_int s' i t) q
theorem gT{h:Heap}:∀{vs:List Value} {ps:List (List Int)},dG h vs ps->∀v∈vs,∀a,h.objs.size<=a->v≠.ref a
 |[],[],_,v,hv,_,_=>by cases hv
 |_::_,_::_,k,v,hv,a,ha=>by
  rcases QH.mp hv with z|z
  ·obtain⟨b,o,its,e,e1,g,_⟩:=k.1;rw[z,e1];intro e2;cases e2;exact absurd (QX g) (Zl.mpr ha)
  ·exact gT k.2 v z a ha
 |[],_::_,k,_,_,_,_=>k.elim
 |_::_,[],k,_,_,_,_=>k.elim
end
theorem FX{ps:List (List Int)}(nd:ps.Nodup):xU ps.length fun i j=>ltR (ps.getD i []) (ps.getD j []) where
 tr:=fun{i j k} hi hj hk h1 h2=>n9 h1 h2
 asym:=fun{i j} hi hj h=>mJ h
 tot:=fun{i j} hi hj hne h=>by
  refine vR (fun e=>hne ?_) h;rw[QQ,QQ,Q6 hi,Q6 hj]at e;simp only[Ql]at e;exact(List.getElem_inj nd).mp e
def GK(ps:List (List Int))(q:Array Nat):Prop:=Pm ps.length q/\Asc (fun i j=>ltR (ps.getD i []) (ps.getD j [])) q ps.length
theorem fV{prog:Program}{w:World}{A:Around}{E:Value->Shared->Prop}{s:Shared}{a:Addr}{vs:List Value}{ps:List (List Int)}{n:Nat}{P:PySem.Fin->Shared->Prop}
  (g:s.heap.get? a=some (seqObj "list" vs.toArray n)) (hp:dG s.heap vs ps) (hv:∀v∈vs,v≠.ref a) (ne:∀p∈ps,p≠[]) (nd:ps.Nodup) (h64:ps.length<64)
  (k:∀q:Array Nat,GK ps q->P (Fin.done (Flow.ret Value.none)) { s with heap:=sortedHeap s.heap a vs (q.toList.map fun i=>vs.getD i Value.none).toArray }) :
  wpAny (model prog w) A (Builtin.«list.sort» { pos:=[Value.ref a] }) P E s:=by
 have hl:=mn hp;by_cases h2:vs.length<2
 ·have hr:((Qy ps.length).toArray.toList.map fun i=>vs.getD i Value.none)=vs:=by
   rw[<-hl];refine Zt fun i=>?_;by_cases hi:i<vs.length
   ·simp[List.getElem?_range hi,Q6 hi]
   ·simp[ZK (Nat.le_of_not_lt hi),hi]
  have:=k (Qy ps.length).toArray ⟨mz,fun i j hij hj=>by omega⟩;rw[hr]at this;exact fk g h2 this
 ·refine ig g (by omega) (by omega) fun h' m=>?_;have hp':dG ({ s with heap:=h' }:Shared).heap vs ps:=gR m hp hv;refine uZ hp' ne (by omega) ⟨rfl,?_⟩;have hl':vs.length=ps.length:=hl;rw[hl'];refine uK (FX nd) (fun i j C hi hj c=>?_) (by omega) fun q P1 P2=>⟨rfl,k q ⟨P1,P2⟩⟩;exact E8 (mq hp' hi) (mq hp' hj) c
theorem pF{prog:Program}{w:World}{A:Around}{E:Value->Shared->Prop}{s:Shared}{l:Addr}{vs:List Value}{ps:List (List Int)}{Q:Value->Shared->Prop}
  (hL:s.heap.IsList l vs.toArray) (hp:dG s.heap vs ps) (ne:∀p∈ps,p≠[]) (nd:ps.Nodup) (h64:ps.length<64)
  (k:∀q:Array Nat,GK ps q->Q (Value.ref (s.heap.objs.size+1)) { s with heap:=sortedAll s.heap vs (q.toList.map fun i=>vs.getD i Value.none).toArray }) :
  wpAny (model prog w) A (call (Value.builtin "sorted") [Value.ref l]) Q E s:=by
 have hl:=mn hp;have hz:vs.length<=sizeLine:=by unfold sizeLine;omega
 refine Calls.call_function_entry kind_sorted plain_sorted entry_sorted (args_sorted1 _) ?_;unfold Builtin.«sorted»;refine Q0 (m:=checkCount "sorted" 1 1 _) (Q5 (Q0 (collect_list hL (Q0 (wpAny_newList ?_ hz)) hz)));have hsz:((s.heap.push (seqObj "list" #[] 0)).update s.heap.objs.size (Obj.mapSeq fun x=>x++vs.toArray)).objs.size=s.heap.objs.size+1:=by
  rw[Heap.size_update,size_push']
 have gL:(((s.heap.push (seqObj "list" #[] 0)).update s.heap.objs.size (Obj.mapSeq fun x=>x++vs.toArray)).push (seqObj "list" vs.toArray 0)).get? (s.heap.objs.size+1)=some (seqObj "list" vs.toArray 0):=by
  rw[<-hsz];exact QY _ rfl
 have old:∀b o,s.heap.get? b=some o->(((s.heap.push (seqObj "list" #[] 0)).update s.heap.objs.size (Obj.mapSeq fun x=>x++vs.toArray)).push (seqObj "list" vs.toArray 0)).get? b=some o:=fun b o g=>by
  refine Q3 _ ?_;rw[Heap.get?_update_ne _ _ _ _ (QL (QX g))];exact Q3 _ g
 show wpAny _ _ _ _ _ { s with heap:=((s.heap.push (seqObj "list" #[] 0)).update s.heap.objs.size (Obj.mapSeq fun x=>x++vs.toArray)).push (seqObj "list" vs.toArray 0) };rw[show Value.ref ((s.heap.push (seqObj "list" #[] 0)).update s.heap.objs.size (Obj.mapSeq fun x=>x++vs.toArray)).objs.size=Value.ref (s.heap.objs.size+1)from by rw[hsz]];refine Q0 (wpAny_holding (wpAny_call_entry slot_list_sort ⟨_,gL,rfl⟩ entry_list_sort (fV (n:=0) gL (gR (a:=s.heap.objs.size+1) (fun b o _ g=>old b o g) hp fun v hv=>gT hp v hv _ (by omega)) (fun v hv=>gT hp v hv _ (by omega)) ne nd h64 fun q hq=>⟨_,rfl,?_⟩) (args_list_sort _)));exact Q5 ⟨_,rfl,k q hq⟩
def RwL(K:Q4)(H:Hp):List V->List (List Int)->Prop
 |[],[]=>True
 |x::xs,p::ps=>(∃a,x=.ref a/\SqT K H a (p.map V.int))/\RwL K H xs ps
 |_,_=>False
theorem uU{K:Q4}{H:Hp}:∀{ys:List V} {ps:List (List Int)},RwL K H ys ps->ys.length=ps.length
 |[],[],_=>rfl
 |_::_,_::_,k=>by rw[QB,QB,uU k.2]
 |[],_::_,k=>k.elim
 |_::_,[],k=>k.elim
theorem Av{X:Cx}{pins:List (Addr×Obj)}{σ:L2.St}{H:Hp}{s:Shared}(I:Inv X pins σ H s):∀{ys:List V} {ps:List (List Int)} {vs:List Value},RwL X.K H ys ps->a5 ys vs->dG s.heap vs ps
 |[],[],_,_,r=>by cases r;trivial
 |_::_,p::ps,_,k,r=>by
  cases r with
  |cons r1 r2=>
   refine⟨?_,Av I k.2 r2⟩;obtain⟨a,rfl,hs⟩:=k.1;obtain⟨its,rv,⟨o,g,c,n,d⟩,_⟩:=I.tuple hs;cases r1;exact⟨a,o,_,n,rfl,g,c,d,by simpa using rv⟩
 |[],_::_,_,k,_=>k.elim
 |_::_,[],_,k,_=>k.elim
def mw(K:Q4):List V->Hp->VK->Prop:=fun xs H Q=>∃(p:Addr) (ys:List V) (ps:List (List Int)),xs=[.ref p]/\SqL K H p ys/\RwL K H ys ps/\(∀p∈ps,p≠[])/\ps.Nodup/\ps.length<64/\
 ∀(l:Addr) (q:Array Nat),H l=none->GK ps q->Q (.ref l) (upd H l (.lst (q.toList.map fun i=>ys.getD i .non)))
theorem vK{X:Cx}:bX X (.builtin "sorted") (mw X.K):=by
 rintro pins s σ H xs us Q I r ⟨p,ys,ps,rfl,hL,hp,ne,nd,h64,q⟩;obtain⟨u,rfl,ru⟩:=fP r;cases ru;obtain⟨its,rv,pl,hz⟩:=I.list hL;have hlen:=uU hp;refine pF pl.isList (Av I hp rv) ne nd h64 fun qa a1=>?_;obtain⟨e,ge⟩:=sortedAll_at s.heap its (qa.toList.map fun i=>its.getD i Value.none).toArray;have hf:=I.hok.fresh (X7 s.heap.objs.size);have hq:qa.toList.length=ps.length:=by rw[QD,a1.1.sz]
 refine⟨.ref (s.heap.objs.size+1),_,I.laid (o:=.lst (qa.toList.map fun i=>ys.getD i .non)) (t':=s.toks) (fun b o e=>sortedAll_old e) (X7 _) ⟨by rw[Q9,hq];unfold sizeLine;omega,_,e,jb rv qa.toList (by rw[hlen];exact eQ a1.1),ge⟩,rfl,q _ qa hf a1⟩
theorem Cc{prog:Program}{w:World}{d:Addr}{o:Obj}{es:Array DictEntry}{ep:Nat}(hd:(d == sysModules)=false)(hc:o.ExactDict)(he:o.data=.dict es ep) :
  KdlSrc prog w "dict" d d es.size (fun i v=>∃h:i<es.size,v=es[i].key) (fun h=>h.get? d=some o) where
 type:=fun s g=>⟨o,g,hc.1⟩
 there:=fun h g=>⟨QX g,QX g⟩
 keep:=fun h h' g m=>m d (.inl rfl) o g
 notList:=by decide
 notTuple:=by decide
 hint:=fun A E s Q g q=>kdl_hint_dict ⟨o,g,hc.1⟩ q
 iter:=fun A s hh g=>by
  refine⟨_,fun i h=>h.IsKeyIter s.heap.objs.size d i es.size ep/\h.get? d=some o,fun E Q q=>qS hd g hc he q,?_,⟨⟨_,QY _ rfl,rfl,rfl⟩,Q3 _ g⟩⟩;refine⟨fun b hb=>by simp at hb;simp[hb],fun i h h' st m=>?_,fun i s' Q E hi st k=>?_,fun s' Q E st k=>?_,fun i s' Q E st q=>?_⟩
  ·obtain⟨⟨o1,g1,c1,d1⟩,g2⟩:=st;exact⟨⟨o1,m _ (by simp) o1 g1,c1,d1⟩,m _ (by simp) o g2⟩
  ·refine qT st.1 st.2 he hi fun h' it' sb=>k _ h' _ ⟨hi,rfl⟩ ⟨it',?_⟩ fun b o' hb g'=>?_
   ·have:d≠s.heap.objs.size:=QL (QX g);rw[sb.2 d this];exact st.2
   ·rw[sb.2 b (by simpa using hb)];exact g'
  ·exact u7 hh st.1 st.2 he (QJ _) fun h' eb=>k h' _ fun b o' hb g'=>eb b o' (by simpa using hb) g'
  ·exact wpAny_pyIter_keyiter st.1 q
def mr:List V->Hp->VK->Prop:=fun xs H Q=>∃(d:Addr) (kvs:List (List Key×V)) (ps:List (List Int)),xs=[.ref d]/\H d=some (.dT kvs)/\kvs.map (·.1)=ps.map (fun p=>p.map Sum.inl)/\(∀p∈ps,p≠[])/\ps.Nodup/\ps.length<64/\
 ∀(as:List Addr) (l:Addr) (q:Array Nat),H l=none->as.length=ps.length->(∀(i:Nat) (a:Addr) (p:List Int),as[i]?=some a->ps[i]?=some p->H a=some (.tup (p.map V.int)))->GK ps q->
  Q (.ref l) (upd H l (.lst (q.toList.map fun i=>.ref (as.getD i 0))))
theorem F4{H:Hp}:∀{kvs:List (List Key×V)} {xs:List (List Key×Addr×Value)} {ps:List (List Int)},KT H kvs xs->kvs.map (·.1)=ps.map (fun p=>p.map Sum.inl)->∀(i:Nat) (a:Addr) (p:List Int),(xs.map fun x=>x.2.1)[i]?=some a->ps[i]?=some p->H a=some (.tup (p.map V.int))
 |_,_,ps,.nil,_,i,a,p,h,_=>by simp at h
 |(k,v)::kvs,(k',b,u)::xs,[],.cons r t,e,i,a,p,_,hp=>by simp at hp
 |(k,v)::kvs,(k',b,u)::xs,p0::ps,.cons r t,e,i,a,p,h,hp=>by
  simp only[QF,List.cons.injEq]at e;obtain⟨e1,e2⟩:=e;cases i with
  |zero=>
   simp at h hp;subst h;subst hp;obtain⟨r1,r2,r3⟩:=r;dsimp only at r1 r2;rw[r2,e1,Qa];rfl
  |succ i=>
   simp only[QF,Qw]at h hp;exact F4 t e2 i a p h hp
theorem uY{h:Heap}:∀{as:List Addr} {ps:List (List Int)},as.length=ps.length->(∀(i:Nat) (a:Addr) (p:List Int),as[i]?=some a->ps[i]?=some p->qp h (.ref a) p)->dG h (as.map Value.ref) ps
 |[],[],_,_=>trivial
 |a::as,p::ps,l,k=>⟨k 0 a p rfl rfl,uY (by simpa using l) fun i a p h1 h2=>k (i+1) a p (by simpa using h1) (by simpa using h2)⟩
 |[],_::_,l,_=>by simp at l
 |_::_,[],l,_=>by simp at l
theorem vJ{X:Cx}(hc:X.calm=true):bX X (.builtin "sorted") mr:=by
 rintro pins s σ H xs us Q I r ⟨d,kvs,ps,rfl,hD,hk,ne,nd,h64,q⟩;obtain⟨u,rfl,ru⟩:=fP r;cases ru;obtain⟨z,hd,ks,rel,o,es,ep,h1,h2,h3,h4,h5⟩:=qd I.hok (.inl hD);have lkv:kvs.length=ps.length:=by have:=congrArg X8 hk;simpa using this
 have lks:ks.length=ps.length:=by rw[<-Paired.length rel];exact lkv
 have les:es.size=ps.length:=by rw[<-lks,<-QD,h4,Q9]
 obtain⟨as,has⟩:∃as,as=ks.map fun x=>x.2.1:=⟨_,rfl⟩;have las:as.length=ps.length:=by rw[has,Q9,lks]
 have hH:∀(i:Nat) (a:Addr) (p:List Int),as[i]?=some a->ps[i]?=some p->H a=some (.tup (p.map V.int)):=by rw[has];exact F4 rel hk
 refine Calls.call_function_entry kind_sorted plain_sorted entry_sorted (args_sorted1 _) ?_;unfold Builtin.«sorted»;refine Q0 (m:=checkCount "sorted" 1 1 _) (Q5 (Q0 (kdu_collect (Cc hd h2 h3) (show X.A.in1.handled=none from I.ok.hd hc) h1 (by rw[les];unfold sizeLine;omega) fun h' tk acc up hac=>?_)));have hacc:acc.toList=as.map Value.ref:=by
  refine Zt fun i=>?_;by_cases hi:i<es.size
  ·have hi':i<acc.size:=by rw[hac.1];exact hi
   obtain⟨_,e2⟩:=hac.2 i acc[i] (QR hi');have e3:acc.toList[i]?=some acc[i]:=by rw[Qk,QR hi']
   have hk2:i<ks.length:=by rw[lks,<-les];exact hi
   have e4:es.toList[i]?=some (entryOfKey (tupleKind (bw X.prog X.w)) ks[i]):=by rw[h4,Qr,Q6 hk2];rfl
   rw[Qk,QR hi]at e4;rw[e3,e2,Option.some.inj e4,has,Qa,Qr,Q6 hk2];rfl
  ·rw[ZK (by rw[QD,hac.1];omega),ZK (by rw[Q9,las,<-les];omega)]
 have hrow:∀(i:Nat) (a:Addr) (p:List Int),as[i]?=some a->ps[i]?=some p->qp h' (.ref a) p:=fun i a p ha hp=>by
  obtain⟨_,its,r,o1,g1,c1,n1,d1⟩:=(show bx X.prog X.w H s.heap a (.tup (p.map V.int))from I.hok a _ (hH i a p ha hp));exact⟨a,o1,_,n1,rfl,up a o1 g1,c1,d1,by simpa using r⟩
 have hrows:dG h' (as.map Value.ref) ps:=uY las hrow;rw[hacc];refine Q0 (wpAny_newList ?_ (by rw[Q9,las];unfold sizeLine;omega));have gL:(h'.push { cls:=.type "list",data:=.seq (as.map Value.ref).toArray }).get? h'.objs.size=some (seqObj "list" (as.map Value.ref).toArray 0):=QY _ rfl;have hv':∀v∈as.map Value.ref,v≠.ref h'.objs.size:=fun v hv=>gT hrows v hv _ (QJ _);refine Q0 (wpAny_holding (wpAny_call_entry slot_list_sort ⟨_,gL,rfl⟩ entry_list_sort (fV (s:={ s with heap:=h'.push { cls:=.type "list",data:=.seq (as.map Value.ref).toArray },toks:=tk }) gL (gR (a:=h'.objs.size) (fun b o _ g=>Q3 _ g) hrows hv') hv' ne nd h64 fun qa a1=>⟨_,rfl,?_⟩) (args_list_sort _)));obtain⟨e,ge⟩:=sortedHeap_at (out:=(qa.toList.map fun i=>(as.map Value.ref).getD i Value.none).toArray) gL;have I2:Inv X pins σ H { s with heap:=h',toks:=tk }:=I.kept (t':=tk) up;have old:∀b o,h'.get? b=some o->(sortedHeap (h'.push { cls:=.type "list",data:=.seq (as.map Value.ref).toArray }) h'.objs.size (as.map Value.ref) (qa.toList.map fun i=>(as.map Value.ref).getD i Value.none).toArray).get? b=some o:=fun b o g1=>by
  have lt1:=QX g1;rw[sortedHeap_old (QL lt1) (by rw[ZL];exact Zm lt1)];exact Q3 _ g1
 have hq:qa.toList.length=ps.length:=by rw[QD,a1.1.sz]
 have rv:=lZ as;have gd:∀i,i<as.length->(as.map V.ref).getD i .non=.ref (as.getD i 0):=fun i hi=>by
  simp[QQ,Q6 hi]
 have el:(qa.toList.map fun i=>(as.map V.ref).getD i .non)=qa.toList.map fun i=>V.ref (as.getD i 0):=List.map_congr_left fun i hi=>gd i (by rw[las];exact eQ a1.1 i hi);refine Q5 ⟨_,rfl,.ref h'.objs.size,_,Inv.laid (s:={ s with heap:=h',toks:=tk }) (o:=.lst (qa.toList.map fun i=>.ref (as.getD i 0))) (t':=tk) I2 old (QJ _) ⟨by rw[Q9,hq];unfold sizeLine;omega,_,e,?_,ge⟩,rfl,q as _ qa (I2.hok.fresh (QJ _)) las hH a1⟩;rw[<-el];exact jb rv qa.toList (by rw[Q9,las];exact eQ a1.1)
open Classical in
def fQ(ps:List (List Int)):List (List Int):=if h:∃L:List (List Int),L.Pairwise (fun a b=>ltR a b=true)/\∀x,x∈L↔x∈ps then h.choose else[]
theorem oZ:∀{L M:List (List Int)},L.Pairwise (fun a b=>ltR a b=true)->M.Pairwise (fun a b=>ltR a b=true)->(∀x,x∈L↔x∈M)->L=M
 |[],[],_,_,_=>rfl
 |[],m::M,_,_,h=>by have:=(h m).mpr QK;cases this
 |l::L,[],_,_,h=>by have:=(h l).mp QK;cases this
 |l::L,m::M,h1,h2,h=>by
  obtain⟨a1,b1⟩:=Z0.mp h1;obtain⟨a2,b2⟩:=Z0.mp h2;have e:l=m:=by
   rcases QH.mp ((h l).mp QK)with z|z
   ·exact z
   ·rcases QH.mp ((h m).mpr QK)with y|y
    ·exact y.symm
    ·have p1:=a2 l z;rw[mJ (a1 m y)]at p1;cases p1
  subst e;congr 1;refine oZ b1 b2 fun x=>⟨fun hx=>?_,fun hx=>?_⟩
  ·rcases QH.mp ((h x).mp (QU _ hx))with z|z
   ·subst z;have:=a1 x hx;rw[jU]at this;cases this
   ·exact z
  ·rcases QH.mp ((h x).mpr (QU _ hx))with z|z
   ·subst z;have:=a2 x hx;rw[jU]at this;cases this
   ·exact z
theorem yA{L ps:List (List Int)}(h1:L.Pairwise (fun a b=>ltR a b=true))(h2:∀x,x∈L↔x∈ps):fQ ps=L:=by
 have h:∃L:List (List Int),L.Pairwise (fun a b=>ltR a b=true)/\∀x,x∈L↔x∈ps:=⟨L,h1,h2⟩;unfold fQ;rw[dif_pos h];obtain⟨k1,k2⟩:=h.choose_spec;exact oZ k1 h1 fun x=>(k2 x).trans (h2 x).symm
theorem o5{ps:List (List Int)}{q:Array Nat}(h:GK ps q):fQ ps=q.toList.map fun i=>ps.getD i []:=by
 obtain⟨P,A⟩:=h;have hl:q.toList.length=ps.length:=by rw[QD,P.sz]
 have gd:∀i (hi:i<q.toList.length),q.getD i 0=q.toList[i]:=fun i hi=>by
  have hi':i<q.size:=by simpa using hi
  rw[Zq,QR hi',Array.getElem_toList];rfl
 have h1:(q.toList.map fun i=>ps.getD i []).Pairwise (fun a b=>ltR a b=true):=by
  rw[Z8];intro i j hi hj hij;rw[Q9]at hi hj;rw[List.getElem_map,List.getElem_map,<-gd i hi,<-gd j hj];exact A i j hij (by omega)
 have nd:(q.toList.map fun i=>ps.getD i []).Nodup:=h1.imp fun{a b} h e=>by subst e;rw[jU]at h;cases h
 have sub:∀x∈q.toList.map fun i=>ps.getD i [],x∈ps:=fun x hx=>by
  obtain⟨i,hi,rfl⟩:=Qu.mp hx;have:=eQ P i hi;rw[QQ,Q6 this];exact Z9 this
 refine yA h1 fun x=>⟨sub x,fun hx=>?_⟩;refine Classical.byContradiction fun hn=>?_;have:=List.Nodup.length_le_of_subset (ZJ.mpr ⟨hn,nd⟩) (l₂:=ps) fun y hy=>by
  rcases QH.mp hy with z|z
  ·rw[z];exact hx
  ·exact sub y z
 rw[QB,Q9,hl]at this;omega
def rwU(p:List Int):U:=.tup (p.map U.int)
def sF:List U->Option (List (List Int))
 |[]=>some []
 |.tup us::r=>(mM us).bind fun p=>(sF r).map (p::·)
 |_=>none
theorem nN:∀ps:List (List Int),sF (ps.map rwU)=some ps
 |[]=>rfl
 |p::ps=>by rw[QF,rwU,sF,ft,Q8,nN ps];rfl
theorem qQ:∀{us:List U} {ps:List (List Int)},sF us=some ps->us=ps.map rwU
 |[],ps,h=>by cases h;rfl
 |u::us,ps,h=>by
  cases u with
  |tup ws=>
   rw[sF]at h;obtain⟨p,e1,h⟩:=Q2.mp h;obtain⟨qs,e2,h⟩:=Qt.mp h;subst h;rw[QF,<-qQ e2,ik e1];rfl
  |_=>cases h
def zD:List Key->Option (List Int)
 |[]=>some []
 |.inl i::r=>(zD r).map (i::·)
 |_=>none
theorem rJ:∀{ks:List Key} {ns:List Int},zD ks=some ns->ks=ns.map Sum.inl
 |[],ns,h=>by cases h;rfl
 |.inl i::r,ns,h=>by
  rw[zD]at h;obtain⟨qs,e2,h⟩:=Qt.mp h;subst h;rw[QF,<-rJ e2]
 |.inr x::r,ns,h=>by cases h
def sG:List (List Key×U)->Option (List (List Int))
 |[]=>some []
 |(ks,_)::r=>(zD ks).bind fun p=>(sG r).map (p::·)
theorem qR:∀{kus:List (List Key×U)} {ps:List (List Int)},sG kus=some ps->kus.map (·.1)=ps.map fun p=>p.map Sum.inl
 |[],ps,h=>by cases h;rfl
 |(ks,u)::us,ps,h=>by
  rw[sG]at h;obtain⟨p,e1,h⟩:=Q2.mp h;obtain⟨qs,e2,h⟩:=Qt.mp h;subst h;rw[QF,QF,<-qR e2,rJ e1]
open Classical in
def cw:Fn
 |[.ref l],S=>match S[l]? with
  |some (.lst us)=>(sF us).bind fun ps=>if (∀p∈ps,p≠[])/\ps.Nodup/\ps.length<64 then some (.ref S.length,S++[.lst ((fQ ps).map rwU)])else none
  |some (.dit kus)=>(sG kus).bind fun ps=>if (∀p∈ps,p≠[])/\ps.Nodup/\ps.length<64 then some (.ref S.length,S++[.lst ((fQ ps).map rwU)])else none
  |_=>none
 |_,_=>none
section
variable{K:Q4}{m:List Addr}{H:Hp}
theorem Au:∀{ys:List V} {ps:List (List Int)},IsL K m H ys (ps.map rwU)->RwL K H ys ps
 |ys,[],h=>by rw[h.of_nil];trivial
 |ys,p::ps,h=>by
  obtain⟨y,r,rfl,i,t⟩:=h.of_cons;obtain⟨a,xs,rfl,hs,il⟩:=i.of_tup;have e:xs=p.map V.int:=IsL.ints il;subst e;exact⟨⟨a,rfl,hs⟩,Au t⟩
theorem uV:∀{ys:List V} {ps:List (List Int)} {i:Nat},RwL K H ys ps->i<ps.length->Is K m H (ys.getD i .non) (rwU (ps.getD i []))
 |[],[],i,_,h=>by simp at h
 |y::ys,p::ps,0,k,_=>by
  obtain⟨a,e,hs⟩:=k.1;show Is K m H y (rwU p);rw[e];exact .tup_ hs (fK p)
 |y::ys,p::ps,i+1,k,h=>by
  show Is K m H (ys.getD i .non) (rwU (ps.getD i []));exact uV k.2 (by simpa using h)
 |[],_::_,_,k,_=>k.elim
 |_::_,[],_,k,_=>k.elim
theorem uT{ys:List V}{ps:List (List Int)}(k:RwL K H ys ps):∀is:List Nat,(∀i∈is,i<ps.length)->IsL K m H (is.map fun i=>ys.getD i .non) (is.map fun i=>rwU (ps.getD i []))
 |[],_=>.nil_
 |i::is,h=>.cons_ (uV k (h i QK)) (uT k is fun j hj=>h j (QU _ hj))
theorem xD{as:List Addr}{ps:List (List Int)}(la:as.length=ps.length)(hH:∀(i:Nat) (a:Addr) (p:List Int),as[i]?=some a->ps[i]?=some p->H a=some (.tup (p.map V.int))):∀is:List Nat,(∀i∈is,i<ps.length)->IsL K m H (is.map fun i=>V.ref (as.getD i 0)) (is.map fun i=>rwU (ps.getD i []))
 |[],_=>.nil_
 |i::is,h=>by
  have hi:=h i QK;have hi':i<as.length:=by rw[la];exact hi
  refine .cons_ ?_ (xD la hH is fun j hj=>h j (QU _ hj));have e1:as.getD i 0=as[i]:=by rw[QQ,Q6 hi'];rfl
  have e2:ps.getD i []=ps[i]:=by rw[QQ,Q6 hi];rfl
  show Is K m H (V.ref (as.getD i 0)) (rwU (ps.getD i []));rw[e1,e2];exact .tup_ (SqT.of (hH i _ _ (Q6 hi') (Q6 hi))) (fK _)
end
theorem lG{X:Cx}(hc:X.calm=true):bX X (.builtin "sorted") (fun xs H Q=>mw X.K xs H Q\/mr xs H Q):=vK.or (vJ hc)
theorem nV{K:Q4}:iG K (fun xs H Q=>mw K xs H Q\/mr xs H Q) cw:=by
 intro m S H us vs u S' Q sr i hf post;match us,hf with
 |[.ref l],hf=>
  obtain⟨v,rfl,iv⟩:=i.one;obtain⟨a,ha,rfl⟩:=iv.of_ref;simp only[cw]at hf;split at hf<;>try cases hf
  ·rename_i ws hS;obtain⟨ps,hn,h⟩:=Q2.mp hf;split at h<;>try cases h
   have hc:(∀p∈ps,p≠[])/\ps.Nodup/\ps.length<64:=by assumption
   obtain⟨a',ha',xs,hx,la⟩:=sr.get hS;rw[ha]at ha';cases ha';rw[qQ hn]at la;have pr:=Au la;refine .inl ⟨a,xs,ps,rfl,SqL.of hx,pr,hc.1,hc.2.1,hc.2.2,fun p q hp aq=>?_⟩;have il:=uT (m:=m) pr q.toList (eQ aq.1);have e:(q.toList.map fun i=>rwU (ps.getD i []))=(fQ ps).map rwU:=by rw[o5 aq,Qa];rfl
   rw[e]at il;exact bB sr il post hp
  ·rename_i ws hS;obtain⟨ps,hn,h⟩:=Q2.mp hf;split at h<;>try cases h
   have hc:(∀p∈ps,p≠[])/\ps.Nodup/\ps.length<64:=by assumption
   obtain⟨a',ha',kvs,hx,ip⟩:=sr.get hS;rw[ha]at ha';cases ha';refine .inr ⟨a,kvs,ps,rfl,hx,ip.1.trans (qR hn),hc.1,hc.2.1,hc.2.2,fun as p q hp las hH aq=>?_⟩;have il:=xD (m:=m) (K:=K) las hH q.toList (eQ aq.1);have e:(q.toList.map fun i=>rwU (ps.getD i []))=(fQ ps).map rwU:=by rw[o5 aq,Qa];rfl
   rw[e]at il;exact bB sr il post hp
def qK(K:Q4):Sp:=fun vs H Q _=>∃(a:Addr) (ns:List Int),vs=[.ref a]/\KL K H a ns/\ns.length<=63/\∀H',Q (.bl true) H'
theorem IB{K:Q4}{H:Hp}{a:Addr}{ns:List Int}(hO:G6 H)(h:SqL K H a (ns.map V.int)):KL K H a ns:=by
 rcases h with(h|h)|h
 ·rcases hO a with e|⟨o,xs,e⟩
  ·rw[e]at h;cases h
  ·rw[e]at h;cases h
 ·exact .inl h
 ·exact .inr h
theorem zx{K:Q4}{H:Hp}{a:Addr}{ns:List Int}{c:CS}{r:Rho}{σ:L2.St}{Q:VK}{nx bk ct:L2.St->Hp->Prop}(h:KL K H a ns)
  (ok:∃ρ' S',c (some (.kl ns)::r) []=some (.rt (.bl true),ρ',S')) (q:∀H',Q (.bl true) H')
  (hr:r=ZU r.length none:=by rfl) (hl:σ.length=r.length:=by rfl):tS K c { nx:=nx,rt:=Q,bk:=bk,ct:=ct } (some (.ref a)::σ) H:=by
 obtain⟨ρ',S',e⟩:=ok;refine⟨[],_,_,_,ρ',S',⟨rfl,List.nodup_nil,fun l ad o e1 e2=>by simp at e1⟩,⟨by simp[hl],fun i u e1=>?_⟩,e,fun m' v H' _ _ iv=>by rw[iv.of_bl];exact q H'⟩;cases i with
 |zero=>
  simp at e1;subst e1;exact⟨.ref a,rfl,.kl_ h⟩
 |succ i=>
  simp only[Qw]at e1;rw[hr,X1]at e1;split at e1<;>cases e1
theorem Hr{ns:List Int}{i:Int}{S:Sto}:fIx (.kl ns) (.int i) S=(atI (ns.map U.int) i).bind fun u=>some (u,S):=rfl
theorem uc{ns:List Int}{S:Sto}:lK [.kl ns] S=some (.int ns.length,S):=rfl
section
variable{X:Cx}{K:Q4}
def Ax:List V->Hp->VK->Prop:=fun xs H Q=>∃(d:Addr) (kvs:List (Key×V)),xs=[.ref d]/\H d=some (.dK kvs)/\∀l,H l=none->Q (.ref l) (upd H l (.lst (kvs.map fun p=>kV p.1)))
theorem uz{n:Nat}{ks:List Key}:∀{vs:List Value},vs.length=ks.length->(∀(i:Nat) (v:Value),vs[i]?=some v->∃k,ks[i]?=some k/\mL k v=true)->a5 (ks.map kV) vs:=by
 induction ks with
 |nil=>intro vs hl _;rw[List.length_eq_zero_iff.mp hl];exact .nil
 |cons k ks ih=>
  intro vs hl h;cases vs with
  |nil=>simp at hl
  |cons v vs=>
   refine .cons ?_ (ih (by simpa using hl) fun i v' e=>by
    obtain⟨k',h1,h2⟩:=h (i+1) v' (by simpa using e);exact⟨k',by simpa using h1,h2⟩)
   obtain⟨k',h1,h2⟩:=h 0 v rfl;simp at h1;subst h1;rcases aY h2 with⟨j,t,e6,e7⟩|⟨j,t,e6,e7⟩
   ·subst e6;subst e7;exact⟨t,rfl⟩
   ·subst e6;subst e7;exact⟨t,rfl⟩
theorem CW(hc:X.calm=true):bX X (.type "list") Ax:=by
 rintro pins s σ H xs us Q I r ⟨d,kvs,rfl,hD,q⟩;obtain⟨u,rfl,ru⟩:=fP r;cases ru;obtain⟨z,hd,vs,rel,dd⟩:=Ds I.hok hD;obtain⟨ep,da⟩:=dd.dictAt;have lv:vs.length=kvs.length:=(Paired.length rel).symm;refine kdl_call (kdl_dict (kvs:=vs) (ep:=ep) hd) (I.ok.hd hc) da (by rw[lv];exact z) fun h' tk acc c up gl hac=>?_;have hks:vs.map (·.1)=kvs.map (·.1):=(pS rel);have hv:a5 (kvs.map fun p=>kV p.1) acc.toList:=by
  have:=uz (n:=0) (ks:=kvs.map (·.1)) (vs:=acc.toList) (by rw[QD,hac.1,Q9,lv]) fun i v e=>by
   obtain⟨k,x,e1,e2⟩:=hac.2 i v (by rw[<-Qk];exact e);exact⟨k,by rw[<-hks,Qr,e1];rfl,e2⟩
  rw[Qa]at this;exact this
 refine⟨.ref s.heap.objs.size,_,I.laid (o:=.lst (kvs.map fun p=>kV p.1)) (t':=tk) up (QJ _) ⟨by rw[Q9];exact z,_,c,hv,by rw[gl]⟩,rfl,q _ (I.hok.fresh (QJ _))⟩
def oD:Fn
 |[.ref l],S=>match S[l]? with
  |some (.dic kus)=>some (.ref S.length,S++[.lst (kus.map fun p=>kU p.1)])
  |_=>none
 |_,_=>none
theorem om{m:List Addr}{H:Hp}:∀ks:List Key,IsL K m H (ks.map kV) (ks.map kU)
 |[]=>.nil_
 |k::ks=>.cons_ (AK k) (om ks)
theorem CM:iG K Ax oD:=by
 intro m S H us vs u S' Q sr i hf post;match us,hf with
 |[.ref l],hf=>
  obtain⟨v,rfl,iv⟩:=i.one;obtain⟨a,ha,rfl⟩:=iv.of_ref;simp only[oD]at hf;split at hf<;>try cases hf
  rename_i kus hS;obtain⟨a',ha',kvs,hx,ip⟩:=sr.get hS;rw[ha]at ha';cases ha';refine⟨a,kvs,rfl,hx,fun p hp=>?_⟩;have e1:(kvs.map fun p=>kV p.1)=(kus.map (·.1)).map kV:=by rw[<-ip.1,Qa];rfl
  have e2:(kus.map fun p=>kU p.1)=(kus.map (·.1)).map kU:=by rw[Qa];rfl
  rw[e1];have il:IsL K m H ((kus.map (·.1)).map kV) (kus.map fun p=>kU p.1):=by rw[e2];exact om _
  exact bB sr il post hp
end
end OP
namespace OP
open PySem PySem.Spec PyProof.Rows L2 OG
section
variable{X:Cx}
theorem vF(hu:X.A.units+64<cLine):OpR X (compareOp .NotIn) (HR X.K true):=by
 rintro pins s σ H x y v u Q I rx ry ⟨dx,dys,hx,hy,lx,ly,q⟩;obtain⟨as,hx⟩:=hx.reads I rx;rcases hy with hy|hy
 ·obtain⟨bs,hy⟩:=hy.reads I ry;exact SeqAt.notIn_list_reads hy hx ly lx.1 (by have:=lx.2;omega) ⟨.bl _,H,I,rfl,q⟩
 ·obtain⟨bs,hy⟩:=hy.reads I ry;exact SeqAt.notIn_tuple_reads hy hx ly lx.1 (by have:=lx.2;omega) ⟨.bl _,H,I,rfl,q⟩
end
end OP
namespace OP
open PySem PySem.Spec PyProof PyProof.Rows L2 OG PySem.W
def Rs(xs:List Nat):Prop:=xs.Pairwise (· < ·)
theorem Rs.lt{xs:Array Nat}(h:Rs xs.toList){i k d:Nat}(hik:i<k)(hk:k<xs.size):xs.getD i d<xs.getD k d:=by
 have:=Z8.mp h i k (by simp;omega) (by simpa using hk) hik;simpa [X9,hk,show i<xs.size by omega] using this
theorem m8{xs:Array Nat}{j:Nat}(h:Rs xs.toList):∀(f lo hi:Nat),hi-lo<=f->lo<=hi->hi<=xs.size->(∀i,i<lo->xs.getD i j<j)->(∀i,hi<=i->i<xs.size->j<=xs.getD i j)->
  ∃p,SetTable.below.go xs j f lo hi=p/\p<=xs.size/\(∀i,i<p->xs.getD i j<j)/\∀i,p<=i->i<xs.size->j<=xs.getD i j
 |0,lo,hi,h1,h2,h3,h4,h5=>⟨lo,rfl,by omega,h4,fun i hi'=>h5 i (by omega)⟩
 |f+1,lo,hi,h1,h2,h3,h4,h5=>by
  unfold SetTable.below.go;by_cases c:lo<hi
  ·rw[if_pos c];dsimp only;by_cases d:xs.getD ((lo+hi) / 2) j<j
   ·rw[if_pos d];refine m8 h f _ hi (by omega) (by omega) h3 (fun i hi'=>?_) h5;by_cases e:i=(lo+hi) / 2
    ·rw[e];exact d
    ·exact Nat.lt_trans (h.lt (by omega) (by omega)) d
   ·rw[if_neg d];refine m8 h f lo _ (by omega) (by omega) (by omega) h4 fun i hi' hs=>?_;by_cases e:i=(lo+hi) / 2
    ·rw[e];omega
    ·have:=h.lt (xs:=xs) (d:=j) (show(lo+hi) / 2<i by omega) hs;omega
  ·rw[if_neg c];exact⟨lo,rfl,by omega,h4,fun i hi'=>h5 i (by omega)⟩
theorem jF{xs:Array Nat}(h:Rs xs.toList)(j:Nat):∃p,SetTable.below xs j=p/\p<=xs.size/\(∀i,i<p->xs.getD i j<j)/\∀i,p<=i->i<xs.size->j<=xs.getD i j:=by
 unfold SetTable.below;exact m8 h _ 0 _ (by omega) (by omega) (by omega) (fun i hi=>by omega) fun i hi hs=>by omega
theorem xt{xs:Array Nat}(h:Rs xs.toList){j:Nat}:(xs[SetTable.below xs j]?=some j)↔j∈xs.toList:=by
 obtain⟨p,e,h1,h2,h3⟩:=jF h j;rw[e];constructor
 ·intro g;exact ZX (by rw[Qk];exact g)
 ·intro hm;obtain⟨i,hi⟩:=ZH hm;have hs:i<xs.size:=by have:=(Q7.mp hi).1;simpa using this
  have gi:xs.getD i j=j:=by
   rw[Qk]at hi;simp[X9,hs];rw[QR hs]at hi;injection hi
  have ip:p<=i:=Nat.le_of_not_lt fun z=>by have:=h2 i z;omega
  have:p=i:=by
   rcases Zu p i with c|c
   ·have:=h.lt (d:=j) c hs;have:=h3 p (QJ _) (by omega);omega
   ·omega
  rw[this,<-Qk];exact hi
theorem uM{t:SetTable}(h:Rs t.place.toList)(hd:t.dummies=#[])(j:Nat):(j∉t.place.toList/\t.slot j=.empty)\/∃p,t.place[p]?=some j/\t.slot j=.live p:=by
 unfold SetTable.slot;dsimp only;by_cases c:t.place[SetTable.below t.place j]?=some j
 ·rw[if_pos (by rw[c];exact beq_self_eq_true _)];exact .inr ⟨_,c,rfl⟩
 ·refine .inl ⟨fun z=>c ((xt h).mpr z),?_⟩;rw[if_neg (by simpa using c)];have:SetTable.has t.dummies j=false:=by rw[hd];rfl
  rw[this];rfl
theorem Fh{t:SetTable}(h:Rs t.place.toList)(hd:t.dummies=#[]){j:Nat}(hj:j∉t.place.toList):∃p,t.put j=({ t with place:=SetTable.insertAt t.place p j },p)/\p<=t.place.size/\Rs (SetTable.insertAt t.place p j).toList:=by
 obtain⟨p,e,h1,h2,h3⟩:=jF h j;refine⟨p,?_,h1,?_⟩
 ·unfold SetTable.put;have:SetTable.has t.dummies j=false:=by rw[hd];rfl
  dsimp only;rw[e,this];rfl
 ·rw[SetTable.toList_insertAt];have lt:∀a∈t.place.toList.take p,a<j:=fun a ha=>by
   obtain⟨i,hi⟩:=ZH ha;obtain⟨hl,hg⟩:=Q7.mp hi;rw[Zr]at hl;have:=h2 i (by omega);rw[List.getElem_take]at hg;have hs:i<t.place.size:=by omega
   simp[X9,hs]at this;rw[<-hg];simpa using this
  have gt:∀a∈t.place.toList.drop p,j<a:=fun a ha=>by
   have hm:=List.mem_of_mem_drop ha;obtain⟨i,hi⟩:=ZH ha;obtain⟨hl,hg⟩:=Q7.mp hi;rw[List.length_drop]at hl;have hs:p+i<t.place.size:=by simp at hl;omega
   have:=h3 (p+i) (by omega) hs;rw[List.getElem_drop]at hg;simp[X9,hs]at this;have e2:t.place[p+i]=a:=by rw[<-hg];simp
   rw[e2]at this;rcases Zu j a with c|c
   ·exact c
   ·exact absurd hm (by rw[show a=j by omega];exact hj)
  refine List.pairwise_append.mpr ⟨List.Pairwise.sublist (List.take_sublist _ _) h,Z0.mpr ⟨gt,List.Pairwise.sublist (List.drop_sublist _ _) h⟩,fun a ha b hb=>?_⟩;rcases QH.mp hb with rfl|hb
  ·exact lt a ha
  ·exact Nat.lt_trans (lt a ha) (gt b hb)
abbrev tb(m:Nat):SetTable:={ SetTable.fresh 0 0 true with mask:=m }
def adv(m:Nat):SetTable.Probe->SetTable.Probe:=SetTable.advance (tb m)
def pth(m:Nat)(h:Int):Nat->SetTable.Probe
 |0=>SetTable.probeStart (tb m) h
 |k+1=>adv m (pth m h k)
theorem nT(m:Nat)(h:Int):∀k,(pth m h k).dummy=none
 |0=>rfl
 |k+1=>by
  have:=nT m h k;show(adv m (pth m h k)).dummy=none;unfold adv SetTable.advance;split
  ·exact this
  ·exact this
def Run(m:Nat)(p:SetTable.Probe)(i u:Nat):Prop:=p.j=i/\p.more=SetTable.runEnd m i-i/\p.i=i/\p.perturb=u
theorem vj(m:Nat)(h:Int):Run m (pth m h 0) (SetTable.bits h % (m+1)) (SetTable.bits h):=⟨rfl,rfl,rfl,rfl⟩
theorem qP{m:Nat}{h:Int}{k i u:Nat}(r:Run m (pth m h k) i u):∀d,d<=SetTable.runEnd m i-i->(pth m h (k+d)).j=i+d/\(pth m h (k+d)).more=SetTable.runEnd m i-i-d/\(pth m h (k+d)).i=i/\(pth m h (k+d)).perturb=u
 |0,_=>⟨r.1,r.2.1,r.2.2.1,r.2.2.2⟩
 |d+1,hd=>by
  obtain⟨h1,h2,h3,h4⟩:=qP r d (by omega);show(adv m (pth m h (k+d))).j=_/\(adv m (pth m h (k+d))).more=_/\(adv m (pth m h (k+d))).i=_/\(adv m (pth m h (k+d))).perturb=_;unfold adv SetTable.advance;rw[if_pos (by omega)];dsimp only;exact⟨by omega,by omega,h3,h4⟩
theorem qO{m:Nat}{h:Int}{k i u:Nat}(r:Run m (pth m h k) i u):Run m (pth m h (k+(SetTable.runEnd m i-i)+1)) (SetTable.leap m i u).1 (SetTable.leap m i u).2:=by
 obtain⟨h1,h2,h3,h4⟩:=qP r _ (QJ _);show Run m (adv m (pth m h (k+(SetTable.runEnd m i-i)))) _ _;unfold adv SetTable.advance;rw[if_neg (by omega),h3,h4];exact⟨rfl,rfl,rfl,rfl⟩
def lps(m:Nat):Nat->Nat×Nat->Nat×Nat
 |0,x=>x
 |k+1,x=>lps m k (SetTable.leap m x.1 x.2)
theorem uX(m i:Nat):SetTable.runEnd m i-i<=9:=by unfold SetTable.runEnd;split<;>omega
theorem uW{m:Nat}{h:Int}:∀(t k:Nat) (x:Nat×Nat),Run m (pth m h k) x.1 x.2->∃k',k<=k'/\k'<=k+10*t/\Run m (pth m h k') (lps m t x).1 (lps m t x).2
 |0,k,x,r=>⟨k,by omega,by omega,r⟩
 |t+1,k,x,r=>by
  have:=uX m x.1;obtain⟨k',h1,h2,h3⟩:=uW t _ (SetTable.leap m x.1 x.2) (qO r);exact⟨k',by omega,by omega,h3⟩
theorem vV(m:Nat):∀(a b:Nat) (x:Nat×Nat),lps m (a+b) x=lps m b (lps m a x)
 |0,b,x=>by rw[Nat.zero_add];rfl
 |a+1,b,x=>by rw[Nat.succ_add];exact vV m a b _
theorem xp(h:Int):SetTable.bits h<2^64:=by unfold SetTable.bits;omega
theorem vZ{m i u:Nat}:(SetTable.leap m i u).1<m+1:=Nat.mod_lt _ (by omega)
theorem AG{m:Nat}:∀(t:Nat) (x:Nat×Nat),x.1<m+1->(lps m t x).1<m+1
 |0,x,h=>h
 |t+1,x,h=>AG t _ vZ
theorem FZ{m:Nat}:∀(t:Nat) (x:Nat×Nat) (b:Nat),x.2<2^(5*t+b)->(lps m t x).2<2^b
 |0,x,b,h=>by rw[Nat.mul_zero,Nat.zero_add]at h;exact h
 |t+1,x,b,h=>FZ t _ b (by
  show x.2 / 32<_;rw[show 5*(t+1)+b=5*t+b+5 by omega,Nat.pow_add]at h;exact Nat.div_lt_of_lt_mul (by rw[Nat.mul_comm];exact h))
def orb(m:Nat):Nat->Nat->Nat
 |0,i=>i
 |k+1,i=>orb m k ((5*i+1) % (m+1))
def HJ(m:Nat):Nat->Nat->Nat->Nat
 |0,_,a=>a
 |k+1,i,a=>HJ m k ((5*i+1) % (m+1)) (a ||| (1 <<< i))
theorem uR{m:Nat}:∀(k i a e:Nat),(HJ m k i a).testBit e=true->a.testBit e=true\/∃t,t<k/\orb m t i=e
 |0,i,a,e,h=>.inl h
 |k+1,i,a,e,h=>by
  rcases uR k _ _ e h with h1|⟨t,h1,h2⟩
  ·rw[Nat.testBit_or,Bool.or_eq_true]at h1;rcases h1 with h1|h1
   ·exact .inl h1
   ·refine .inr ⟨0,by omega,?_⟩;rw[Nat.one_shiftLeft,Nat.testBit_two_pow]at h1;exact of_decide_eq_true h1
  ·exact .inr ⟨t+1,by omega,h2⟩
structure o7(m:Nat):Prop where
 all:HJ m (m+1) 0 0=2^(m+1)-1
 back:orb m (m+1) 0=0
theorem mH{m:Nat}:∀(a b i:Nat),orb m (a+b) i=orb m b (orb m a i)
 |0,b,i=>by rw[Nat.zero_add];rfl
 |a+1,b,i=>by rw[Nat.succ_add];exact mH a b _
theorem o7.at_{m:Nat}(F:o7 m){e:Nat}(h:e<m+1):∃t,t<m+1/\orb m t 0=e:=by
 rcases uR (m:=m) (m+1) 0 0 e (by rw[F.all,Nat.testBit_two_pow_sub_one];exact decide_eq_true h)with h1|h1
 ·simp at h1
 ·exact h1
theorem o7.go{m:Nat}(F:o7 m){i e:Nat}(hi:i<m+1)(he:e<m+1):∃t,t<m+1/\orb m t i=e:=by
 obtain⟨a,ha,ea⟩:=F.at_ hi;obtain⟨b,hb,eb⟩:=F.at_ he;rcases Zu b a with c|c
 ·refine⟨m+1-a+b,by omega,?_⟩;rw[<-ea,<-mH,show a+(m+1-a+b)=m+1+b by omega,mH,F.back];exact eb
 ·refine⟨b-a,by omega,?_⟩;rw[<-ea,<-mH,show a+(b-a)=b by omega];exact eb
theorem vU{m:Nat}:∀(t:Nat) (i:Nat),lps m t (i,0)=(orb m t i,0)
 |0,i=>rfl
 |t+1,i=>by
  show lps m t (SetTable.leap m i 0)=_;have:SetTable.leap m i 0=((5*i+1) % (m+1),0):=by unfold SetTable.leap;simp[Nat.mul_comm]
  rw[this];exact vU t _
theorem GB{m:Nat}(F:o7 m){i u e:Nat}(hi:i<m+1)(hu:u<2^64)(he:e<m+1):∃t,t<m+14/\(lps m t (i,u)).1=e:=by
 have h0:(lps m 13 (i,u)).2=0:=by
  have:=FZ (m:=m) 13 (i,u) 0 (Qj hu (by decide));omega
 obtain⟨t,ht,e2⟩:=F.go (AG 13 (i,u) hi) he;refine⟨13+t,by omega,?_⟩;rw[vV,show lps m 13 (i,u)=((lps m 13 (i,u)).1,0)from Prod.ext rfl h0,vU];exact e2
theorem Gr:o7 7:=⟨by decide +kernel,by decide +kernel⟩
theorem Gs:o7 31:=⟨by decide +kernel,by decide +kernel⟩
theorem Dd:o7 127:=⟨by decide +kernel,by decide +kernel⟩
theorem Dc:o7 511:=⟨by decide +kernel,by decide +kernel⟩
theorem zM:o7 2047:=⟨by decide +kernel,by decide +kernel⟩
def Rch(m:Nat)(P:Nat->Prop)(h:Int)(j:Nat):Prop:=∃k,(pth m h k).j=j/\∀k',k'<k->P (pth m h k').j
theorem Rch.mono{m:Nat}{P P':Nat->Prop}{h:Int}{j:Nat}(r:Rch m P h j)(s:∀x,P x->P' x):Rch m P' h j:=let ⟨k,a,b⟩:=r;⟨k,a,fun k' h=>s _ (b k' h)⟩
theorem IA{P:Nat->Prop}:∀{k:Nat},P k->∃N,N<=k/\P N/\∀i,i<N->¬P i:=fun{k}=>by
 induction k using Nat.strongRecOn with
 |ind k ih=>
  intro h;by_cases c:∃i,i<k/\P i
  ·obtain⟨i,hi,pi⟩:=c;obtain⟨N,h1,h2,h3⟩:=ih i hi pi;exact⟨N,by omega,h2,h3⟩
  ·exact⟨k,QJ _,h,fun i hi pi=>c ⟨i,hi,pi⟩⟩
theorem tj{m:Nat}(F:o7 m)(h:Int){P:Nat->Prop}{e:Nat}(he:e<m+1)(hp:¬P e):∃N,N<10*(m+15)/\¬P (pth m h N).j/\∀k,k<N->P (pth m h k).j:=by
 obtain⟨t,ht,e1⟩:=GB F (i:=SetTable.bits h % (m+1)) (u:=SetTable.bits h) (Nat.mod_lt _ (by omega)) (xp h) he;obtain⟨k,_,hk,r⟩:=uW t 0 (SetTable.bits h % (m+1),SetTable.bits h) (vj m h);rw[e1]at r;obtain⟨N,h1,h2,h3⟩:=IA (P:=fun k=>¬P (pth m h k).j) (k:=k) (by rw[r.1];exact hp);exact⟨N,by omega,h2,fun k hk=>Classical.not_not.mp (h3 k hk)⟩
theorem gap{m:Nat}{pl:List Nat}(nd:pl.Nodup)(hl:pl.length<=m):∃e,e<m+1/\e∉pl:=by
 by_cases c:∃e,e<m+1/\e∉pl
 ·exact c
 ·have:=List.Nodup.length_le_of_subset (X0 (n:=m+1)) (l₂:=pl) fun b hb=>Classical.not_not.mp fun z=>c ⟨b,Qb.mp hb,z⟩;rw[Zp]at this;omega
theorem Rs.nd{xs:List Nat}(h:Rs xs):xs.Nodup:=h.imp fun h=>QL h
theorem Rs.at1{xs:Array Nat}(h:Rs xs.toList){i i' j:Nat}(h1:xs[i]?=some j)(h2:xs[i']?=some j):i=i':=by
 rw[<-Qk]at h1 h2;obtain⟨l1,e1⟩:=Q7.mp h1;obtain⟨l2,e2⟩:=Q7.mp h2;exact(List.getElem_inj h.nd).mp (e1.trans e2.symm)
theorem qY{t:SetTable}{h:Int}(hs:Rs t.place.toList)(hd:t.dummies=#[]){ha:Nat->Int}{N:Nat}(hN:(pth t.mask h N).j∉t.place.toList):∀(f k:Nat),k<=N->N-k<f->(∀k',k<=k'->k'<N->(pth t.mask h k').j∈t.place.toList)->
  (∃k1 i,k<=k1/\k1<N/\(∀k',k<=k'->k'<k1->∀i,t.place[i]?=some (pth t.mask h k').j->ha i≠h)/\t.place[i]?=some (pth t.mask h k1).j/\ha i=h/\SetTable.probe.go t ha h f (pth t.mask h k)=some (.candidate (pth t.mask h k1).j i (pth t.mask h (k1+1))))\/
  ((∀k',k<=k'->k'<N->∀i,t.place[i]?=some (pth t.mask h k').j->ha i≠h)/\SetTable.probe.go t ha h f (pth t.mask h k)=some (.empty (pth t.mask h N).j none))
 |0,k,_,hf,_=>by omega
 |f+1,k,hk,hf,hl=>by
  unfold SetTable.probe.go;rcases uM hs hd (pth t.mask h k).j with⟨h1,h2⟩|⟨p,h1,h2⟩
  ·have:k=N:=by
    rcases Zu k N with c|c
    ·exact absurd (hl k (QJ _) c) h1
    ·omega
   subst this;rw[h2];refine .inr ⟨fun k' a b=>by omega,?_⟩;dsimp only;rw[nT]
  ·have ne:k≠N:=fun e=>hN (by rw[<-e];exact ZX (by rw[Qk];exact h1));rw[h2];dsimp only;by_cases c:ha p=h
   ·rw[if_pos (by rw[c];exact beq_self_eq_true _)];exact .inl ⟨k,p,QJ _,by omega,fun k' a b=>by omega,h1,c,rfl⟩
   ·rw[if_neg (by simpa using c)];have no:∀i,t.place[i]?=some (pth t.mask h k).j->ha i≠h:=fun i hi=>by rw[hs.at1 hi h1];exact c
    have nx:t.advance (pth t.mask h k)=pth t.mask h (k+1):=rfl;rw[nx];rcases qY hs hd hN (ha:=ha) f (k+1) (by omega) (by omega) fun k' a b=>hl k' (by omega) b with⟨k1,i,a1,a2,a3,a4⟩|⟨a1,a2⟩
    ·refine .inl ⟨k1,i,by omega,a2,fun k' b1 b2=>?_,a4⟩;rcases Zu k k' with c1|c1
     ·exact a3 k' (by omega) b2
     ·rw[show k'=k by omega];exact no
    ·refine .inr ⟨fun k' b1 b2=>?_,a2⟩;rcases Zu k k' with c1|c1
     ·exact a1 k' (by omega) b2
     ·rw[show k'=k by omega];exact no
structure Tab(t:SetTable)(es:List (Int×Value)):Prop where
 dm:t.dummies=#[]
 rs:Rs t.place.toList
 fl:o7 t.mask
 sz:t.place.size=es.length
 rc:∀(i j:Nat) (e:Int×Value),t.place[i]?=some j->es[i]?=some e->Rch t.mask (·∈t.place.toList) e.1 j
theorem Tab.put{t:SetTable}{es:Array (Int×Value)}(T:Tab t es.toList){h:Int}{x:Value}{N:Nat}(h1:(pth t.mask h N).j∉t.place.toList)(h2:∀k,k<N->(pth t.mask h k).j∈t.place.toList) :
  ∃p,t.put (pth t.mask h N).j=({ t with place:=SetTable.insertAt t.place p (pth t.mask h N).j },p)/\(SetTable.insertAt es p (h,x)).toList.Perm (es.toList++[(h,x)])/\Tab { t with place:=SetTable.insertAt t.place p (pth t.mask h N).j } (SetTable.insertAt es p (h,x)).toList:=by
 obtain⟨p,e,hp,rs⟩:=Fh T.rs T.dm h1;have sz:=T.sz;have hl:(SetTable.insertAt t.place p (pth t.mask h N).j).toList=t.place.toList.take p++(pth t.mask h N).j::t.place.toList.drop p:=SetTable.toList_insertAt ..;have hl2:(SetTable.insertAt es p (h,x)).toList=es.toList.take p++(h,x)::es.toList.drop p:=SetTable.toList_insertAt ..;have sub:∀y,y∈t.place.toList->y∈(SetTable.insertAt t.place p (pth t.mask h N).j).toList:=fun y hy=>by
  rw[hl,<-List.take_append_drop p t.place.toList]at *;rcases Qd.mp hy with z|z
  ·exact Zn _ (by simpa using z)
  ·exact Qm _ (QU _ (by simpa using z))
 refine⟨p,e,(SetTable.insertAt_perm es p (h,x)).trans (by rw[Array.toList_push]),T.dm,rs,T.fl,?_,fun i j e' gi ge=>?_⟩
 ·rw[hl2];show(SetTable.insertAt t.place p (pth t.mask h N).j).size=_;have sz':t.place.size=es.size:=by simpa using sz
  rw[<-QD,hl];simp only[QV,QB,Zr,List.length_drop,QD,sz']
 ·change (SetTable.insertAt t.place p (pth t.mask h N).j)[i]?=some j at gi;show Rch t.mask (·∈(SetTable.insertAt t.place p (pth t.mask h N).j).toList) e'.1 j;rw[<-Qk,hl]at gi;rw[hl2]at ge;have lt1:(t.place.toList.take p).length=p:=by rw[Zr,QD];omega
  have lt2:(es.toList.take p).length=p:=by rw[Zr,<-sz];omega
  rcases Nat.lt_trichotomy i p with c|c|c
  ·rw[Qz (by omega),List.getElem?_take_of_lt c]at gi ge;exact(T.rc i j e' (by rw[<-Qk];exact gi) ge).mono sub
  ·subst c;rw[QN (by omega),lt1,Nat.sub_self,Z7]at gi;rw[QN (by omega),lt2,Nat.sub_self,Z7]at ge;cases gi;cases ge;exact⟨N,rfl,fun k hk=>sub _ (h2 k hk)⟩
  ·obtain⟨d,rfl⟩:∃d,i=p+(d+1):=⟨i-p-1,by omega⟩;rw[QN (by omega),lt1,show p+(d+1)-p=d+1 by omega,Qw,List.getElem?_drop]at gi;rw[QN (by omega),lt2,show p+(d+1)-p=d+1 by omega,Qw,List.getElem?_drop]at ge;exact(T.rc (p+d) j e' (by rw[<-Qk];exact gi) ge).mono sub
abbrev Own(ow:Array (Option Nat))(j:Nat):Prop:=∃i,ow[j]?=some (some i)
structure tR(m:Nat)(hs:List Int)(ow:Array (Option Nat)):Prop where
 sz:ow.size=m+1
 ix:∀j i:Nat,ow[j]?=some (some i)->i<hs.length/\Rch m (Own ow) (hs.getD i 0) j
 al:∀i:Nat,i<hs.length->∃j:Nat,ow[j]?=some (some i)
 inj:∀j j' i:Nat,ow[j]?=some (some i)->ow[j']?=some (some i)->j=j'
theorem wI{m:Nat}{h:Int}{ow:Array (Option Nat)}(hz:ow.size=m+1):∀(f t k i u:Nat),Run m (pth m h k) i u->i<m+1->t<f->¬Own ow (lps m t (i,u)).1->(lps m t (i,u)).1<m+1->
  ∃N,k<=N/\SetTable.layClean.free m ow f i u=some (pth m h N).j/\ow[(pth m h N).j]?=some none/\∀k',k<=k'->k'<N->Own ow (pth m h k').j
 |0,t,k,i,u,_,_,ht,_,_=>by omega
 |f+1,t,k,i,u,r,hi,ht,hf,hl=>by
  unfold SetTable.layClean.free;have re:SetTable.runEnd m i<=m/\i<=SetTable.runEnd m i:=by unfold SetTable.runEnd;split<;>omega
  have val:∀d,d<SetTable.runEnd m i+1-i->((ow.getD (i+d) (some 0)).isNone=true↔ow[i+d]?=some none)/\((ow.getD (i+d) (some 0)).isNone=false↔Own ow (i+d)):=fun d hd=>by
   have hlt:i+d<ow.size:=by omega
   have e:ow.getD (i+d) (some 0)=ow[i+d]:=by simp[X9,hlt]
   rw[e,QR hlt];unfold Own;rw[QR hlt];cases ow[i+d]<;>simp
  cases hq:(Qy (SetTable.runEnd m i+1-i)).find? fun k=>(ow.getD (i+k) (some 0)).isNone with
  |some d=>
   rw[List.find?_range_eq_some]at hq;obtain⟨q1,q2,q3⟩:=hq;have q2:=Qb.mp q2;have rin:=fun d' (h':d'<=d)=>(qP r d' (by omega)).1;refine⟨k+d,by omega,by dsimp only;rw[rin d (QJ _)],by rw[rin d (QJ _)];exact(val d q2).1.mp q1,fun k' a b=>?_⟩;obtain⟨d',rfl⟩:∃d',k'=k+d':=⟨k'-k,by omega⟩;rw[rin d' (by omega)];exact(val d' (by omega)).2.mp (by simpa using q3 d' (by omega))
  |none=>
   have all:∀d,d<SetTable.runEnd m i+1-i->Own ow (i+d):=fun d hd=>(val d hd).2.mp (Bool.eq_false_iff.mpr (List.find?_eq_none.mp hq d (Qb.mpr hd)));cases t with
   |zero=>exact absurd (all 0 (by omega)) hf
   |succ t=>
    obtain⟨N,n1,n2,n3,n4⟩:=wI hz f t _ _ _ (qO r) vZ (by omega) hf hl;refine⟨N,by omega,n2,n3,fun k' a b=>?_⟩;rcases Zu k' (k+(SetTable.runEnd m i-i)+1)with c|c
    ·obtain⟨d',rfl⟩:∃d',k'=k+d':=⟨k'-k,by omega⟩;rw[(qP r d' (by omega)).1];exact all d' (by omega)
    ·exact n4 k' c b
theorem tR.gap{m:Nat}{hs:List Int}{ow:Array (Option Nat)}(L:tR m hs ow)(hl:hs.length<=m):∃e,e<m+1/\¬Own ow e:=by
 by_cases c:∃e,e<m+1/\¬Own ow e
 ·exact c
 ·have own:∀e,e<m+1->Own ow e:=fun e he=>Classical.not_not.mp fun z=>c ⟨e,he,z⟩;have hf:∀e,∃i,e<m+1->ow[e]?=some (some i):=fun e=>by
   by_cases he:e<m+1
   ·obtain⟨i,hi⟩:=own e he;exact⟨i,fun _=>hi⟩
   ·exact⟨0,fun z=>absurd z he⟩
  have hg:=fun e=>(hf e).choose_spec;have nd:((Qy (m+1)).map fun e=>(hf e).choose).Nodup:=by
   refine Zg.mpr (List.Pairwise.imp_of_mem (fun{a b} ha hb hne e=>hne ?_) X0);have ga:=hg a (Qb.mp ha);have gb:=hg b (Qb.mp hb);rw[e]at ga;exact L.inj _ _ _ ga gb
  have:=List.Nodup.length_le_of_subset nd (l₂:=Qy hs.length) fun i hi=>by
   obtain⟨e,he,rfl⟩:=Qu.mp hi;exact Qb.mpr (L.ix e _ (hg e (Qb.mp he))).1
  rw[Q9,Zp,Zp]at this;omega
theorem iO{ow:Array (Option Nat)}{j k x:Nat}(h:ow[j]?=some none)(i:Nat):(ow.setIfInBounds j (some k))[x]?=some (some i)↔(x=j/\i=k)\/ow[x]?=some (some i):=by
 have hj:j<ow.size:=(Zk.mp h).1;rw[Array.getElem?_setIfInBounds];by_cases c:j=x
 ·subst c;rw[if_pos rfl,if_pos hj,h];constructor
  ·intro e;injection e with e;injection e with e;exact .inl ⟨rfl,e.symm⟩
  ·rintro(⟨_,rfl⟩|e)
   ·rfl
   ·injection e with e;cases e
 ·rw[if_neg c];constructor
  ·exact .inr
  ·rintro(⟨e,_⟩|e)
   ·exact absurd e.symm c
   ·exact e
theorem tR.add{m:Nat}{hs:List Int}{ow:Array (Option Nat)}(F:o7 m)(L:tR m hs ow)(hl:hs.length<=m)(h:Int) :
  ∃j,SetTable.layClean.free m ow (SetTable.turns m) (SetTable.bits h % (m+1)) (SetTable.bits h)=some j/\tR m (hs++[h]) (ow.setIfInBounds j (some hs.length)):=by
 obtain⟨e,he,ho⟩:=L.gap hl;obtain⟨t,ht,e1⟩:=GB F (i:=SetTable.bits h % (m+1)) (u:=SetTable.bits h) (Nat.mod_lt _ (by omega)) (xp h) he;obtain⟨N,_,n1,n2,n3⟩:=wI (h:=h) L.sz (SetTable.turns m) t 0 _ _ (vj m h) (Nat.mod_lt _ (by omega)) (by unfold SetTable.turns;omega) (by rw[e1];exact ho) (by rw[e1];exact he);refine⟨_,n1,?_⟩;have up:∀x,Own ow x->Own (ow.setIfInBounds (pth m h N).j (some hs.length)) x:=fun x ⟨i,hi⟩=>⟨i,(iO n2 i).mpr (.inr hi)⟩;refine⟨by rw[Array.size_setIfInBounds];exact L.sz,fun j i g=>?_,fun i hi=>?_,fun j j' i g g'=>?_⟩
 ·rw[QV,Qs];rcases(iO n2 i).mp g with⟨rfl,rfl⟩|g
  ·refine⟨by omega,N,?_,?_⟩
   ·rw[QQ,QN (QJ _),Nat.sub_self];rfl
   ·rw[QQ,QN (QJ _),Nat.sub_self];exact fun k hk=>up _ (n3 k (ZQ _) hk)
  ·obtain⟨a,b⟩:=L.ix j i g;refine⟨by omega,?_⟩;rw[QQ,Qz a,<-QQ];exact b.mono up
 ·rw[QV,Qs]at hi;by_cases c:i=hs.length
  ·exact⟨_,(iO n2 i).mpr (.inl ⟨rfl,c⟩)⟩
  ·obtain⟨j,hj⟩:=L.al i (by omega);exact⟨j,(iO n2 i).mpr (.inr hj)⟩
 ·rcases(iO n2 i).mp g with⟨e1,e2⟩|g<;>rcases(iO n2 i).mp g' with⟨e3,e4⟩|g'
  ·rw[e1,e3]
  ·exact absurd (L.ix _ _ g').1 (by omega)
  ·exact absurd (L.ix _ _ g).1 (by omega)
  ·exact L.inj _ _ _ g g'
theorem tR.nil(m:Nat):tR m [] (Array.replicate (m+1) none):=by
 have no:∀j i:Nat,(Array.replicate (m+1) (none:Option Nat))[j]?≠some (some i):=fun j i=>by
  rw[Array.getElem?_replicate];split
  ·exact fun e=>by injection e with e;cases e
  ·exact fun e=>by cases e
 exact⟨by simp,fun j i g=>absurd g (no j i),fun i hi=>by simp at hi,fun j j' i g=>absurd g (no j i)⟩
theorem rB{m:Nat}(F:o7 m):∀(hs done:List Int) (ow:Array (Option Nat)),tR m done ow->done.length+hs.length<=m->
  ∃ow',hs.foldl (fun acc h=>do
   let (owner,k) <-acc
   let j <-SetTable.layClean.free m owner (SetTable.turns m) (SetTable.bits h % (m+1)) (SetTable.bits h)
   pure (owner.setIfInBounds j (some k),k+1)) (some (ow,done.length))=some (ow',done.length+hs.length)/\tR m (done++hs) ow'
 |[],done,ow,L,_=>⟨ow,rfl,by rw[Qe];exact L⟩
 |h::hs,done,ow,L,hl=>by
  rw[QB]at hl;obtain⟨j,e,L'⟩:=L.add F (by omega) h;obtain⟨ow',e',L''⟩:=rB F hs (done++[h]) _ L' (by rw[QV,Qs];omega);refine⟨ow',?_,by rw[QZ]at L'';exact L''⟩;rw[List.foldl_cons];have:(do
   let (owner,k) <-some (ow,done.length)
   let j <-SetTable.layClean.free m owner (SetTable.turns m) (SetTable.bits h % (m+1)) (SetTable.bits h)
   pure (owner.setIfInBounds j (some k),k+1):Option (Array (Option Nat)×Nat))=some (ow.setIfInBounds j (some done.length),(done++[h]).length):=by
   rw[QV,Qs];show(SetTable.layClean.free m ow (SetTable.turns m) (SetTable.bits h % (m+1)) (SetTable.bits h)).bind _=_;rw[e];rfl
  rw[this,e',QV,Qs,QB];congr 2;omega
theorem zW{m:Nat}(F:o7 m){hs:Array Int}(hl:hs.size<=m):∃ow,SetTable.layClean m hs=some ow/\tR m hs.toList ow:=by
 obtain⟨ow,e,L⟩:=rB F hs.toList [] _ (tR.nil m) (by simpa using hl);refine⟨ow,?_,L⟩;unfold SetTable.layClean;rw[<-Array.foldl_toList];rw[List.length_nil]at e;rw[e];rfl
def gh(m:Nat)(ow:Array (Option Nat)):List (Nat×Nat):=(Qy (m+1)).filterMap fun j=>(ow.getD j none).map (j,·)
theorem fJ{m:Nat}{ow:Array (Option Nat)}{j:Nat}{q:Nat×Nat}:(ow.getD j none).map (j,·)=some q↔q.1=j/\ow[j]?=some (some q.2):=by
 have e:ow.getD j none=(ow[j]?).getD none:=by rw[Zq]
 rw[e];obtain⟨a,b⟩:=q;cases h:ow[j]? with
 |none=>simp
 |some x=>
  cases x with
  |none=>simp
  |some y=>
   simp only[Ql,Option.map_some,Option.some.injEq,Prod.mk.injEq];exact⟨fun⟨h1,h2⟩=>⟨h1.symm,h2⟩,fun⟨h1,h2⟩=>⟨h1.symm,h2⟩⟩
theorem ie{m:Nat}{ow:Array (Option Nat)}{q:Nat×Nat}(hz:ow.size=m+1):q∈gh m ow↔ow[q.1]?=some (some q.2):=by
 unfold gh;rw[List.mem_filterMap];constructor
 ·rintro⟨j,hj,e⟩;obtain⟨rfl,e2⟩:=(fJ (m:=m)).mp e;exact e2
 ·intro h;refine⟨q.1,Qb.mpr ?_,(fJ (m:=m)).mpr ⟨rfl,h⟩⟩;have:=(Zk.mp h).1;omega
theorem zr{m:Nat}{ow:Array (Option Nat)}:Rs ((gh m ow).map (·.1)):=by
 unfold gh Rs;refine Zg.mpr (List.pairwise_filterMap.mpr (List.Pairwise.imp (fun{a b} hab q hq q' hq'=>?_) List.pairwise_lt_range));rw[((fJ (m:=m)).mp hq).1,((fJ (m:=m)).mp hq').1];exact hab
theorem sU{m:Nat}{hs:List Int}{ow:Array (Option Nat)}(L:tR m hs ow):((gh m ow).map (·.2)).Perm (Qy hs.length):=by
 have nd:((gh m ow).map (·.2)).Nodup:=by
  unfold gh;refine Zg.mpr (List.pairwise_filterMap.mpr (List.Pairwise.imp (fun{a b} hab q hq q' hq' e=>?_) List.pairwise_lt_range));obtain⟨e1,g1⟩:=(fJ (m:=m)).mp hq;obtain⟨e2,g2⟩:=(fJ (m:=m)).mp hq';rw[e]at g1;have:=L.inj _ _ _ g1 g2;omega
 refine(List.perm_ext_iff_of_nodup nd X0).mpr fun i=>?_;rw[Qu,Qb];constructor
 ·rintro⟨q,hq,rfl⟩;exact(L.ix _ _ ((ie L.sz).mp hq)).1
 ·intro h;obtain⟨j,hj⟩:=L.al i h;exact⟨(j,i),(ie L.sz).mpr hj,rfl⟩
theorem zO{α:Type}(es:List α):(Qy es.length).filterMap (fun i=>es[i]?)=es:=by
 refine Zt fun i=>?_;have:∀(n:Nat),n<=es.length->(Qy n).filterMap (fun i=>es[i]?)=es.take n:=fun n=>by
  induction n with
  |zero=>intro _;simp
  |succ n ih=>
   intro h;rw[List.range_succ,List.filterMap_append,ih (by omega),List.take_succ,List.filterMap_cons,Q6 (by omega)];simp
 rw[this _ (QJ _),List.take_length]
theorem AO{α:Type}{es:List α}:∀{is:List Nat},(∀i∈is,i<es.length)->∀k:Nat,(is.filterMap fun i=>es[i]?)[k]?=(is[k]?).bind fun i=>es[i]?
 |[],_,k=>by simp
 |i::is,h,k=>by
  rw[List.filterMap_cons,Q6 (h i QK)];dsimp only;cases k with
  |zero=>simp[Q6 (h i QK)]
  |succ k=>
   rw[Qw,Qw];exact AO (fun j hj=>h j (QU _ hj)) k
theorem Tab.relay{t:SetTable}{es:Array (Int×Value)}{m wanted:Nat}(hm:SetTable.sizeAbove wanted-1=m)(F:o7 m)(hl:es.size<=m) :
  ∃t' order,t.relaid (es.map (·.1)) wanted=some (t',order)/\t'.mask=m/\t'.led=t.led/\t'.plain=t.plain/\(order.filterMap (es[·]?)).toList.Perm es.toList/\Tab t' (order.filterMap (es[·]?)).toList:=by
 obtain⟨ow,e,L⟩:=zW F (hs:=es.map (·.1)) (by rw[Array.size_map];exact hl);have lh:((es.map (·.1)).toList).length=es.toList.length:=by simp
 have P:=sU L;rw[lh]at P;have ol:((((gh m ow).map (·.2)).toArray).filterMap (es[·]?)).toList=((gh m ow).map (·.2)).filterMap fun i=>es.toList[i]?:=by
  rw[Array.toList_filterMap];congr 1;funext i;rw[Qk]
 have hP:((((gh m ow).map (·.2)).toArray).filterMap (es[·]?)).toList.Perm es.toList:=by
  rw[ol];have:=P.filterMap fun i=>es.toList[i]?;rw[zO]at this;exact this
 refine⟨{ mask:=m,place:=((gh m ow).map (·.1)).toArray,dummies:=#[],finger:=t.finger,led:=t.led,moves:=t.movedTo m,plain:=t.plain },((gh m ow).map (·.2)).toArray,?_,rfl,rfl,rfl,hP,rfl,zr,F,?_,fun i j e' gi ge=>?_⟩
 ·unfold SetTable.relaid SetTable.laid;rw[hm,e];rfl
 ·rw[hP.length_eq];show(((gh m ow).map (·.1)).toArray).size=_;rw[QC,Q9];have:=P.length_eq;rw[Q9,Zp]at this;exact this
 ·change (((gh m ow).map (·.1)).toArray)[i]?=some j at gi;show Rch m (·∈((gh m ow).map (·.1))) e'.1 j;rw[List.getElem?_toArray,Qr]at gi;obtain⟨q,hq,rfl⟩:=Qt.mp gi;rw[ol,AO (fun k hk=>Qb.mp (P.mem_iff.mp hk)),Qr,hq]at ge;have ge:es.toList[q.2]?=some e':=ge;have own:=(ie L.sz).mp (ZX hq);obtain⟨_,r⟩:=L.ix _ _ own;have eh:((es.map (·.1)).toList).getD q.2 0=e'.1:=by
   rw[QQ,Array.toList_map,Qr,ge];rfl
  rw[eh]at r;exact r.mono fun x ⟨y,hy⟩=>Qu.mpr ⟨(x,y),(ie L.sz).mpr hy,rfl⟩
def Lv(m n:Nat):Prop:=(m=7/\n<5)\/(m=31/\n<19)\/(m=127/\n<77)\/(m=511/\n<307)\/(m=2047/\n<1229)
theorem Lv.full{m n:Nat}(h:Lv m n):o7 m:=by
 rcases h with⟨rfl,_⟩|⟨rfl,_⟩|⟨rfl,_⟩|⟨rfl,_⟩|⟨rfl,_⟩
 ·exact Gr
 ·exact Gs
 ·exact Dd
 ·exact Dc
 ·exact zM
theorem Lv.odd{m n:Nat}(h:Lv m n):(m % 2 == 0)=false:=by
 rcases h with⟨rfl,_⟩|⟨rfl,_⟩|⟨rfl,_⟩|⟨rfl,_⟩|⟨rfl,_⟩<;>rfl
theorem Lv.le{m n:Nat}(h:Lv m n):n+1<=m/\m<=2047:=by unfold Lv at h;omega
theorem Lv.next{m n:Nat}(h:Lv m n)(hn:n<1228):(¬(n+1)*5≥m*3/\Lv m (n+1))\/((n+1)*5≥m*3/\∃m',SetTable.sizeAbove (SetTable.grown (n+1))-1=m'/\Lv m' (n+1)/\SetTable.sizeAbove (SetTable.grown (n+1))<=2048):=by
 have s20:SetTable.sizeAbove (SetTable.grown 5)=32:=by decide +kernel
 have s76:SetTable.sizeAbove (SetTable.grown 19)=128:=by decide +kernel
 have s308:SetTable.sizeAbove (SetTable.grown 77)=512:=by decide +kernel
 have s1228:SetTable.sizeAbove (SetTable.grown 307)=2048:=by decide +kernel
 unfold Lv at h ⊢;by_cases c:(n+1)*5≥m*3
 ·refine .inr ⟨c,?_⟩;rcases h with⟨rfl,h⟩|⟨rfl,h⟩|⟨rfl,h⟩|⟨rfl,h⟩|⟨rfl,h⟩
  ·obtain rfl:n=4:=by omega
   exact⟨31,by rw[s20],by omega,by rw[s20];omega⟩
  ·obtain rfl:n=18:=by omega
   exact⟨127,by rw[s76],by omega,by rw[s76];omega⟩
  ·obtain rfl:n=76:=by omega
   exact⟨511,by rw[s308],by omega,by rw[s308];omega⟩
  ·obtain rfl:n=306:=by omega
   exact⟨2047,by rw[s1228],by omega,by rw[s1228];omega⟩
  ·omega
 ·exact .inl ⟨c,by omega⟩
def kP(p:Int×Int):List Key:=[.inl p.1,.inl p.2]
theorem Gb{p q:Int×Int}(h:kP p=kP q):p=q:=by
 injection h with h1 h2;injection h2 with h3 _;injection h1 with h1;injection h3 with h3;exact Prod.ext h1 h3
def hP(prog:Program)(w:World)(p:Int×Int):Int:=tupleKeyHash (bw prog w) (kP p)
theorem g6{prog:Program}{w:World}{h:Heap}{v:Value}{p:Int×Int}(k:bC h v p):∃b,v=.ref b/\IsTupleKey (bw prog w) h (kP p) b:=by
 obtain⟨b,o,t1,t2,e,rfl,g,c,d⟩:=k;exact⟨b,rfl,o,_,e,g,c,d,.cons (by simp[bw,mL,Value.isInt]) (.cons (by simp[bw,mL,Value.isInt]) .nil)⟩
def Els(prog:Program)(w:World)(h:Heap):List (Int×Value)->List (Int×Int)->Prop
 |[],[]=>True
 |e::es,p::ps=>(e.1=hP prog w p/\bC h e.2 p)/\Els prog w h es ps
 |_,_=>False
section
variable{prog:Program}{w:World}{h h':Heap}
theorem Els.len:∀{es:List (Int×Value)} {ps:List (Int×Int)},Els prog w h es ps->es.length=ps.length
 |[],[],_=>rfl
 |_::_,_::_,k=>by rw[QB,QB,k.2.len]
 |[],_::_,k=>k.elim
 |_::_,[],k=>k.elim
theorem Els.at_:∀{es:List (Int×Value)} {ps:List (Int×Int)} {i:Nat} {e:Int×Value},Els prog w h es ps->es[i]?=some e->∃p,ps[i]?=some p/\e.1=hP prog w p/\bC h e.2 p
 |_::_,p::_,0,_,k,g=>by simp at g;subst g;exact⟨p,rfl,k.1⟩
 |_::_,_::_,i+1,e,k,g=>by simpa using k.2.at_ (i:=i) (by simpa using g)
 |[],[],_,_,_,g=>by simp at g
 |[],_::_,_,_,k,_=>k.elim
 |_::_,[],_,_,k,_=>k.elim
theorem Els.app:∀{es fs:List (Int×Value)} {ps qs:List (Int×Int)},Els prog w h es ps->Els prog w h fs qs->Els prog w h (es++fs) (ps++qs)
 |[],_,[],_,_,k2=>k2
 |_::_,_,_::_,_,k,k2=>⟨k.1,k.2.app k2⟩
 |[],_,_::_,_,k,_=>k.elim
 |_::_,_,[],_,k,_=>k.elim
theorem Els.perm{es es':List (Int×Value)}(P:es'.Perm es):∀{ps:List (Int×Int)},Els prog w h es ps->∃ps',ps'.Perm ps/\Els prog w h es' ps':=by
 induction P with
 |nil=>exact fun{ps} k=>⟨ps,.refl _,k⟩
 |cons x _ ih=>
  intro ps k;cases ps with
  |nil=>exact k.elim
  |cons p ps=>
   obtain⟨qs,h1,h2⟩:=ih k.2;exact⟨p::qs,h1.cons p,k.1,h2⟩
 |swap x y l=>
  intro ps k;match ps,k with
  |[],k=>exact k.elim
  |[p],k=>exact k.2.elim
  |p::q::ps,k=>exact⟨q::p::ps,.swap _ _ _,k.2.1,k.1,k.2.2⟩
 |trans _ _ ih1 ih2=>
  intro ps k;obtain⟨qs,h1,h2⟩:=ih2 k;obtain⟨rs,h3,h4⟩:=ih1 h2;exact⟨rs,h3.trans h1,h4⟩
theorem Els.mono{a:Addr}(m:∀b o,b≠a->h.get? b=some o->h'.get? b=some o):∀{es:List (Int×Value)} {ps:List (Int×Int)},Els prog w h es ps->(∀e∈es,e.2≠.ref a)->Els prog w h' es ps
 |[],[],_,_=>trivial
 |e::es,p::ps,k,na=>by
  obtain⟨k1,b,o,t1,t2,n,e1,g,c,d⟩:=k.1;refine⟨⟨k1,b,o,t1,t2,n,e1,m b o (fun z=>na e QK (by rw[e1,z])) g,c,d⟩,k.2.mono m fun x hx=>na x (QU _ hx)⟩
 |[],_::_,k,_=>k.elim
 |_::_,[],k,_=>k.elim
theorem Els.keep:∀{es:List (Int×Value)} {ps:List (Int×Int)},Els prog w h es ps->(∀b o,(∃e∈es,e.2=.ref b)->h.get? b=some o->h'.get? b=some o)->Els prog w h' es ps
 |[],[],_,_=>trivial
 |e::es,p::ps,k,m=>by
  obtain⟨k1,b,o,t1,t2,n,e1,g,c,d⟩:=k.1;exact⟨⟨k1,b,o,t1,t2,n,e1,m b o ⟨e,QK,e1⟩ g,c,d⟩,k.2.keep fun b o ⟨x,hx,ex⟩=>m b o ⟨x,QU _ hx,ex⟩⟩
 |[],_::_,k,_=>k.elim
 |_::_,[],k,_=>k.elim
end
structure gD(prog:Program)(w:World)(h:Heap)(a:Addr)(es:Array (Int×Value))(ep:Nat)(t:SetTable)(ps:List (Int×Int)):Prop where
 ob:∃o,h.get? a=some o/\o.ExactSet/\o.data=.set es ep t
 tab:Tab t es.toList
 el:Els prog w h es.toList ps
 nd:ps.Nodup
 pl:t.plain=true
 ld:t.led=!w.params.followText "set-order"
 lv:Lv t.mask es.size
theorem qZ{t:SetTable}{h:Int}(hs:Rs t.place.toList)(hd:t.dummies=#[]){ha:Nat->Int}{N k:Nat}(hN:(pth t.mask h N).j∉t.place.toList)(hl:∀k,k<N->(pth t.mask h k).j∈t.place.toList)(hk:k<=N)(hn:N<10*(t.mask+15)){p:SetTable.Probe}(hp:p=pth t.mask h k){r:Option SetTable.Met}(e:t.probe ha h p=r) :
  (∃k1 i,k<=k1/\k1<N/\(∀k',k<=k'->k'<k1->∀i,t.place[i]?=some (pth t.mask h k').j->ha i≠h)/\t.place[i]?=some (pth t.mask h k1).j/\ha i=h/\r=some (.candidate (pth t.mask h k1).j i (pth t.mask h (k1+1))))\/
  ((∀k',k<=k'->k'<N->∀i,t.place[i]?=some (pth t.mask h k').j->ha i≠h)/\r=some (.empty (pth t.mask h N).j none)):=by
 subst hp;rw[<-e];exact qY hs hd hN _ k hk (by unfold SetTable.turns;omega) fun k' _ b=>hl k' b
section
variable{prog:Program}{w:World}{A:Around}{E:Value->Shared->Prop}{s:Shared}
theorem gD.fits{a:Addr}{es:Array (Int×Value)}{ep:Nat}{t:SetTable}{ps:List (Int×Int)}(S:gD prog w s.heap a es ep t ps):t.fits es.size=true:=by
 have h1:=S.lv.le;have h2:=S.tab.sz;have h3:=S.tab.dm;unfold SetTable.fits SetTable.fill;rw[h3];simp only[QD]at h2;simp[h2];omega
theorem xf{x:Addr}{p:Int×Int}(hx:bC s.heap (.ref x) p){Q:Bool->Shared->Prop}(q:Q false s):wpAny (model prog w) A (ofAClassStatement 8 (.ref x)) Q E s:=by
 obtain⟨b,o,t1,t2,e,e0,g,c,d⟩:=hx;cases e0;unfold ofAClassStatement;refine Q0 (wpAny_typeOf (T:="tuple") ⟨o,g,c⟩ ?_);dsimp only;rw[if_pos (beq_self_eq_true _)];refine Q0 (Q5 ?_);simp only[Bool.not_true,Qx,if_false];refine Q0 (wpAny_seqItems g d ?_);dsimp only;refine Q0 ?_;rw[<-X5];refine wpAny_forIn_list _ (fun rest r s'=>r.1=none/\s'=s/\∀v∈rest,∃i t,v=Value.int i t) _ (fun v rest r s' hz=>?_) (fun r s' hz=>?_) _ _ ⟨rfl,rfl,fun v hv=>?_⟩
 ·obtain⟨_,rfl,hv⟩:=hz;obtain⟨i,t,rfl⟩:=hv v QK;have e:ofAClassStatement 7 (Value.int i t)=pure false:=by unfold ofAClassStatement;rfl
  rw[e];exact Q0 (Q5 (Q5 ⟨rfl,rfl,fun y hy=>hv y (QU _ hy)⟩))
 ·obtain⟨e,rfl,_⟩:=hz;try dsimp only
  rw[e];exact Q5 q
 ·simp at hv;rcases hv with rfl|rfl
  ·exact⟨_,_,rfl⟩
  ·exact⟨_,_,rfl⟩
theorem xc{x:Addr}{p:Int×Int}(hx:bC s.heap (.ref x) p){ys:List Value}(hy:∀y∈ys,∃q,bC s.heap y q){Q:Bool->Shared->Prop}(q:Q false s):wpAny (model prog w) A (searchCouldBeSeen (.ref x) ys) Q E s:=by
 unfold searchCouldBeSeen;refine Q0 ?_;refine wpAny_forIn_list _ (fun rest r s'=>r.1=none/\s'=s/\∀v∈rest,∃q,bC s.heap v q) _ (fun v rest r s' hz=>?_) (fun r s' hz=>?_) _ _ ⟨rfl,rfl,hy⟩
 ·obtain⟨_,rfl,hv⟩:=hz;obtain⟨p',k⟩:=hv v QK;obtain⟨b,rfl,kk⟩:=g6 (prog:=prog) (w:=w) k;obtain⟨x',ex,kx⟩:=g6 (prog:=prog) (w:=w) hx;cases ex;have nx:∀y∈rest,∃q,bC s'.heap y q:=fun y hy=>hv y (QU _ hy);dsimp only;refine wpAny_ite_split (fun _=>Q5 ⟨rfl,rfl,nx⟩) fun _=>?_;refine Q0 (wpAny_eqIsQuiet_tuple kx ?_);simp only[Bool.not_true,Qx,if_false];refine Q0 (wpAny_eqIsQuiet_tuple kk ?_);simp only[Bool.not_true,Qx,if_false];refine Q0 (xf hx ?_);simp only[Qx,if_false];refine Q0 (xf k ?_);simp only[Qx,if_false];exact Q5 ⟨rfl,rfl,nx⟩
 ·obtain⟨e,rfl,_⟩:=hz;dsimp only;rw[e];exact Q5 q
theorem jH{a x:Addr}{es:Array (Int×Value)}{ep:Nat}{t:SetTable}{ps:List (Int×Int)}{p:Int×Int}(S:gD prog w s.heap a es ep t ps)(hu:A.units<cLine)(hx:bC s.heap (.ref x) p){N:Nat}(h1:(pth t.mask (hP prog w p) N).j∉t.place.toList)(h2:∀k,k<N->(pth t.mask (hP prog w p) k).j∈t.place.toList)(hN:N<10*(t.mask+15)){Q:SetFound->Shared->Prop}
  (q1:p∈ps->Q (.there none) s) (q2:p∉ps->Q (.free (pth t.mask (hP prog w p) N).j false) s) :
  ∀(f k:Nat) (stand:Option SetTable.Probe),k<=N->N-k<f->stand.getD (t.probeStart (hP prog w p))=pth t.mask (hP prog w p) k->(∀k',k'<k->∀i:Nat,t.place[i]?=some (pth t.mask (hP prog w p) k').j->ps[i]?≠some p)->wpAny (model prog w) A (setSearchFrom a (.ref x) (hP prog w p) true f stand) Q E s
 |0,k,stand,hk,hf,_,_=>by omega
 |f+1,k,stand,hk,hf,hst,no=>by
  obtain⟨o,ho,hex,hd⟩:=S.ob;unfold setSearchFrom;refine Q0 (wpAny_setState_of ho hd S.fits ?_);dsimp only;have hg:t.gaveWay=false:=S.lv.odd;rw[hg];simp only[Qx,if_false];have ls:=S.el.len;have sz:=S.tab.sz;split
  ·rename_i met heq;rcases qZ S.tab.rs S.tab.dm h1 h2 hk hN hst heq with⟨k1,i,b1,b2,b3,b4,b5,er⟩|⟨b3,er⟩
   ·injection er with er;subst er;have hi:i<es.size:=by
     have:=(Zk.mp b4).1;simp only[QD]at sz;omega
    obtain⟨⟨hy,y⟩,ei⟩:∃z,es[i]?=some z:=⟨es[i],QR hi⟩;have eh:hy=hP prog w p:=by
     have b5:(es[i]?.map (·.1)).getD 0=hP prog w p:=b5;rw[ei]at b5;exact b5
    obtain⟨p',g1,g2,g3⟩:=S.el.at_ (by rw[Qk];exact ei);obtain⟨b,rfl,ky⟩:=g6 (prog:=prog) (w:=w) g3;obtain⟨x',ex,kx⟩:=g6 (prog:=prog) (w:=w) hx;cases ex;dsimp only;have no2:p'≠p->∀k',k'<k1+1->∀i:Nat,t.place[i]?=some (pth t.mask (hP prog w p) k').j->ps[i]?≠some p:=fun ne k' hk' i' hi' hp'=>by
     rcases Zu k' k with c|c
     ·exact no k' c i' hi' hp'
     ·rcases Zu k' k1 with c1|c1
      ·refine b3 k' c c1 i' hi' ?_;have hi2:i'<es.size:=by
        have:=(Q7.mp hp').1;simp only[QD]at ls;omega
       obtain⟨q,hq1,hq2,_⟩:=S.el.at_ (i:=i') (by rw[Qk];exact QR hi2);rw[hp']at hq1;cases hq1;show(es[i']?.map (·.1)).getD 0=_;rw[QR hi2];exact hq2
      ·rw[show k'=k1 by omega]at hi';rw[S.tab.rs.at1 hi' b4,g1]at hp';injection hp' with hp';exact ne hp'
    have hsm:t.sameMemory t.moves t.mask=some true:=by unfold SetTable.sameMemory;rw[if_pos (beq_self_eq_true _)]
    have hsl:t.slot (pth t.mask (hP prog w p) k1).j=.live i:=by
     rcases uM S.tab.rs S.tab.dm (pth t.mask (hP prog w p) k1).j with⟨c1,_⟩|⟨i',c1,c2⟩
     ·exact absurd (ZX (by rw[Qk];exact b4)) c1
     ·rw[c2,S.tab.rs.at1 c1 b4]
    refine wpAny_ite_split (fun _=>Q0 (xc hx (fun y hy=>?_) ?_)) fun _=>?_
    ·obtain⟨e,he,rfl⟩:=Qu.mp hy;have he':e∈es.toList:=by simp at he;simpa using he.1
     obtain⟨i',hi'⟩:=ZH he';obtain⟨q,_,_,hq⟩:=S.el.at_ hi';exact⟨q,hq⟩
    all_goals
     (try simp only[Qx,if_false])
     rw[ei];dsimp only;refine Q0 (wpAny_holding (wpAny_eqBool_tuple hu ky kx ?_));refine Q0 (wpAny_setState_of ho hd S.fits ?_);dsimp only;by_cases c:p'=p
     ·subst c;rw[if_pos (by simp)];exact Q5 (q1 (ZX g1))
     ·have dc:decide (kP p'=kP p)=false:=decide_eq_false fun z=>c (Gb z);rw[dc,hsm];simp only[Bool.and_false,Qx,if_false,if_true];rw[hsl];dsimp only;rw[ei];dsimp only;refine Q0 (wpAny_isSame_ref_self ?_);refine Q0 (Q5 ?_);simp only[if_true];exact jH S hu hx h1 h2 hN q1 q2 f (k1+1) _ (by omega) (by omega) rfl (no2 c)
   ·injection er with er;subst er;dsimp only;refine Q5 (q2 fun hm=>?_);obtain⟨i0,hi0⟩:=ZH hm;have li:=(Q7.mp hi0).1;simp only[QD]at ls sz;have hie:i0<es.size:=by omega
    have hip:i0<t.place.size:=by omega
    obtain⟨q,hq1,hq2,_⟩:=S.el.at_ (i:=i0) (by rw[Qk];exact QR hie);rw[hi0]at hq1;cases hq1;obtain⟨k0,r1,r2⟩:=S.tab.rc i0 _ _ (QR hip) (by rw[Qk];exact QR hie);rw[hq2]at r1 r2;have k0N:k0<N:=by
     rcases Nat.lt_trichotomy k0 N with c|c|c
     ·exact c
     ·exact absurd (by rw[<-c,r1];simp) h1
     ·exact absurd (r2 N c) h1
    have gp:t.place[i0]?=some (pth t.mask (hP prog w p) k0).j:=by rw[r1];exact QR hip
    rcases Zu k0 k with c|c
    ·exact no k0 c i0 gp hi0
    ·refine b3 k0 c k0N i0 gp ?_;show(es[i0]?.map (·.1)).getD 0=_;rw[QR hie];exact hq2
  ·rename_i heq;rcases qZ S.tab.rs S.tab.dm h1 h2 hk hN hst rfl with⟨k1,i,b1,b2,b3,b4,b5,er⟩|⟨b3,er⟩
   ·exact absurd er (heq _)
   ·exact absurd er (heq _)
theorem zK{x:Addr}{p:Int×Int}(hx:bC s.heap (.ref x) p){Q:Bool->Shared->Prop}(q:Q true s):wpAny (model prog w) A (hashByValue 8 (.ref x)) Q E s:=by
 obtain⟨b,o,t1,t2,e,e0,g,c,d⟩:=hx;cases e0;unfold hashByValue;refine Q0 (wpAny_specialOf (T:="tuple") ⟨o,g,c⟩ PySem.F.slot_tuple_hash.lookup ?_);dsimp only;refine Q0 (wpAny_seqItems g d ?_);simp only[Ql];refine Q0 ?_;rw[<-X5];refine wpAny_forIn_list _ (fun rest r s'=>r.1=none/\s'=s/\∀v∈rest,∃i t,v=Value.int i t) _ (fun v rest r s' hz=>?_) (fun r s' hz=>?_) _ _ ⟨rfl,rfl,fun v hv=>?_⟩
 ·obtain⟨_,rfl,hv⟩:=hz;obtain⟨i,t,rfl⟩:=hv v QK;have e:hashByValue 7 (Value.int i t)=pure true:=by unfold hashByValue;rfl
  rw[e];exact Q0 (Q5 (Q5 ⟨rfl,rfl,fun y hy=>hv y (QU _ hy)⟩))
 ·obtain⟨e,rfl,_⟩:=hz;try dsimp only
  rw[e];exact Q5 q
 ·simp at hv;rcases hv with rfl|rfl
  ·exact⟨_,_,rfl⟩
  ·exact⟨_,_,rfl⟩
theorem wO{h:Heap}{a:Addr}{o:Obj}(g:h.get? a=some o)(c:o.cls=.type "set"):∀{es:List (Int×Value)} {ps:List (Int×Int)},Els prog w h es ps->∀e∈es,e.2≠.ref a
 |[],[],_,e,he=>by cases he
 |e0::es,p::ps,k,e,he=>by
  rcases QH.mp he with rfl|he
  ·obtain⟨_,b,o',t1,t2,n,e1,g',c',d'⟩:=k.1;rw[e1];intro z;injection z with z;subst z;rw[g]at g';cases g';rw[c]at c';exact absurd c' (by decide)
  ·exact wO g c k.2 e he
 |[],_::_,k,_,_=>k.elim
 |_::_,[],k,_,_=>k.elim
theorem qJ{h:Heap}{a:Addr}{o:Obj}{es es':Array (Int×Value)}{ep:Nat}{t t':SetTable}{ps:List (Int×Int)}(ho:h.get? a=some o)(hex:o.ExactSet)(hd:o.data=.set es ep t)(T:Tab t' es'.toList)(el:Els prog w h es'.toList ps)(nd:ps.Nodup)(pl:t'.plain=true)(ld:t'.led=!w.params.followText "set-order")(lv:Lv t'.mask es'.size) :
  gD prog w (h.update a (Obj.putSet es' t')) a es' (ep+1) t' ps/\∀b o,b≠a->h.get? b=some o->(h.update a (Obj.putSet es' t')).get? b=some o:=by
 have keep:∀b o,b≠a->h.get? b=some o->(h.update a (Obj.putSet es' t')).get? b=some o:=fun b o hb g=>by
  rw[(Heap.SameBut.update h a (Obj.putSet es' t')).2 b hb];exact g
 have g:=ZT (Obj.putSet es' t') ho (by rw[putSet_of es' t' hd];rfl);rw[putSet_of es' t' hd]at g;exact⟨⟨⟨_,g,⟨hex.1,hex.2.1,hex.2.2⟩,rfl⟩,T,el.mono keep (wO ho hex.1 el),nd,pl,ld,lv⟩,keep⟩
theorem yE{a:Addr}{es:Array (Int×Value)}{ep:Nat}{t:SetTable}{ps:List (Int×Int)}{m wanted:Nat}{o:Obj}(ho:s.heap.get? a=some o)(hex:o.ExactSet)(hd:o.data=.set es ep t)(hf:t.fits es.size=true)(el:Els prog w s.heap es.toList ps)(nd:ps.Nodup)(pl:t.plain=true)(ld:t.led=!w.params.followText "set-order")
  (hm:SetTable.sizeAbove wanted-1=m) (lv:Lv m es.size) (hs:SetTable.sizeAbove wanted<=2048) {Q:Unit->Shared->Prop}
  (q:∀h' es' ep' t' ps',(∀b o,b≠a->s.heap.get? b=some o->h'.get? b=some o)->gD prog w h' a es' ep' t' ps'->ps'.Perm ps->es'.toList.Perm es.toList->Q () { s with heap:=h' }):wpAny (model prog w) A (setRelay a wanted) Q E s:=by
 have hl:=lv.le;obtain⟨t',order,e,m1,m2,m3,P,T⟩:=Tab.relay (t:=t) (es:=es) hm lv.full (by omega);have sz:(order.filterMap (es[·]?)).size=es.size:=by rw[<-QD,P.length_eq,QD]
 obtain⟨ps',pp,el'⟩:=el.perm P;unfold setRelay;refine Q0 (wpAny_setState_of ho hd hf ?_);dsimp only;rw[if_neg (by unfold sizeLine;omega),e];refine Q0 ?_;refine wpAny_ite_split (fun c=>absurd sz (by simpa using c)) fun _=>Q5 ?_;dsimp only;obtain⟨S,keep⟩:=qJ (prog:=prog) (w:=w) (t':=t') ho hex hd T el' (pp.nodup_iff.mpr nd) (by rw[m3];exact pl) (by rw[m2];exact ld) (by rw[m1,sz];exact lv);exact wpAny_storeSet_of ho hd (q _ _ _ _ _ keep S pp P) (by rw[sz];unfold sizeLine;omega)
theorem B4{a x:Addr}{es:Array (Int×Value)}{ep:Nat}{t:SetTable}{ps:List (Int×Int)}{p:Int×Int}(S:gD prog w s.heap a es ep t ps)(hu:A.units<cLine)(hx:bC s.heap (.ref x) p)(hn:es.size<1228){Q:Bool->Shared->Prop}
  (q:∀h' tk es' ep' t' ps' b,(∀b o,b≠a->s.heap.get? b=some o->h'.get? b=some o)->gD prog w h' a es' ep' t' ps'->(∀y,y∈ps'↔y∈ps\/y=p)->es'.size<=es.size+1->(∀e∈es'.toList,e∈es.toList\/e.2=.ref x)->s.toks<=tk->Q b { s with heap:=h',toks:=tk }) :
  wpAny (model prog w) A (setAdd a (.ref x)) Q E s:=by
 obtain⟨x',ex,kx⟩:=g6 (prog:=prog) (w:=w) hx;cases ex;obtain⟨o,ho,hex,hd⟩:=S.ob;have hl:=S.lv.le;have sz:=S.tab.sz;have ls:=S.el.len;simp only[QD]at sz ls;unfold setAdd;refine wpAny_holding (Q0 (wpAny_pyHash_tuple hu kx ?_));obtain⟨e0,he0,hne⟩:=gap (m:=t.mask) S.tab.rs.nd (by rw[QD,sz];omega);obtain⟨N,n1,n2,n3⟩:=tj S.tab.fl (hP prog w p) (P:=(·∈t.place.toList)) he0 hne;show wpAny _ _ (setAddHashed a (.ref x) (hP prog w p)) _ _ _;unfold setAddHashed setAddHashedIn;refine wpAny_holding (Q0 (wpAny_setState_of ho hd S.fits ?_));dsimp only;have bs:byScan (.ref x) es=false:=rfl;rw[bs];simp only[Qx,if_false];unfold setSearch;refine Q0 (jH (s:={ s with toks:=s.toks+((kP p).length+1) }) S hu hx n2 n3 n1 (fun hm=>?_) (fun hm=>?_) 100000 0 none (ZQ _) (by omega) rfl fun k' hk'=>by omega)
 ·dsimp only;refine Q5 (q s.heap _ es ep t ps _ (fun _ _ _ g=>g) S (fun y=>⟨.inl,fun h=>h.elim id fun e=>e▸hm⟩) (X7 _) (fun e he=>.inl he) (Nat.le_add_right _ _))
 ·dsimp only;refine Q0 (wpAny_setState_of ho hd S.fits ?_);obtain⟨pp,e1,P,T⟩:=S.tab.put (h:=hP prog w p) (x:=.ref x) n2 n3;have e1':t.put (pth t.mask (hP prog w p) N).j=_:=e1;dsimp only;rw[e1'];dsimp only;rw[if_pos S.pl];refine Q0 (zK (s:={ s with toks:=s.toks+((kP p).length+1) }) hx ?_);simp only[if_true];have sz1:(SetTable.insertAt es pp (hP prog w p,Value.ref x)).size=es.size+1:=by have:=P.length_eq;simpa using this
  obtain⟨ps1,pp1,el1⟩:=(S.el.app (fs:=[(hP prog w p,.ref x)]) (qs:=[p]) ⟨⟨rfl,hx⟩,trivial⟩).perm P;have nd1:ps1.Nodup:=pp1.nodup_iff.mpr (by
   rw[X6];exact⟨S.nd,by simp,fun y hy z hz e=>hm (by rw[Qv.mp hz]at e;rw[<-e];exact hy)⟩)
  have mem1:∀y,y∈ps1↔y∈ps\/y=p:=fun y=>by rw[pp1.mem_iff,Qd,Qv]
  have from1:∀e∈(SetTable.insertAt es pp (hP prog w p,Value.ref x)).toList,e∈es.toList\/e.2=.ref x:=fun e he=>by
   rcases Qd.mp (P.mem_iff.mp he)with h|h
   ·exact .inl h
   ·rw[Qv.mp h];exact .inr rfl
  have keep1:∀b o,b≠a->s.heap.get? b=some o->(s.heap.update a (Obj.putSet (SetTable.insertAt es pp (hP prog w p,Value.ref x)) { t with place:=SetTable.insertAt t.place pp (pth t.mask (hP prog w p) N).j })).get? b=some o:=fun b o hb g=>by
   rw[(Heap.SameBut.update s.heap a _).2 b hb];exact g
  refine Q0 (wpAny_storeSet_of (s:={ s with toks:=s.toks+((kP p).length+1) }) ho hd ?_ (by rw[sz1];unfold sizeLine;omega));have tsz:(SetTable.insertAt t.place pp (pth t.mask (hP prog w p) N).j).size=es.size+1:=by
   have:=T.sz;change (SetTable.insertAt t.place pp (pth t.mask (hP prog w p) N).j).size=_ at this;rw[this,QD,sz1]
  have tf:({ t with place:=SetTable.insertAt t.place pp (pth t.mask (hP prog w p) N).j }:SetTable).tooFull=decide ((es.size+1)*5≥t.mask*3):=by
   unfold SetTable.tooFull SetTable.fill;dsimp only;rw[tsz,S.tab.dm];rfl
  rw[tf];rcases S.lv.next hn with⟨c1,lv⟩|⟨c1,m',hm',lv,hs⟩
  ·rw[decide_eq_false c1];simp only[Bool.not_false,Bool.and_false,Qx,if_false];obtain⟨S',keep⟩:=qJ (prog:=prog) (w:=w) ho hex hd T el1 nd1 S.pl S.ld (by rw[sz1];exact lv);exact Q5 (q _ _ _ _ _ _ _ keep S' mem1 (by rw[sz1];exact QJ _) from1 (Nat.le_add_right _ _))
  ·rw[decide_eq_true c1];simp only[Bool.not_false,Bool.and_true,if_true];have g:=ZT (Obj.putSet (SetTable.insertAt es pp (hP prog w p,Value.ref x)) { t with place:=SetTable.insertAt t.place pp (pth t.mask (hP prog w p) N).j }) ho (by rw[putSet_of _ _ hd];rfl);rw[putSet_of _ _ hd]at g;have el2:=el1.mono keep1 (wO ho hex.1 el1);refine Q0 (yE (prog:=prog) (w:=w) (s:={ s with heap:=s.heap.update a (Obj.putSet (SetTable.insertAt es pp (hP prog w p,Value.ref x)) { t with place:=SetTable.insertAt t.place pp (pth t.mask (hP prog w p) N).j }),toks:=s.toks+((kP p).length+1) }) g ⟨hex.1,hex.2.1,hex.2.2⟩ rfl ?_ el2 nd1 S.pl S.ld hm' (by rw[sz1];exact lv) hs fun h' es' ep' t' ps' keep2 S' pe es''=>?_)
   ·unfold SetTable.fits SetTable.fill;dsimp only;rw[tsz,S.tab.dm,sz1];simp;omega
   ·exact Q5 (q _ _ _ _ _ _ _ (fun b o hb g'=>keep2 b o hb (keep1 b o hb g')) S' (fun y=>by rw[pe.mem_iff];exact mem1 y) (by rw[<-QD,es''.length_eq,QD,sz1];exact QJ _) (fun e he=>from1 e (es''.mem_iff.mp he)) (Nat.le_add_right _ _))
end
abbrev fv(w:World):Obj:={ cls:=.type "set",dict:=none,data:=.set #[] 0 (.fresh 0 0 (!w.params.followText "set-order")) }
section
variable{prog:Program}{w:World}{A:Around}{E:Value->Shared->Prop}{s:Shared}
theorem B3(a:Value){Q1:Value->Shared->Prop}(q:Q1 (.ref s.heap.objs.size) { s with heap:=s.heap.push (fv w) }) :
  codeAny (model prog w) A (.call (.builtin "set.__new__") ⟨[.type "set",a],[]⟩) (wants Q1 E) s:=by
 refine codeAny_of_tree ?_;change wpAny _ A.in1 ((checkBuiltinCall "set.__new__" ⟨[.type "set",a],[]⟩) >>= fun _=>again (.builtin "set.__new__" ⟨[.type "set",a],[]⟩)) _ _ s;rw[PySem.F.newCall_set_1 a];refine Q0 (Q5 (Q5 ⟨plainId_quiet PySem.F.plain_set_new _,codeAny_builtin PySem.F.entry_set_new ?_⟩));rw[Around.under_plainId PySem.F.plain_set_new _];unfold Builtin.«set.__new__» Builtin.Frozenset.newClass;have hs:=sub_set_self;obtain⟨hp,g,d,tk,os⟩:=s;dsimp only
 wp_walk
 refine wpAny_askSetting (Q5 ?_);dsimp only;unfold newObj;exact Q0 (wpAny_alloc (Q5 (Q5 q)))
theorem qh{l:Value}{Q:Value->Shared->Prop}
  (hi:wpAny (model prog w) A.in1.in1 (Builtin.«set.__init__» ⟨[.ref s.heap.objs.size,l],[]⟩)
   (fun fin s'=>match fin with
    |.done f=>wants (fun r s2=>r=.none/\Q (.ref s.heap.objs.size) s2) E (.ok f) s'
    |.again c'=>c'.quiet=true/\codeAny (model prog w) A.in1 c' (wants (fun r s2=>r=.none/\Q (.ref s.heap.objs.size) s2) E) s')
   (fun e s'=>wants (fun r s2=>r=.none/\Q (.ref s.heap.objs.size) s2) E (.error e) s') { s with heap:=s.heap.push (fv w) }) :
  wpAny (model prog w) A (call (.type "set") [l]) Q E s:=by
 have f:=PySem.F.called_set;obtain⟨c,tl,m0⟩:=f.mro;have m1:=f.made;have m2:=f.sub;have m3:=f.notType;have m4:=f.canCreate;have m5:=PySem.F.typeCall_set_1 l;refine wpAny_call (codeAny_of_tree (Q5 ⟨Code.quiet_builtin _ (by decide +kernel),codeAny_builtin PySem.F.entry_type_call ?_⟩));rw[Around.under_plain (weight_type_call_type "set" [l] []) rfl];repeat (any_goals (first|assumption|wp_step))
 refine codeAny_mono (B3 l (E:=E) (Q1:=fun v s1=>v=.ref s.heap.objs.size/\s1={ s with heap:=s.heap.push (fv w) }) ⟨rfl,rfl⟩) fun r s1 hr=>?_;rcases r with e|fl
 ·exact hr
 ·cases fl with
  |ret v=>
   obtain⟨rfl,rfl⟩:=hr;have hT:Shared.TypeIs { s with heap:=s.heap.push (fv w) } (.ref s.heap.objs.size) "set":=⟨_,QY _ rfl,rfl⟩;have m6:=f.init.lookup;have m7:=f.init.bind (.ref s.heap.objs.size);repeat (any_goals (first|assumption|wp_step))
   refine codeAny_mono (codeAny_call_builtin f.init.plain PySem.F.entry_set_init (check_set_init_1 hT hi)) fun r2 s2 hr2=>?_;rcases r2 with e|fl2
   ·exact hr2
   ·cases fl2 with
    |ret r=>
     obtain⟨rfl,hq⟩:=hr2;repeat (any_goals (first|assumption|wp_step))
    |_=>exact hr2.elim
  |_=>exact hr.elim
theorem yq{R:Result->Shared->Prop}{I Sa:Addr}{fp wr:List Addr}{G:Array GenState->Array GenState->Prop}{n:Nat}{P:Nat->Value->Prop}{St:Nat->Shared->Prop}(W:WalksS prog w A.in1 I fp wr G n P St)(hSf:Sa∉fp)(hu:A.in1.units<cLine){h0:Heap}(hwr:∀b∈wr,h0.objs.size<=b)(hSa:h0.objs.size<=Sa)
  (val:Nat->Int×Int) (hval:∀i v,P i v->bC h0 v (val i)) (hb:n<=1200) :
  ∀(k i:Nat) (s:Shared),n-i=k->i<=n->St i s->(∀b o,h0.get? b=some o->s.heap.get? b=some o)->
   (∃es ep t ps,gD prog w s.heap Sa es ep t ps/\(∀e∈es.toList,∃j,P j e.2)/\es.size<=i/\∀y,y∈ps↔∃j,j<i/\val j=y)->
   (∀s',Moved (Sa::wr) G s s'->(∃es ep t ps,gD prog w s'.heap Sa es ep t ps/\(∀e∈es.toList,∃j,P j e.2)/\es.size<=n/\∀y,y∈ps↔∃j,j<n/\val j=y)->R (.ok (.ret .none)) s')->
   codeAny (model prog w) A (.builtin "set.update.loop" ⟨[.ref Sa,.ref I],[]⟩) R s:=by
 have sub:∀b∈wr,b∈Sa::wr:=fun b hb=>QU _ hb;have hSw:Sa∉wr:=fun h=>hSf (W.sub _ h);have moveS:∀{s s':Shared} {es ep t ps},Moved wr G s s'->(∀e∈es.toList,∃j,P j e.2)->gD prog w s.heap Sa es ep t ps->gD prog w s'.heap Sa es ep t ps:=fun{s s' es ep t ps} hm old S=>by
  obtain⟨⟨o,g,ex,d⟩,r1,r2,r3,r4,r5,r6⟩:=S;refine⟨⟨o,hm.heap _ _ hSw g,ex,d⟩,r1,r2.keep fun b o hb=>hm.heap b o fun z=>?_,r3,r4,r5,r6⟩;obtain⟨e,he,e2⟩:=hb;obtain⟨j,pj⟩:=old e he;obtain⟨b',o',_,_,_,e3,g',_⟩:=hval j _ pj;rw[e2]at e3;injection e3 with e3;exact absurd (QX g') (by rw[<-e3];exact Zl.mpr (hwr b z))
 intro k;induction k with
 |zero=>
  intro i s hk hi hst old hS hR;obtain rfl:i=n:=by omega
  refine codeAny_builtin PyProof.Rows.F.entry_set_update_loop ?_;rw[Around.under_plainId PyProof.Rows.F.plain_set_update_loop _];change wpAny _ A.in1 (pyNext (.ref I) >>= _) _ _ s;refine Q0 (W.done s _ _ hst fun s' hm=>Q5 (hR s' (hm.mono sub) ?_));obtain⟨es,ep,t,ps,S,oe,r⟩:=hS;exact⟨es,ep,t,ps,moveS hm oe S,oe,r⟩
 |succ k ih=>
  intro i s hk hi hst old hS hR;refine codeAny_builtin PyProof.Rows.F.entry_set_update_loop ?_;rw[Around.under_plainId PyProof.Rows.F.plain_set_update_loop _];change wpAny _ A.in1 (pyNext (.ref I) >>= _) _ _ s;refine Q0 (W.item i s _ _ (by omega) hst fun v s' hP hst' hm=>?_);obtain⟨es,ep,t,ps,S,oe,sz,mem⟩:=hS;have S1:=moveS hm oe S;have old1:∀b o,h0.get? b=some o->s'.heap.get? b=some o:=fun b o g=>hm.heap b o (fun z=>absurd (QX g) (Zl.mpr (hwr b z))) (old b o g);obtain⟨b,o,t1,t2,e,rfl,g,c,d⟩:=hval i v hP;have hx:bC s'.heap (.ref b) (val i):=⟨b,o,t1,t2,e,rfl,old1 b o g,c,d⟩;change wpAny _ A.in1 (holding [Value.ref b] (setAdd Sa (.ref b)) >>= _) _ _ s';refine Q0 (wpAny_holding (B4 S1 hu hx (by omega) fun h' tk es' ep' t' ps' bb keep S2 mem2 sz2 oe2 htk=>?_));refine Q5 ⟨plainId_quiet PyProof.Rows.F.plain_set_update_loop _,ih (i+1) _ (by omega) (by omega) (W.frame _ s' _ _ hst' htk fun b hb o g=>keep b o (fun z=>hSf (z▸hb)) g) (fun b o g=>keep b o (fun z=>absurd (QX g) (by rw[z];exact Zl.mpr hSa)) (old1 b o g)) ⟨es',ep',t',ps',S2,fun e he=>(oe2 e he).elim (oe e) fun z=>⟨i,by rw[z];exact hP⟩,by omega,fun y=>?_⟩ fun s'' hm'' hS''=>?_⟩
  ·rw[mem2,mem];constructor
   ·rintro(⟨j,hj,e⟩|e)
    ·exact⟨j,by omega,e⟩
    ·exact⟨i,by omega,e.symm⟩
   ·rintro⟨j,hj,e⟩;rcases Zu j i with c|c
    ·exact .inl ⟨j,c,e⟩
    ·exact .inr (by rw[<-e,show j=i by omega])
  ·exact hR s'' (Moved.trans W.gtrans ((hm.mono sub).then_heap htk fun b o hb g=>keep b o (fun z=>hb (by rw[z];exact QK)) g) hm'') hS''
theorem zN{h:Heap}{a:Addr}(g:h.get? a=some (fv w)):gD prog w h a #[] 0 (.fresh 0 0 (!w.params.followText "set-order")) []:=
 ⟨⟨_,g,⟨rfl,rfl,rfl⟩,rfl⟩,⟨rfl,List.Pairwise.nil,Gr,rfl,fun i j e g=>by simp[SetTable.fresh]at g⟩,trivial,List.nodup_nil,rfl,rfl,.inl ⟨rfl,by decide⟩⟩
theorem mm{l:Addr}{vs:List Value}{ps0:List (Int×Int)}{Q:Value->Shared->Prop}(hh:A.handled=none)(hu:A.units+64<cLine)(hl:s.heap.IsList l vs.toArray)(hp:cR s.heap vs ps0)(hn:vs.length<=1200)
  (q:∀h' tk es ep t ps,gD prog w h' s.heap.objs.size es ep t ps->(∀e∈es.toList,∃j:Nat,vs[j]?=some e.2)->es.size<=1200->(∀y,y∈ps↔y∈ps0)->(∀b o,s.heap.get? b=some o->h'.get? b=some o)->Q (.ref s.heap.objs.size) { s with heap:=h',toks:=tk }) :
  wpAny (model prog w) A (call (.type "set") [.ref l]) Q E s:=by
 refine qh ?_;have gS:(s.heap.push (fv w)).get? s.heap.objs.size=some (fv w):=QY _ rfl;have hl1:(s.heap.push (fv w)).IsList l vs.toArray:=hl.push _;obtain⟨ol,gl,cl,nl,dl⟩:=hl;obtain⟨ocl,odi,oda,osl⟩:=ol;dsimp only at cl dl;subst cl;subst dl;have gl':(s.heap.push (fv w)).get? l=some { cls:=.type "list",dict:=odi,data:=.seq vs.toArray nl,slots:=osl }:=Q3 _ gl;have x1:=PySem.F.sub_list_set;have x2:=PySem.F.sub_list_frozenset;have x3:(Value.type "list" == Value.type "dict")=false:=by decide
 have lS:l<s.heap.objs.size:=QX gl;unfold Builtin.«set.__init__» noKeywords Builtin.Frozenset.updateFrom;generalize hq:pyIter=PI
 wp_walk
 subst hq;refine wpAny_pyIter_list hl1 (Q0 (wpAny_runValue ?_));have sz1:(s.heap.push (fv w)).objs.size=s.heap.objs.size+1:=ZL ..;have W:=(Walks.list (prog:=prog) (w:=w) (A:=A.in1.in1.in1) hh (s.heap.push (fv w)).objs.size l (by rw[sz1];exact QL (Zm lS)) vs.toArray).toS;have hv:∀(i:Nat) (v:Value),vs.toArray[i]?=some v->bC s.heap v (ps0.getD i (0,0)):=fun i v g=>by
  rw[List.getElem?_toArray]at g;have:=(Q7.mp g).1;have hpg:=fh hp (i:=i) (by rw[<-dS hp];exact this);rw[QQ,g]at hpg;exact hpg
 refine yq W (Sa:=s.heap.objs.size) (by rw[sz1];simp;exact Zz lS) (by show A.units+1+1+1<cLine;omega) (h0:=s.heap) (fun b hb=>by rw[sz1]at hb;simp at hb;rw[hb];exact X7 _) (QJ _) (fun i=>ps0.getD i (0,0)) hv (by simpa using hn) (vs.toArray.size-0) 0 _ (by omega) (ZQ _) ⟨⟨_,QY _ rfl,rfl,rfl⟩,hl1.push _⟩ (fun b o g=>Q3 _ (Q3 _ g)) ⟨#[],0,_,[],zN (Q3 _ gS),fun e he=>by simp at he,QJ _,fun y=>Iff.intro (fun z=>by simp at z) (fun z=>by obtain⟨j,hj,_⟩:=z;omega)⟩ fun s' hm hS=>?_;obtain⟨es,ep,t,ps,S,oe,sz,mem⟩:=hS;obtain⟨h',g',d',tk',os'⟩:=s';have eg:g'=s.gens:=hm.gens;have ed:d'=s.drawn:=hm.drawn;have eo:os'=s.os:=hm.os;subst eg;subst ed;subst eo;refine Q5 (Q5 ⟨rfl,?_⟩);refine q h' tk' es ep t ps S (fun e he=>by obtain⟨j,hj⟩:=oe e he;exact⟨j,by rw[List.getElem?_toArray]at hj;exact hj⟩) (by simp at sz;omega) (fun y=>?_) fun b o g=>?_
 ·rw[mem];have e:=dS hp;constructor
  ·rintro⟨j,hj,rfl⟩;have hj':j<ps0.length:=by simp at hj;omega
   rw[QQ,Q6 hj'];exact Z9 hj'
  ·intro hy;obtain⟨j,hj,rfl⟩:=List.getElem_of_mem hy;refine⟨j,by simp;omega,?_⟩;rw[QQ,Q6 hj];rfl
 ·have lt:=QX g;refine hm.heap b o ?_ (Q3 _ (Q3 _ g));rw[sz1];simp;exact⟨QL lt,QL (Zm lt)⟩
end
theorem iJ:Slot "set_iterator" "__next__" "set_iterator.__next__":=.of (owner:="set_iterator") (n:="__next__") (by rw[typeLookup_type,builtinLookup_eq_fast];kernel_rfl) (by decide +kernel) (by decide +kernel) (by decide +kernel) (by first|exact .inl (by decide +kernel)|exact .inr (by decide +kernel)) (by rw[isSubtype_type];kernel_rfl)
theorem wN:entryFor table "set_iterator.__next__"=some Builtin.«set_iterator.__next__»:=entryFor_of_tree (by kernel_rfl)
theorem zP:entryFor table "set.__iter__"=some Builtin.«frozenset.__iter__»:=entryFor_alias (id':="frozenset.__iter__") (by kernel_rfl) rfl (by decide +kernel) (by kernel_rfl)
theorem uO:Slot "set_iterator" "__iter__" "set_iterator.__iter__":=.of (owner:="set_iterator") (n:="__iter__") (by rw[typeLookup_type,builtinLookup_eq_fast];kernel_rfl) (by decide +kernel) (by decide +kernel) (by decide +kernel) (by first|exact .inl (by decide +kernel)|exact .inr (by decide +kernel)) (by rw[isSubtype_type];kernel_rfl)
theorem Dp:entryFor table "set_iterator.__iter__"=some Builtin.«dict_keyiterator.__iter__»:=entryFor_alias (id':="dict_keyiterator.__iter__") (by kernel_rfl) rfl (by decide +kernel) (by kernel_rfl)
theorem xE(a:Value):argsOk "set_iterator.__next__" ⟨[a],[]⟩:=by
 unfold argsOk;rw[signature?_of (id:="set_iterator.__next__") (n:="__txen__".toList) (o:="rotareti_tes".toList) (rows:=Manifest.sig_set_iterator) (by kernel_rfl) (by kernel_rfl)]
 kernel_rfl
theorem DJ(a:Value):argsOk "set_iterator.__iter__" ⟨[a],[]⟩:=by
 unfold argsOk;rw[signature?_of (id:="set_iterator.__iter__") (n:="__reti__".toList) (o:="rotareti_tes".toList) (rows:=Manifest.sig_set_iterator) (by kernel_rfl) (by kernel_rfl)]
 kernel_rfl
theorem wM{α:Type}:∀{l:List α} {k:Nat} (h:k<l.length),(l[k]::l.eraseIdx k).Perm l
 |x::r,0,_=>List.Perm.refl _
 |x::r,k+1,h=>(List.Perm.swap x _ _).trans ((wM (l:=r) (k:=k) (by simpa using h)).cons x)
theorem vw{α:Type}{nx:Nat->Nat}:∀(f k:Nat) (l:List α) (out:Array α),f=l.length->(pickOrder.go nx f k l out).toList.Perm (out.toList++l)
 |0,k,l,out,h=>by
  rw[List.eq_nil_of_length_eq_zero h.symm,Qe];exact .refl _
 |f+1,k,l,out,h=>by
  unfold pickOrder.go;have hlt:nx k % l.length<l.length:=Nat.mod_lt _ (by omega);rw[Q6 hlt];dsimp only;refine(vw f (k+1) _ _ (by rw[List.length_eraseIdx,if_pos hlt];omega)).trans ?_;rw[Array.toList_push,QZ];exact List.Perm.append_left _ (wM hlt)
theorem vv{α:Type}{nx:Nat->Nat}(xs:Array α):(pickOrder nx xs).toList.Perm xs.toList:=by
 unfold pickOrder;have:=vw (nx:=nx) xs.size 0 xs.toList #[] (by simp);simpa using this
def zd(w:World)(a:Addr)(ep:Nat)(es:Array (Int×Value)):Array (Int×Value):=if w.params.followText "set-order" then pickOrder (w.params.setOrder a ep) es else es
theorem g9{w:World}{a:Addr}{ep:Nat}{es:Array (Int×Value)}:(zd w a ep es).toList.Perm es.toList:=by
 unfold zd;split
 ·exact vv es
 ·exact .refl _
theorem lQ{xs:Array Nat}(h:Rs xs.toList):SetTable.below xs 0=0:=by
 obtain⟨p,e,h1,h2,h3⟩:=jF h 0;rw[e];cases p with
 |zero=>rfl
 |succ p=>have:=h2 0 (by omega);omega
theorem tF{xs:Array Nat}(h:Rs xs.toList){i j:Nat}(g:xs[i]?=some j):SetTable.below xs (j+1)=i+1:=by
 obtain⟨p,e,h1,h2,h3⟩:=jF h (j+1);have hi:i<xs.size:=(Zk.mp g).1;have gi:∀d,xs.getD i d=j:=fun d=>by simp[X9,hi];rw[QR hi]at g;injection g
 rw[e];rcases Nat.lt_trichotomy p (i+1)with c|c|c
 ·have:=h3 i (by omega) hi;rw[gi]at this;omega
 ·exact c
 ·have a1:=h2 (i+1) c;have a2:=h.lt (d:=j+1) (show i<i+1 by omega) (show i+1<xs.size by omega);rw[gi]at a2;omega
structure Ah(w:World)(o:Obj)(es:Array (Int×Value))(ep:Nat)(t:SetTable):Prop where
 ex:o.ExactSet
 dt:o.data=.set es ep t
 tab:Tab t es.toList
 pl:t.plain=true
 ld:t.led=!w.params.followText "set-order"
 lv:Lv t.mask es.size
theorem gD.so{prog:Program}{w:World}{h:Heap}{a:Addr}{es:Array (Int×Value)}{ep:Nat}{t:SetTable}{ps:List (Int×Int)}(S:gD prog w h a es ep t ps):∃o,h.get? a=some o/\Ah w o es ep t:=let ⟨o,g,ex,d⟩:=S.ob;⟨o,g,ex,d,S.tab,S.pl,S.ld,S.lv⟩
theorem Ah.fits{w:World}{o:Obj}{es:Array (Int×Value)}{ep:Nat}{t:SetTable}(S:Ah w o es ep t):t.fits es.size=true:=by
 have h1:=S.lv.le;have h2:=S.tab.sz;have h3:=S.tab.dm;unfold SetTable.fits SetTable.fill;rw[h3];simp only[QD]at h2;simp[h2];omega
section
variable{prog:Program}{w:World}{A:Around}{E:Value->Shared->Prop}{s:Shared}{a:Addr}{es:Array (Int×Value)}{ep:Nat}{t:SetTable}{o:Obj}
theorem qj{Q:Bool->Shared->Prop}(q:Q (w.params.followText "set-order") s):wpAny (model prog w) A setsByText Q E s:=by
 unfold setsByText;exact Q0 (wpAny_askSetting (Q5 q))
def SIt(w:World)(h:Heap)(it a:Addr)(i n ep:Nat)(t:SetTable):Prop:=∃o sl,h.get? it=some o/\o.cls=.type "set_iterator"/\o.data=.fields #[rawInt (sl:Nat),rawInt (i:Nat),.ref a,rawInt (n:Nat),rawInt (ep:Nat)]/\(w.params.followText "set-order"=false->SetTable.below t.place sl=i)
theorem SIt.ty{it:Addr}{i n:Nat}(h:SIt w s.heap it a i n ep t):s.TypeIs (.ref it) "set_iterator":=let ⟨o,_,g,c,_⟩:=h;⟨o,g,c⟩
theorem B0(ho:s.heap.get? a=some o)(S:Ah w o es ep t){Q:Value->Shared->Prop}(q:∀o,SIt w (s.heap.push o) s.heap.objs.size a 0 es.size ep t->o={ cls:=.type "set_iterator",data:=.fields #[rawInt 0,rawInt 0,.ref a,rawInt (es.size:Nat),rawInt (ep:Nat)] }->Q (.ref s.heap.objs.size) { s with heap:=s.heap.push o }):wpAny (model prog w) A (pyIter (.ref a)) Q E s:=by
 have hd:=S.dt;have hex:=S.ex;have T:s.TypeIs (.ref a) "set":=⟨o,ho,hex.1⟩;refine wpAny_pyIter_slot T PySem.F.slot_set_iter (wpAny_call_entry PySem.F.slot_set_iter T zP ?_ (PySem.F.args_set_iter_1 _));unfold Builtin.«frozenset.__iter__» Builtin.Frozenset.slot0 slotArgs;refine Q0 (Q0 (Q5 (Q5 ?_)));unfold Builtin.Frozenset.sizeOf;refine Q0 (Q0 (wpAny_setEntries_of ho hd S.fits (Q5 ?_)));unfold setDrawn;refine Q0 (Q0 (wpAny_setState_of ho hd S.fits (Q0 (qj (Q5 ?_)))));refine wpAny_ite_split (fun c=>?_) fun _=>?_
 ·have c':(!w.params.followText "set-order"&&(!t.plain&&decide (es.size>1)))=true:=c;rw[S.pl]at c';simp at c'
 refine Q0 (Q5 (Q0 (wpAny_setEpoch_of ho hd S.fits ?_)));refine Q0 (wpAny_newObj_type (Q5 ⟨_,rfl,"set_iterator",_,⟨_,QY _ rfl,rfl⟩,iJ.lookup,q _ ⟨_,0,QY _ rfl,rfl,rfl,fun _=>lQ S.tab.rs⟩ rfl⟩))
theorem SIt.at_{h h':Heap}{it:Addr}{i n:Nat}(x:SIt w h it a i n ep t)(e:∀o,h.get? it=some o->h'.get? it=some o):SIt w h' it a i n ep t:=let ⟨o,sl,g,r⟩:=x;⟨o,sl,e o g,r⟩
theorem qL{it:Addr}{i sl:Nat}(ho:s.heap.get? a=some o)(S:Ah w o es ep t)(hsl:w.params.followText "set-order"=false->SetTable.below t.place sl=i){Q:Option (Value×Nat)->Shared->Prop}
  (q1:∀e,(zd w a ep es)[i]?=some e->∀sl',(w.params.followText "set-order"=false->SetTable.below t.place sl'=i+1)->Q (some (e.2,sl')) s) (q2:(zd w a ep es)[i]?=none->Q none s):wpAny (model prog w) A (setNext a sl i ep) Q E s:=by
 have hd:=S.dt;have hex:=S.ex;unfold setNext;refine Q0 (wpAny_setState_of ho hd S.fits ?_);dsimp only;refine Q0 (qj ?_);unfold zd at q1 q2;cases hb:w.params.followText "set-order" with
 |true=>
  rw[hb]at q1 q2;simp only[if_true]at q1 q2 ⊢;rw[if_neg (by simp)];unfold setWalk;refine Q0 (Q0 (wpAny_setState_of ho hd S.fits ?_));dsimp only;refine Q0 (qj ?_);rw[hb];simp only[if_true];refine Q0 (wpAny_askSetting (Q5 (Q5 ?_)));show Q ((pickOrder (w.params.setOrder a ep) es)[i]?.map fun e=>(e.2,sl)) s;cases hg:(pickOrder (w.params.setOrder a ep) es)[i]? with
  |none=>exact q2 hg
  |some e=>exact q1 e hg sl (fun z=>by cases z)
 |false=>
  rw[hb]at q1 q2;simp only[Qx,if_false]at q1 q2 ⊢;refine wpAny_ite_split (fun c=>?_) fun _=>?_
  ·have c':(!t.plain&&decide (es.size>1))=true:=c;rw[S.pl]at c';simp at c'
  refine Q0 ?_;have hl:t.led=true:=by rw[S.ld,hb];rfl
  show wpAny _ _ (if (!t.led&&!es.isEmpty)=true then unsupported "set:maker-not-led" else pure ()) _ _ _;rw[hl];simp only[Bool.not_true,Bool.false_and,Qx,if_false];refine Q5 (Q5 ?_);rw[hsl hb];have sz:=S.tab.sz;simp only[QD]at sz;by_cases c:i<es.size
  ·have c2:i<t.place.size:=by omega
   rw[QR c,QR c2];exact q1 _ (QR c) _ fun _=>tF S.tab.rs (QR c2)
  ·have h0:es[i]?=none:=Ze (by omega);rw[h0];exact q2 h0
theorem B1{it:Addr}{i:Nat}(ho:s.heap.get? a=some o)(S:Ah w o es ep t)(I:SIt w s.heap it a i es.size ep t)(hi:i<es.size){Q:Option Value->Shared->Prop}
  (q:∀e h',(zd w a ep es)[i]?=some e->SIt w h' it a (i+1) es.size ep t->X4 it s.heap h'->Q (some e.2) { s with heap:=h' }):wpAny (model prog w) A (pyNext (.ref it)) Q E s:=by
 have T:=I.ty;obtain⟨io,sl,hio,ic,id',hsl⟩:=I;have hd:=S.dt;have hex:=S.ex;unfold pyNext;refine Q0 (wpAny_attempt (wpAny_callSpecial?_slot (name:=Str.ofString "__next__") T iJ (wpAny_call_entry iJ T wN ?_ (xE _))));unfold Builtin.«set_iterator.__next__» slotArgs;refine Q0 (Q5 (Q0 (wpAny_fieldsOf hio id' ?_)));show wpAny _ _ (setEntries a >>= _) _ _ s;refine Q0 (wpAny_setEntries_of ho hd S.fits ?_);rw[if_neg (by simp)];show wpAny _ _ (setNext a (sl:Int).toNat (i:Int).toNat (ep:Int).toNat >>= _) _ _ s;simp only[ZC];refine Q0 (qL (it:=it) ho S hsl (fun e he sl' hsl'=>?_) fun hn=>?_)
 ·dsimp only;refine Q0 (wpAny_setField hio id' (by simp) ?_);have g1:=ZT (Obj.mapFields (·.setIfInBounds 0 (rawInt (sl':Nat)))) hio (Obj.isFreed_of_fields (Obj.data_mapFields id' _));have d1:=Obj.data_mapFields id' (·.setIfInBounds 0 (rawInt (sl':Nat)));refine Q0 (wpAny_setField (s:={ s with heap:=s.heap.update it (Obj.mapFields (·.setIfInBounds 0 (rawInt (sl':Nat)))) }) g1 d1 (by simp) ?_);have g2:=ZT (Obj.mapFields (·.setIfInBounds 1 (rawInt ((i:Int)+1)))) g1 (Obj.isFreed_of_fields (Obj.data_mapFields d1 _));have d2:=Obj.data_mapFields d1 (·.setIfInBounds 1 (rawInt ((i:Int)+1)));have I2:SIt w ((s.heap.update it (Obj.mapFields (·.setIfInBounds 0 (rawInt (sl':Nat))))).update it (Obj.mapFields (·.setIfInBounds 1 (rawInt ((i:Int)+1))))) it a (i+1) es.size ep t:=by
   refine⟨_,sl',g2,((Obj.cls_mapFields ..).trans (Obj.cls_mapFields ..)).trans ic,?_,hsl'⟩;rw[d2];simp
  exact Q5 ⟨_,rfl,Q5 (q e _ he I2 ((Heap.SameBut.update ..).trans (Heap.SameBut.update ..)))⟩
 ·have:=(g9 (w:=w) (a:=a) (ep:=ep) (es:=es)).length_eq;simp only[QD]at this;have:=Array.getElem?_eq_none_iff.mp hn;omega
theorem E2{it:Addr}(hh:A.handled=none)(ho:s.heap.get? a=some o)(S:Ah w o es ep t)(I:SIt w s.heap it a es.size es.size ep t){Q:Option Value->Shared->Prop}
  (q:∀h',Heap.ExtBut it s.heap h'->Q none { s with heap:=h' }):wpAny (model prog w) A (pyNext (.ref it)) Q E s:=by
 have T:=I.ty;obtain⟨io,sl,hio,ic,id',hsl⟩:=I;have hd:=S.dt;have hex:=S.ex;unfold pyNext;refine Q0 (wpAny_attempt (wpAny_callSpecial?_slot (name:=Str.ofString "__next__") T iJ (wpAny_call_entry iJ T wN ?_ (xE _))));unfold Builtin.«set_iterator.__next__» slotArgs;refine Q0 (Q5 (Q0 (wpAny_fieldsOf hio id' ?_)));show wpAny _ _ (setEntries a >>= _) _ _ s;refine Q0 (wpAny_setEntries_of ho hd S.fits ?_);rw[if_neg (by simp)];show wpAny _ _ (setNext a (sl:Int).toNat (es.size:Int).toNat (ep:Int).toNat >>= _) _ _ s;simp only[ZC];refine Q0 (qL (it:=it) ho S hsl (fun e he sl' hsl'=>?_) fun hn=>?_)
 ·have:=(g9 (w:=w) (a:=a) (ep:=ep) (es:=es)).length_eq;simp only[QD]at this;have:=(Zk.mp he).1;omega
 ·dsimp only;refine Q0 (wpAny_setField hio id' (by simp) (Q0 ?_));unfold newExc newTuple;refine Q0 (wpAny_newObj_type ?_ (by size_fits));refine Q0 (m:=firstArgMember _ _) (wpAny_of_eq (a:=Value.none) (by first|rfl|(simp only[firstArgMember];rfl)) (wpAny_newObj_type ?_ (by size_fits)));unfold raiseNew;refine Q0 (wpAny_handled ?_);rw[show A.in1.handled=none from hh];refine Q0 (Q5 (wpAny_throw ?_));refine Q0 (wpAny_isInstance (T:="StopIteration") (b:=true) ⟨_,QY _ rfl,rfl⟩ isSubtype_stop ?_);exact Q5 (q _ (((Heap.SameBut.update ..).extBut.push _).push _))
theorem BZ{it:Addr}{i n:Nat}{Q:Value->Shared->Prop}(I:SIt w s.heap it a i n ep t)(q:Q (.ref it) s):wpAny (model prog w) A (pyIter (.ref it)) Q E s:=by
 refine wpAny_pyIter_slot I.ty uO (wpAny_call_entry uO I.ty Dp ?_ (DJ _));show wpAny _ _ (ret (Value.ref it)) _ _ s;exact Q5 ⟨_,rfl,"set_iterator",_,I.ty,iJ.lookup,q⟩
theorem zG(T:s.TypeIs (.ref a) "set"){Q:Bool->Shared->Prop}(q:Q false s):wpAny (model prog w) A (Builtin.List.listLengthHint (.ref a)) Q E s:=by
 unfold Builtin.List.listLengthHint;refine Q0 (wpAny_specialOf T PySem.F.slot_set_len.lookup ?_);generalize hid:("set.__len__":String)=id0
 wp_delta
 rw[show splitId id0=some ("set","__len__")by subst hid;decide +kernel];subst hid;refine Q0 (wpAny_isInstance (T:="set") (b:=true) T sub_set_self ?_);refine wpAny_ite_split (fun c=>absurd c (by decide)) fun _=>wpAny_ite_split (fun _=>Q0 (wpAny_typeOf T (Q5 q))) fun c=>absurd (by decide +kernel) c
theorem B2(S:Ah w o es ep t):KdlSrc prog w "set" a a es.size (fun i v=>∃e,(zd w a ep es)[i]?=some e/\v=e.2) (fun h=>h.get? a=some o) where
 type:=fun s g=>⟨o,g,S.ex.1⟩
 there:=fun h g=>⟨QX g,QX g⟩
 keep:=fun h h' g m=>m a (.inl rfl) o g
 notList:=by decide
 notTuple:=by decide
 hint:=fun A E s Q g q=>zG ⟨o,g,S.ex.1⟩ q
 iter:=fun A s hh g=>by
  refine⟨{ cls:=.type "set_iterator",data:=.fields #[rawInt 0,rawInt 0,.ref a,rawInt (es.size:Nat),rawInt (ep:Nat)] },fun i h=>SIt w h s.heap.objs.size a i es.size ep t/\h.get? a=some o,fun E Q q=>B0 g S fun o' _ e=>by rw[e];exact q,?_,⟨⟨_,0,QY _ rfl,rfl,rfl,fun _=>lQ S.tab.rs⟩,Q3 _ g⟩⟩;have ne:a≠s.heap.objs.size:=QL (QX g);refine⟨fun b hb=>by simp at hb;simp[hb],fun i h h' st m=>⟨st.1.at_ fun o1 g1=>m _ (by simp) o1 g1,m _ (by simp) o st.2⟩,fun i s' Q E hi st k=>?_,fun s' Q E st k=>?_,fun i s' Q E st q=>BZ st.1 q⟩
  ·refine B1 st.2 S st.1 hi fun e h' he I' sb=>k _ h' _ ⟨e,he,rfl⟩ ⟨I',?_⟩ fun b o' hb g'=>?_
   ·rw[sb.2 a ne];exact st.2
   ·rw[sb.2 b (by simpa using hb)];exact g'
  ·exact E2 hh st.2 S st.1 fun h' eb=>k h' _ fun b o' hb g'=>eb b o' (by simpa using hb) g'
end
theorem rS:bootBuiltins "set"=some (.type "set"):=rfl
theorem y1{h:Heap}{v:Value}{p q:Int×Int}(hp:bC h v p)(hq:bC h v q):p=q:=by
 obtain⟨b,o,t1,t2,e,hx,g1,_,d1⟩:=hp;obtain⟨b',o',t1',t2',e',hx',g1',_,d1'⟩:=hq;rw[hx]at hx';cases hx';rw[g1]at g1';cases g1';rw[d1]at d1';injection d1' with d2 _;have d3:=congrArg Array.toList d2;simp only[List.cons.injEq,Value.int.injEq]at d3;exact Prod.ext d3.1.1 d3.2.1.1
theorem gZ:∀{ys:List V} {vs:List Value} {j:Nat} {y:V} {v:Value},a5 ys vs->ys[j]?=some y->vs[j]?=some v->bP y v
 |_,_,0,y,v,.cons r _,h1,h2=>by simp at h1 h2;subst h1;subst h2;exact r
 |_,_,j+1,y,v,.cons _ t,h1,h2=>gZ t (by simpa using h1) (by simpa using h2)
 |_,_,j,y,v,.nil,h1,_=>by simp at h1
def E3(w:World)(a:Addr)(es:Array (Int×Value))(ep:Nat)(t:SetTable):HO:=.ext fun h=>∃o,h.get? a=some o/\Ah w o es ep t
section
variable{K:Q4}{H:Hp}
theorem Cr{ys:List V}{ps:List (Int×Int)}{k:Nat}{v:V}:PrL K H ys ps->ys[k]?=some v->∃p a,ps[k]?=some p/\v=.ref a/\SqT K H a [.int p.1,.int p.2]:=fun h g=>by
 induction ys generalizing ps k with
 |nil=>simp at g
 |cons y ys ih=>
  cases ps with
  |nil=>exact h.elim
  |cons p ps=>
   cases k with
   |zero=>
    simp at g;subst g;obtain⟨a,e,sq⟩:=h.1;exact⟨p,a,rfl,e,sq⟩
   |succ k=>simpa using ih h.2 (by simpa using g)
theorem vn{prog:Program}{w:World}{h:Heap}:∀{es:List (Int×Value)} {ps:List (Int×Int)},Els prog w h es ps->(∀e∈es,∃p a,e.2=.ref a/\SqT K H a [.int p.1,.int p.2]/\bC h e.2 p)->∃zs,a5 zs (es.map (·.2))/\PrL K H zs ps
 |[],[],_,_=>⟨[],.nil,trivial⟩
 |e::es,p::ps,k,m=>by
  obtain⟨zs,h1,h2⟩:=vn k.2 fun x hx=>m x (QU _ hx);obtain⟨q,a,e1,sq,pa⟩:=m e QK;have:=y1 k.1.2 pa;subst this;exact⟨.ref a::zs,.cons e1 h1,⟨a,rfl,sq⟩,h2⟩
 |[],_::_,k,_=>k.elim
 |_::_,[],k,_=>k.elim
theorem q0{H':Hp}(sm:sd H H'):∀{zs:List V} {ps:List (Int×Int)},PrL K H zs ps->PrL K H' zs ps
 |[],[],_=>trivial
 |_::_,_::_,k=>by
  obtain⟨a,e,sq⟩:=k.1;refine⟨⟨a,e,?_⟩,q0 sm k.2⟩;rcases sq with sq|sq
  ·rcases sq with sq|⟨o,sq⟩
   ·exact .inl (.inl (sm _ _ sq))
   ·exact .inl (.inr ⟨o,sm _ _ sq⟩)
  ·exact .inr sq
 |[],_::_,k=>k.elim
 |_::_,[],k=>k.elim
theorem yS{vs vs':List Value}(P:vs'.Perm vs):∀{zs:List V} {ps:List (Int×Int)},a5 zs vs->PrL K H zs ps->∃zs' ps',a5 zs' vs'/\PrL K H zs' ps'/\ps'.Perm ps:=by
 induction P with
 |nil=>exact fun{zs ps} a b=>⟨zs,ps,a,b,.refl _⟩
 |cons x _ ih=>
  intro zs ps a b;cases a with
  |cons r a=>
   cases ps with
   |nil=>exact b.elim
   |cons p ps=>
    obtain⟨zs',ps',h1,h2,h3⟩:=ih a b.2;exact⟨_::zs',p::ps',.cons r h1,⟨b.1,h2⟩,h3.cons p⟩
 |swap x y l=>
  intro zs ps a b;cases a with
  |cons r1 a=>
   cases a with
   |cons r2 a=>
    match ps,b with
    |[],b=>exact b.elim
    |[p],b=>exact b.2.elim
    |p::q::ps,b=>exact⟨_::_::_,q::p::ps,.cons r2 (.cons r1 a),⟨b.2.1,b.1,b.2.2⟩,.swap _ _ _⟩
 |trans _ _ ih1 ih2=>
  intro zs ps a b;obtain⟨zs',ps',h1,h2,h3⟩:=ih2 a b;obtain⟨zs'',ps'',h4,h5,h6⟩:=ih1 h1 h2;exact⟨zs'',ps'',h4,h5,h6.trans h3⟩
end
def JZ(K:Q4)(w:World):List V->Hp->VK->Prop:=fun xs H Q=>∃(p:Addr) (ys:List V) (ps0:List (Int×Int)),xs=[.ref p]/\SqL K H p ys/\PrL K H ys ps0/\ps0.length<=1200/\
 ∀(l:Addr) (es:Array (Int×Value)) (ep:Nat) (t:SetTable) (zs:List V) (ps:List (Int×Int)),H l=none->a5 zs (es.toList.map (·.2))->PrL K H zs ps->ps.Nodup->(∀y,y∈ps↔y∈ps0)->ps.length<=1200->Q (.ref l) (upd H l (E3 w l es ep t))
theorem Iu{X:Cx}(hc:X.calm=true)(hu:X.A.units+64<cLine):bX X (.type "set") (JZ X.K X.w):=by
 rintro pins s σ H xs us Q I r ⟨p,ys,ps0,rfl,hL,hp,hn,q⟩;obtain⟨u,rfl,ru⟩:=fP r;cases ru;obtain⟨its,rv,pl,hz⟩:=I.list hL;have hlen:=my hp;have hpa:=vo I hp rv;have li:its.length=ps0.length:=dS hpa;refine mm (show X.A.handled=none from I.ok.hd hc) hu pl.isList hpa (by omega) fun h' tk es ep t ps S oe sz mem old=>?_;obtain⟨zs,vz,pz⟩:=vn (K:=X.K) (H:=H) S.el fun e he=>by
  obtain⟨j,hj⟩:=oe e he;have hjl:=(Q7.mp hj).1;obtain⟨v,hv⟩:∃v,ys[j]?=some v:=⟨ys[j]'(by omega),Q6 _⟩;obtain⟨p',a,g1,e1,sq⟩:=Cr hp hv;have rel:=gZ rv hv hj;subst e1;have e2:e.2=.ref a:=rel;refine⟨p',a,e2,sq,?_⟩;have pg:=fh hpa (i:=j) (by omega);rw[QQ,hj,QQ,g1]at pg;obtain⟨b,o,t1,t2,n,x1,x2,x3⟩:=pg;exact⟨b,o,t1,t2,n,x1,old b o x2,x3⟩
 obtain⟨o,go,so⟩:=S.so;have hf:=I.hok.fresh (QJ s.heap.objs.size);have lp:ps.length<=1200:=by have:=S.el.len;simp only[QD]at this;omega
 exact⟨.ref s.heap.objs.size,_,I.laid (o:=E3 X.w s.heap.objs.size es ep t) (t':=tk) old (QJ _) ⟨⟨o,go,so⟩,⟨o,go⟩,fun h1 h2 ⟨o,g,so⟩ m=>⟨o,m o g,so⟩⟩,rfl,q _ es ep t zs ps hf vz pz S.nd mem lp⟩
theorem Ad{ps' ps ps0:List (Int×Int)}{q:Array Nat}(h:Ha ps' q)(p1:ps'.Perm ps)(m:∀y,y∈ps↔y∈ps0):bD ps0=q.toList.map fun i=>ps'.getD i (0,0):=by
 have e:=xC h;have:∃L:List (Int×Int),L.Pairwise (fun a b=>ltP a b=true)/\∀x,x∈L↔x∈ps':=by
  refine⟨q.toList.map fun i=>ps'.getD i (0,0),?_,fun x=>?_⟩
  ·refine Zg.mpr (Z8.mpr fun i j hi hj hij=>?_);have hq:=h.1.sz;have:=h.2 i j hij (by simp at hj;omega);simpa [X9,show i<q.size by simpa using hi,show j<q.size by simpa using hj] using this
  ·constructor
   ·intro hx;obtain⟨i,hi,rfl⟩:=Qu.mp hx;have hl:=eQ h.1 i hi;rw[QQ,Q6 hl];exact Z9 hl
   ·intro hx;obtain⟨i,hi,rfl⟩:=List.getElem_of_mem hx;have hp:q.toList.Perm (Qy ps'.length):=by
     refine(List.perm_ext_iff_of_nodup ?_ X0).mpr fun a=>⟨fun ha=>Qb.mpr (eQ h.1 a ha),fun ha=>?_⟩
     ·refine Z8.mpr fun a b ha hb hab=>?_;have hq:=h.1.sz;have:=h.1.ne' (i:=a) (j:=b) (by simp at ha;omega) (by simp at hb;omega) (by omega);simpa [X9,show a<q.size by simpa using ha,show b<q.size by simpa using hb] using this
     ·have nd:q.toList.Nodup:=by
       refine Z8.mpr fun a b ha hb hab=>?_;have hq:=h.1.sz;have:=h.1.ne' (i:=a) (j:=b) (by simp at ha;omega) (by simp at hb;omega) (by omega);simpa [X9,show a<q.size by simpa using ha,show b<q.size by simpa using hb] using this
      refine Classical.byContradiction fun no=>?_;have:=List.Nodup.length_le_of_subset (ZJ.mpr ⟨no,nd⟩) (l₂:=Qy ps'.length) fun b hb=>by
       rcases QH.mp hb with rfl|hb
       ·exact ha
       ·exact Qb.mpr (eQ h.1 b hb)
      rw[QB,Zp,QD,h.1.sz]at this;omega
    refine Qu.mpr ⟨i,hp.mem_iff.mpr (Qb.mpr hi),?_⟩;rw[QQ,Q6 hi];rfl
 obtain⟨L,l1,l2⟩:=this;have e1:=jd l1 l2;have e2:bD ps0=L:=jd l1 fun x=>(l2 x).trans ((p1.mem_iff).trans (m x));rw[e2,<-e1,e]
abbrev Hb(I O p:Addr)(fl:Bool):Obj:={ cls:=.type "zip",dict:=none,data:=.fields #[rawInt (p:Nat),.bool fl,.bool false,.ref I,.ref O],slots:=#[] }
structure ZM(b d:Bool)(h:Heap)(z I O i j a c p:Addr)(fl:Bool)(n:Nat):Prop where
 hz:h.get? z=some (Hb I O p fl)
 hI:IsPair h I (.ref i) (.ref j)
 hO:∃p q,IsPair h O p q
 h1:SI b h i a n
 h2:SI d h j c n
 hp:∃o,h.get? p=some o
 pz:p≠z/\p≠i/\p≠j
section
variable{prog:Program}{w:World}{A:Around}{E:Value->Shared->Prop}{s:Shared}{b d:Bool}{z I O i j a c p:Addr}{fl:Bool}{n:Nat}{xs ys:Array Value}{x y:Value}
theorem rY{a:Addr}{Q:Option Obj->Shared->Prop}(h:Q (s.heap.get? a) s):wpAny (model prog w) A (loadIfAlive a) Q E s:=by
 have k:wpAny (model prog w) A (pure (s.heap.get? a)) Q E s:=Q5 h;unfold wpAny loadIfAlive at *;simp only[Sem.wp_loadIfAlive];exact k
theorem mQ(hz:s.heap.get? z=some (Hb I O p fl))(hp:∃o,s.heap.get? p=some o){Q:Bool->Shared->Prop}(k:∀h',h'.get? z=some (Hb I O p true)->X4 z s.heap h'->Q false { s with heap:=h' }):wpAny (model prog w) A (Builtin.SmallTypes.ownedTupleIsFree (.ref z)) Q E s:=by
 obtain⟨o,ho⟩:=hp;unfold Builtin.SmallTypes.ownedTupleIsFree;refine Q0 (Qp hz rfl (x:=rawInt (p:Nat)) rfl ?_);show wpAny _ _ (loadIfAlive ((p:Int).toNat) >>= _) _ _ _;rw[ZC];refine Q0 (rY ?_);rw[ho];simp only[Option.isNone_some,Qx,if_false];refine Q0 (Qp hz rfl (x:=.bool fl) rfl ?_);cases fl with
 |false=>
  rw[if_pos (by decide)];exact Q0 (wpAny_setField_rec hz (by simp) fun h' z1 s1=>Q5 (k h' z1 s1))
 |true=>
  rw[if_neg (by decide)];have e:s={ s with heap:=s.heap }:=by cases s;rfl
  rw[e];exact Q5 (k s.heap hz (Heap.SameBut.refl _ _))
theorem x4(D:ZA z I O i j a c)(st:ZM b d s.heap z I O i j a c p fl n)(ha:SA b s.heap a xs)(hc:SA d s.heap c ys)(hx:xs[n]?=some x)(hy:ys[n]?=some y){Q:Value->Shared->Prop}
  (k:∀h',ZM b d h' z I O i j a c p true (n+1)->IsPair h' s.heap.objs.size x y->
   (∀e o,e≠z->e≠i->e≠j->s.heap.get? e=some o->h'.get? e=some o)->Q (.ref s.heap.objs.size) { s with heap:=h' }) :
  wpAny (model prog w) A (Builtin.«zip.__next__» ⟨[.ref z],[]⟩) (fun fin s'=>∃v,fin=.done (.ret v)/\Q v s') E s:=by
 obtain⟨hz,hI,hO,h1,h2,hp,pz,pi,pj⟩:=st;show wpAny _ _ (field (.ref z) 2 >>= _) _ _ _;refine Q0 (Qp hz rfl (x:=.bool false) rfl ?_);show wpAny _ _ (field (.ref z) 3 >>= _) _ _ _;refine Q0 (Qp hz rfl (x:=.ref I) rfl ?_);refine Q0 (wpAny_seqItems hI rfl ?_);show wpAny _ _ (Builtin.SmallTypes.ownedTupleIsFree (.ref z) >>= _) _ _ _;refine Q0 (mQ hz hp fun g1 z1 s1=>?_);simp only[Qx,if_false];refine Q0 ?_;rw[<-X5];simp only[Zh,Za];refine Q0 (Q0 (wpAny_holding ?_));show wpAny _ _ (Builtin.SmallTypes.nextOf (.ref i) >>= _) _ _ _;refine Q0 (cM (b:=b) (h1.at_ fun o e=>s1.extBut _ _ D.iz e) (ha.at_ fun o e=>s1.extBut _ _ D.az e) hx fun g2 i2 s2=>Q5 (Q5 ?_));have up2:∀e o,e≠z->e≠i->s.heap.get? e=some o->g2.get? e=some o:=fun e o u1 u2 q=>s2.extBut _ _ u2 (s1.extBut _ _ u1 q);refine Q0 (Q0 (wpAny_holding ?_));show wpAny _ _ (Builtin.SmallTypes.nextOf (.ref j) >>= _) _ _ _;refine Q0 (cM (b:=d) (h2.at_ fun o e=>up2 _ _ D.jz D.ij.symm e) (hc.at_ fun o e=>up2 _ _ D.cz D.ci e) hy fun g3 j3 s3=>Q5 (Q5 (Q5 ?_)));have up3:∀e o,e≠z->e≠i->e≠j->s.heap.get? e=some o->g3.get? e=some o:=fun e o u1 u2 u3 q=>s3.extBut _ _ u3 (up2 e o u1 u2 q);have sz:g3.objs.size=s.heap.objs.size:=by rw[s3.1,s2.1,s1.1]
 dsimp only;refine Q0 (wpAny_newTuple (Q5 ⟨_,rfl,?_⟩) (show 2<=sizeLine by decide));have T:IsPair (g3.push { cls:=.type "tuple",data:=.seq #[x,y] }) g3.objs.size x y:=QY _ rfl;rw[sz]at T;show Q (.ref g3.objs.size) _;rw[sz];obtain⟨o,ho⟩:=hp;refine k _ ⟨Q3 _ (s3.extBut _ _ D.jz.symm (s2.extBut _ _ D.iz.symm z1)),Q3 _ (up3 _ _ D.Iz D.Ii D.Ij hI),let ⟨u,v,q⟩:=hO;⟨u,v,Q3 _ (up3 _ _ D.Oz D.Oi D.Oj q)⟩,i2.at_ fun o e=>Q3 _ (s3.extBut _ _ D.ij e),j3.at_ fun o e=>Q3 _ e,⟨o,Q3 _ (up3 _ _ pz pi pj ho)⟩,pz,pi,pj⟩ T fun e o u1 u2 u3 q=>Q3 _ (up3 e o u1 u2 u3 q)
theorem xY(hh:A.handled=none)(D:ZA z I O i j a c)(st:ZM b d s.heap z I O i j a c p fl n)(ha:SA b s.heap a xs)(hc:SA d s.heap c ys)(hn:xs[n]?=none\/ys[n]?=none){Q:PySem.Fin->Shared->Prop}
  (k:∀h' e,(∀c o,c≠z->c≠i->c≠j->s.heap.get? c=some o->h'.get? c=some o)->(∃o,h'.get? e=some o/\o.cls=.type "StopIteration")->E (.ref e) { s with heap:=h' }) :
  wpAny (model prog w) A (Builtin.«zip.__next__» ⟨[.ref z],[]⟩) Q E s:=by
 obtain⟨hz,hI,hO,h1,h2,hp,pz,pi,pj⟩:=st;show wpAny _ _ (field (.ref z) 2 >>= _) _ _ _;refine Q0 (Qp hz rfl (x:=.bool false) rfl ?_);show wpAny _ _ (field (.ref z) 3 >>= _) _ _ _;refine Q0 (Qp hz rfl (x:=.ref I) rfl ?_);refine Q0 (wpAny_seqItems hI rfl ?_);show wpAny _ _ (Builtin.SmallTypes.ownedTupleIsFree (.ref z) >>= _) _ _ _;refine Q0 (mQ hz hp fun g1 z1 s1=>?_);simp only[Qx,if_false];refine Q0 ?_;rw[<-X5];simp only[Zh,Za];refine Q0 (Q0 (wpAny_holding ?_));show wpAny _ _ (Builtin.SmallTypes.nextOf (.ref i) >>= _) _ _ _;cases hx:xs[n]? with
 |none=>
  refine Q0 (bE (b:=b) hh (h1.at_ fun o e=>s1.extBut _ _ D.iz e) (ha.at_ fun o e=>s1.extBut _ _ D.az e) hx fun g2 e s2 he=>?_);exact k g2 e (fun c o u1 u2 _ q=>s2 _ _ u2 (s1.extBut _ _ u1 q)) he
 |some x=>
  have hy:ys[n]?=none:=by rcases hn with v|v;rw[hx]at v;cases v;exact v
  refine Q0 (cM (b:=b) (h1.at_ fun o e=>s1.extBut _ _ D.iz e) (ha.at_ fun o e=>s1.extBut _ _ D.az e) hx fun g2 i2 s2=>Q5 (Q5 ?_));have up2:∀e o,e≠z->e≠i->s.heap.get? e=some o->g2.get? e=some o:=fun e o u1 u2 q=>s2.extBut _ _ u2 (s1.extBut _ _ u1 q);refine Q0 (Q0 (wpAny_holding ?_));show wpAny _ _ (Builtin.SmallTypes.nextOf (.ref j) >>= _) _ _ _;refine Q0 (bE (b:=d) hh (h2.at_ fun o e=>up2 _ _ D.jz D.ij.symm e) (hc.at_ fun o e=>up2 _ _ D.cz D.ci e) hy fun g3 e s3 he=>?_);exact k g3 e (fun c o u1 u2 u3 q=>s3 _ _ u3 (up2 c o u1 u2 q)) he
def ZW(b d:Bool)(h:Heap)(z I O i j a c:Addr)(n:Nat):Prop:=(n=0/\ZSt b d h z I O i j a c .none 0)\/∃p fl,ZM b d h z I O i j a c p fl n
theorem ZW.ty{s:Shared}(st:ZW b d s.heap z I O i j a c n):s.TypeIs (.ref z) "zip":=by
 rcases st with⟨_,st⟩|⟨p,fl,st⟩
 ·exact⟨_,st.hz,rfl⟩
 ·exact⟨_,st.hz,rfl⟩
theorem A6(D:ZA z I O i j a c)(hlt:z<s.heap.objs.size/\i<s.heap.objs.size/\j<s.heap.objs.size)(st:ZW b d s.heap z I O i j a c n)(ha:SA b s.heap a xs)(hc:SA d s.heap c ys)(hx:xs[n]?=some x)(hy:ys[n]?=some y){Q:Option Value->Shared->Prop}
  (k:∀h',ZW b d h' z I O i j a c (n+1)->IsPair h' s.heap.objs.size x y->
   (∀e o,e≠z->e≠O->e≠i->e≠j->s.heap.get? e=some o->h'.get? e=some o)->Q (some (.ref s.heap.objs.size)) { s with heap:=h' }):wpAny (model prog w) A (pyNext (.ref z)) Q E s:=by
 have ty:=st.ty;rcases st with⟨rfl,st⟩|⟨p,fl,st⟩
 ·refine xZ D st ha hc hx hy fun h' st' T up=>k h' (.inr ⟨s.heap.objs.size,false,st'.hz,st'.hI,st'.hO,st'.h1,st'.h2,⟨_,T⟩,Zz hlt.1,Zz hlt.2.1,Zz hlt.2.2⟩) T up
 ·unfold pyNext;exact Q0 (wpAny_attempt (wpAny_callSpecial?_slot (name:=Str.ofString "__next__") ty PySem.F.slot_zip_next (wpAny_call_entry PySem.F.slot_zip_next ty PySem.F.entry_zip_next
   (x4 D st ha hc hx hy fun h' a1 a2 a3=>Q5 (k h' (.inr ⟨p,true,a1⟩) a2 fun e o u1 _ u3 u4 q=>a3 e o u1 u3 u4 q)) (PySem.F.args_zip_next_1 _))))
theorem D0(hh:A.handled=none)(D:ZA z I O i j a c)(st:ZW b d s.heap z I O i j a c n)(ha:SA b s.heap a xs)(hc:SA d s.heap c ys)(hn:xs[n]?=none\/ys[n]?=none){Q:Option Value->Shared->Prop}
  (k:∀h',(∀c o,c≠z->c≠O->c≠i->c≠j->s.heap.get? c=some o->h'.get? c=some o)->Q none { s with heap:=h' }):wpAny (model prog w) A (pyNext (.ref z)) Q E s:=by
 have ty:=st.ty;rcases st with⟨rfl,st⟩|⟨p,fl,st⟩
 ·exact Bb hh D st ha hc hn k
 ·unfold pyNext;refine Q0 (wpAny_attempt (wpAny_callSpecial?_slot (name:=Str.ofString "__next__") ty PySem.F.slot_zip_next (wpAny_call_entry PySem.F.slot_zip_next ty PySem.F.entry_zip_next
   (xY (show A.in1.handled=none from hh) D st ha hc hn fun h' e up he=>?_) (PySem.F.args_zip_next_1 _))))
  obtain⟨o,ge,ce⟩:=he;exact Q0 (wpAny_isInstance (T:="StopIteration") (b:=true) ⟨o,ge,ce⟩ isSubtype_stop (Q5 (k h' fun c o u1 _ u3 u4 q=>up c o u1 u3 u4 q)))
end
abbrev lsO(acc:Array Value)(c:Nat):Obj:={ cls:=.type "list",dict:=none,data:=.seq acc c,slots:=#[] }
structure Zd(h0 h:Heap)(xs ys:Array Value)(as:List Addr):Prop where
 pr:∀(k:Nat) (p:Addr),as[k]?=some p->∃x y,IsPair h p x y/\xs[k]?=some x/\ys[k]?=some y
 up:as.Pairwise (· < ·)
 lt:∀p∈as,h0.objs.size<=p
section
variable{prog:Program}{w:World}{A:Around}{s:Shared}{b d:Bool}{z I O i j a c S:Addr}{n:Nat}{xs ys:Array Value}
theorem Zd.snoc{h0 h h':Heap}{as:List Addr}{x y:Value}(Z:Zd h0 h xs ys as)(keep:∀p∈as,∀o,h.get? p=some o->h'.get? p=some o)(le:h0.objs.size<=h.objs.size)(T:IsPair h' h.objs.size x y)(hx:xs[as.length]?=some x)(hy:ys[as.length]?=some y):Zd h0 h' xs ys (as++[h.objs.size]):=by
 refine⟨fun k p g=>?_,?_,fun p hp=>?_⟩
 ·rcases Zu k as.length with l|l
  ·rw[Qz l]at g;obtain⟨u,v,t,e⟩:=Z.pr k p g;exact⟨u,v,keep p (ZX g) _ t,e⟩
  ·rw[QN l]at g;have:k-as.length=0:=by
    rcases Nat.eq_zero_or_pos (k-as.length)with z|z
    ·exact z
    ·rw[ZK (by simp;omega)]at g;cases g
   rw[this]at g;cases g;obtain rfl:k=as.length:=by omega
   exact⟨x,y,T,hx,hy⟩
 ·refine List.pairwise_append.mpr ⟨Z.up,List.pairwise_singleton _ _,fun p hp q hq=>?_⟩;rw[Qv.mp hq];obtain⟨k,g⟩:=ZH hp;obtain⟨_,_,t,_⟩:=Z.pr k p g;exact QX t
 ·rcases Qd.mp hp with l|l
  ·exact Z.lt p l
  ·rw[Qv.mp l];exact le
theorem ZW.keep{h h':Heap}(st:ZW b d h z I O i j a c n)(m:∀e o,e≠S->h.get? e=some o->h'.get? e=some o)(ex:∃o,h'.get? S=some o)(ns:∀e∈[z,I,O,i,j],e≠S):ZW b d h' z I O i j a c n:=by
 have k:∀e∈[z,I,O,i,j],∀o,h.get? e=some o->h'.get? e=some o:=fun e he o=>m e o (ns e he);rcases st with⟨e,st⟩|⟨p,fl,st⟩
 ·exact .inl ⟨e,st.at_ k⟩
 ·refine .inr ⟨p,fl,k z (by simp) _ st.hz,k I (by simp) _ st.hI,let ⟨u,v,q⟩:=st.hO;⟨u,v,k O (by simp) _ q⟩,st.h1.at_ fun o e=>k i (by simp) o e,st.h2.at_ fun o e=>k j (by simp) o e,?_,st.pz⟩;obtain⟨o,ho⟩:=st.hp;by_cases c:p=S
  ·rw[c];exact ex
  ·exact⟨o,m p o c ho⟩
theorem A9{R:Result->Shared->Prop}{h0:Heap}(hh:A.handled=none)(D:ZA z I O i j a c)(res:Value)(ge:∀e∈[z,I,O,i,j,S],h0.objs.size<=e)(nS:∀e∈[z,I,O,i,j,a,c],e≠S)(hz:xs.size<=9000) :
  ∀(k n:Nat) (s:Shared) (as:List Addr) (cc:Nat),min xs.size ys.size-n=k->n<=min xs.size ys.size->as.length=n->ZW b d s.heap z I O i j a c n->SA b s.heap a xs->SA d s.heap c ys->s.heap.get? S=some (lsO (as.map Value.ref).toArray cc)->Zd h0 s.heap xs ys as->(∀p∈as,p∉[z,O,i,j,S])->(∀e∈[z,I,O,i,j],e<s.heap.objs.size)->(∀e o,h0.get? e=some o->s.heap.get? e=some o)->
  (∀h' as' cc',as'.length=min xs.size ys.size->h'.get? S=some (lsO (as'.map Value.ref).toArray cc')->Zd h0 h' xs ys as'->S∉as'->(∀e o,h0.get? e=some o->h'.get? e=some o)->R (.ok (.ret res)) { s with heap:=h' })->
  codeAny (model prog w) A (.builtin "list.extend.loop" ⟨[.ref S,.ref z,res],[]⟩) R s:=by
 intro k;induction k with
 |zero=>
  intro n s as cc hk hn la st ha hc hS Z na lt old hR;have hm:n=min xs.size ys.size:=by omega
  refine codeAny_builtin PySem.F.entry_extend_loop ?_;rw[Around.under_plainId PySem.F.plain_extend_loop _];change wpAny _ A.in1 (pyNext (.ref z) >>= _) _ _ s;have hend:xs[n]?=none\/ys[n]?=none:=by
   rcases Nat.le_total xs.size ys.size with l|l
   ·exact .inl (Ze (by rw[Nat.min_eq_left l]at hm;omega))
   ·exact .inr (Ze (by rw[Nat.min_eq_right l]at hm;omega))
  refine Q0 (D0 (show A.in1.handled=none from hh) D st ha hc hend fun h' up=>Q5 ?_);have up':∀e o,e∉[z,O,i,j]->s.heap.get? e=some o->h'.get? e=some o:=fun e o ne g=>by
   simp only[QH,ZV,or_false,not_or]at ne;exact up e o ne.1 ne.2.1 ne.2.2.1 ne.2.2.2 g
  refine hR h' as cc (by rw[la,hm]) (up' S _ (fun z'=>nS S (by simp at z' ⊢;rcases z' with r|r|r|r<;>simp[r]) rfl) hS) ⟨fun q p g=>?_,Z.up,Z.lt⟩ (fun z'=>na S z' (by simp)) fun e o g=>up' e o (fun z'=>?_) (old e o g)
  ·obtain⟨x,y,t,r⟩:=Z.pr q p g;exact⟨x,y,up' p _ (fun z'=>na p (ZX g) (by simp at z' ⊢;rcases z' with r|r|r|r<;>simp[r])) t,r⟩
  ·have:=ge e (by simp at z' ⊢;rcases z' with r|r|r|r<;>simp[r]);exact absurd (QX g) (Zl.mpr this)
 |succ k ih=>
  intro n s as cc hk hn la st ha hc hS Z na lt old hR;have l1:n<xs.size:=by omega
  have l2:n<ys.size:=by omega
  refine codeAny_builtin PySem.F.entry_extend_loop ?_;rw[Around.under_plainId PySem.F.plain_extend_loop _];change wpAny _ A.in1 (pyNext (.ref z) >>= _) _ _ s;refine Q0 (A6 D ⟨lt z (by simp),lt i (by simp),lt j (by simp)⟩ st ha hc (QR l1) (QR l2) fun h' st' T up=>?_);have up':∀e o,e∉[z,O,i,j]->s.heap.get? e=some o->h'.get? e=some o:=fun e o ne g=>by
   simp only[QH,ZV,or_false,not_or]at ne;exact up e o ne.1 ne.2.1 ne.2.2.1 ne.2.2.2 g
  have m4:∀{e:Addr},e∈[z,O,i,j]->e∈[z,O,i,j,S]:=fun{e} z'=>by simp at z' ⊢;rcases z' with r|r|r|r<;>simp[r]
  have m5:∀{e:Addr},e∈[z,O,i,j]->e∈[z,I,O,i,j]:=fun{e} z'=>by simp at z' ⊢;rcases z' with r|r|r|r<;>simp[r]
  have m6:∀{e:Addr},e∈[z,I,O,i,j]->e∈[z,I,O,i,j,S]:=fun{e} z'=>by simp at z' ⊢;rcases z' with r|r|r|r|r<;>simp[r]
  have m7:∀{e:Addr},e∈[z,I,O,i,j]->e∈[z,I,O,i,j,a,c]:=fun{e} z'=>by simp at z' ⊢;rcases z' with r|r|r|r|r<;>simp[r]
  have le0:h0.objs.size<=s.heap.objs.size:=Zb (X3 (ge z (by simp)) (lt z (by simp)));have hS':h'.get? S=some (lsO (as.map Value.ref).toArray cc):=up' S _ (fun z'=>nS S (m7 (m5 z')) rfl) hS;have nTS:s.heap.objs.size≠S:=Zz (QX hS);have Z1:=Z.snoc (fun p hp o g=>up' p o (fun z'=>na p hp (m4 z')) g) le0 T (by rw[la];exact QR l1) (by rw[la];exact QR l2);change wpAny _ A.in1 (updateSeq S (·.push (Value.ref s.heap.objs.size)) >>= _) _ _ _;refine Q0 (wpAny_updateSeq hS' rfl ?_ (by simp;unfold sizeLine;omega) (by simp;unfold sizeLine;omega));have oth:∀e o,e≠S->h'.get? e=some o->(h'.update S (Obj.mapSeq (·.push (Value.ref s.heap.objs.size)))).get? e=some o:=fun e o ne g=>(Zv _ _ (Ne.symm ne)).trans g;obtain⟨cc',gS3⟩:∃cc',(h'.update S (Obj.mapSeq (·.push (Value.ref s.heap.objs.size)))).get? S=some (lsO ((as++[s.heap.objs.size]).map Value.ref).toArray cc'):=by
   have e:((as++[s.heap.objs.size]).map Value.ref).toArray=(as.map Value.ref).toArray.push (Value.ref s.heap.objs.size):=by rw[Qn,List.map_singleton,<-List.push_toArray]
   rw[e];exact⟨_,get?_update_seq hS' (·.push (Value.ref s.heap.objs.size))⟩
  have keepS:∀p∈as++[s.heap.objs.size],p≠S:=fun p hp=>by
   rcases Qd.mp hp with l|l
   ·exact fun e=>na p l (by simp[e])
   ·rw[Qv.mp l];exact nTS
  refine Q5 ⟨plainId_quiet PySem.F.plain_extend_loop _,ih (n+1) _ (as++[s.heap.objs.size]) cc' (by omega) (by omega) (by rw[QV,la];rfl) (st'.keep (S:=S) oth ⟨_,gS3⟩ fun e he=>nS e (m7 he)) (ha.at_ fun o g=>oth a o (nS a (by simp)) (up a o D.az D.aO D.ai D.aj g)) (hc.at_ fun o g=>oth c o (nS c (by simp)) (up c o D.cz D.cO D.ci D.cj g)) gS3 ⟨fun q p g=>?_,Z1.up,Z1.lt⟩ (fun p hp=>?_) (fun e he=>?_) (fun e o g=>oth e o ?_ (up' e o (fun z'=>absurd (QX g) (Zl.mpr (ge e (m6 (m5 z'))))) (old e o g))) hR⟩
  ·obtain⟨x,y,t,r⟩:=Z1.pr q p g;exact⟨x,y,oth p _ (keepS p (ZX g)) t,r⟩
  ·rcases Qd.mp hp with l|l
   ·exact na p l
   ·rw[Qv.mp l];intro z';have:s.heap.objs.size∈[z,I,O,i,j]\/s.heap.objs.size=S:=by simp at z' ⊢;rcases z' with r|r|r|r|r<;>simp[r]
    rcases this with r|r
    ·exact Nat.lt_irrefl _ (lt _ r)
    ·exact nTS r
  ·rw[Heap.size_update];have T':s.heap.objs.size<h'.objs.size:=QX T;exact Nat.lt_trans (lt e he) T'
  ·exact fun z'=>absurd (QX g) (Zl.mpr (ge e (by simp[z'])))
end
theorem tZ:typeLookup (.type "zip") "__len__"=pure none:=by rw[typeLookup_type,builtinLookup_eq_fast];kernel_rfl
theorem sf:typeLookup (.type "zip") "__length_hint__"=pure none:=by rw[typeLookup_type,builtinLookup_eq_fast];kernel_rfl
section
variable{prog:Program}{w:World}{A:Around}{E:Value->Shared->Prop}{s:Shared}{b d:Bool}{z I O i j a c S:Addr}{xs ys:Array Value}
theorem Dj{R:Result->Shared->Prop}{h0:Heap}(hh:A.handled=none)(D:ZA z I O i j a c)(res:Value)(ge:∀e∈[z,I,O,i,j,S],h0.objs.size<=e)(nS:∀e∈[z,I,O,i,j,a,c],e≠S)(hz:xs.size<=9000){cc:Nat}
  (st:ZSt b d s.heap z I O i j a c .none 0) (ha:SA b s.heap a xs) (hc:SA d s.heap c ys) (hS:s.heap.get? S=some (lsO #[] cc)) (lt:∀e∈[z,I,O,i,j],e<s.heap.objs.size) (old:∀e o,h0.get? e=some o->s.heap.get? e=some o)
  (hR:∀h' as' cc',as'.length=min xs.size ys.size->h'.get? S=some (lsO (as'.map Value.ref).toArray cc')->Zd h0 h' xs ys as'->S∉as'->(∀e o,h0.get? e=some o->h'.get? e=some o)->R (.ok (.ret res)) { s with heap:=h' }) :
  wpAny (model prog w) A.in1 (Builtin.List.listExtendWith (.ref S) (.ref z) res)
   (fun fin s'=>match fin with|.done f=>R (.ok f) s'|.again c'=>c'.quiet=true/\codeAny (model prog w) A c' R s') (fun e s'=>R (.error e) s') s:=by
 have T:s.TypeIs (.ref z) "zip":=⟨_,st.hz,rfl⟩;unfold Builtin.List.listExtendWith;refine Q0 (wpAny_typeOf T ?_);have x1:Builtin.List.listSameRef (.ref S) (.ref z)=false:=by simp[Builtin.List.listSameRef];exact fun e=>nS z (by simp) e.symm
 have x2:(Value.type "zip" == Value.type "list")=false:=by decide
 have x3:(Value.type "zip" == Value.type "tuple")=false:=by decide
 simp only[x1,x2,x3,Bool.or_false,Qx,if_false];refine Q0 (wpAny_pyIter_zip st.hz ?_);refine Q0 (wpAny_holding ?_);unfold Builtin.List.listLengthHint;refine Q0 (wpAny_specialOf T tZ ?_);change wpAny _ A.in1 (specialOf (Value.ref z) (Str.ofString "__length_hint__") >>= _) _ _ _;refine Q0 (wpAny_specialOf T sf (Q5 ?_));rw[Bool.true_or,if_pos rfl];refine Q0 (wpAny_rule (Q0 ?_));change wpAny _ A.in1 (updateSeq S (·.push Value.none) >>= fun _=>updateSeq S (·.pop)) _ _ _;refine Q0 (wpAny_updateSeq hS rfl ?_);have g1:=get?_update_seq hS (·.push Value.none);refine wpAny_updateSeq (hz:=by seq_fits) g1 rfl ?_;have g2:=get?_update_seq g1 (·.pop);have oth:∀e o,e≠S->s.heap.get? e=some o->((s.heap.update S (Obj.mapSeq (·.push Value.none))).update S (Obj.mapSeq (·.pop))).get? e=some o:=fun e o ne g=>(Zv _ _ (Ne.symm ne)).trans ((Zv _ _ (Ne.symm ne)).trans g);have m7:∀{e:Addr},e∈[z,I,O,i,j]->e∈[z,I,O,i,j,a,c]:=fun{e} z'=>by simp at z' ⊢;rcases z' with r|r|r|r|r<;>simp[r]
 refine Q5 ⟨plainId_quiet PySem.F.plain_extend_loop _,A9 hh D res ge nS hz (min xs.size ys.size-0) 0 _ [] _ (by omega) (ZQ _) rfl (.inl ⟨rfl,st.at_ fun e he o g=>oth e o (nS e (m7 he)) g⟩) (ha.at_ fun o g=>oth a o (nS a (by simp)) g) (hc.at_ fun o g=>oth c o (nS c (by simp)) g) g2 ⟨fun k p g=>by simp at g,.nil,fun p hp=>by cases hp⟩ (fun p hp=>by cases hp) (fun e he=>?_) (fun e o g=>oth e o (fun z'=>absurd (QX g) (Zl.mpr (ge e (by simp[z'])))) (old e o g)) hR⟩;rw[Heap.size_update,Heap.size_update];exact lt e he
theorem zE{R:Result->Shared->Prop}{h0:Heap}(hh:A.handled=none)(D:ZA z I O i j a c)(ge:∀e∈[z,I,O,i,j,S],h0.objs.size<=e)(nS:∀e∈[z,I,O,i,j,a,c],e≠S)(hz:xs.size<=9000)
  (st:ZSt b d s.heap z I O i j a c .none 0) (ha:SA b s.heap a xs) (hc:SA d s.heap c ys) (hS:s.heap.get? S=some (lsO #[] 0)) (lt:∀e∈[z,I,O,i,j],e<s.heap.objs.size) (old:∀e o,h0.get? e=some o->s.heap.get? e=some o)
  (hR:∀h' as' cc',as'.length=min xs.size ys.size->h'.get? S=some (lsO (as'.map Value.ref).toArray cc')->Zd h0 h' xs ys as'->S∉as'->(∀e o,h0.get? e=some o->h'.get? e=some o)->R (.ok (.ret .none)) { s with heap:=h' }) :
  wpAny (model prog w) A.in1 (Builtin.«list.__init__» ⟨[.ref S,.ref z],[]⟩)
   (fun fin s'=>match fin with|.done f=>R (.ok f) s'|.again c'=>c'.quiet=true/\codeAny (model prog w) A c' R s') (fun e s'=>R (.error e) s') s:=by
 change wpAny _ A.in1 (Builtin.List.listItems (.ref S) >>= fun old=>Builtin.List.listUpdate (.ref S) (fun _=>#[]) >>= fun _=>letGo old.toList.reverse >>= fun _=>Builtin.List.listExtendWith (.ref S) (.ref z) .none) _ _ s;refine Q0 ?_;unfold Builtin.List.listItems;refine Q0 (wpAny_seqItems hS rfl (Q5 ?_));change wpAny _ A.in1 (updateSeq S (fun _=>#[]) >>= _) _ _ s;refine Q0 (wpAny_updateSeq hS rfl (Q0 (wpAny_letGo ?_)));have g1:=get?_update_seq hS (fun _=>(#[]:Array Value));have oth:∀e o,e≠S->s.heap.get? e=some o->(s.heap.update S (Obj.mapSeq (fun _=>(#[]:Array Value)))).get? e=some o:=fun e o ne g=>(Zv _ _ (Ne.symm ne)).trans g;have m7:∀{e:Addr},e∈[z,I,O,i,j]->e∈[z,I,O,i,j,a,c]:=fun{e} z'=>by simp at z' ⊢;rcases z' with r|r|r|r|r<;>simp[r]
 refine Dj hh D .none ge nS hz (st.at_ fun e he o g=>oth e o (nS e (m7 he)) g) (ha.at_ fun o g=>oth a o (nS a (by simp)) g) (hc.at_ fun o g=>oth c o (nS c (by simp)) g) g1 (fun e he=>?_) (fun e o g=>oth e o (fun z'=>absurd (QX g) (Zl.mpr (ge e (by simp[z'])))) (old e o g)) hR;rw[Heap.size_update];exact lt e he
theorem zt{Q:Value->Shared->Prop}{h0:Heap}(hh:A.handled=none)(D:ZA z I O i j a c)(ge:∀e∈[z,I,O,i,j],h0.objs.size<=e)(hz:xs.size<=9000)
  (st:ZSt b d s.heap z I O i j a c .none 0) (ha:SA b s.heap a xs) (hc:SA d s.heap c ys) (old:∀e o,h0.get? e=some o->s.heap.get? e=some o)
  (q:∀h' as cc,as.length=min xs.size ys.size->h'.get? s.heap.objs.size=some (lsO (as.map Value.ref).toArray cc)->Zd h0 h' xs ys as->s.heap.objs.size∉as->(∀e o,h0.get? e=some o->h'.get? e=some o)->Q (.ref s.heap.objs.size) { s with heap:=h' }) :
  wpAny (model prog w) A (call (.type "list") [.ref z]) Q E s:=by
 have lt:∀e∈[z,I,O,i,j],e<s.heap.objs.size:=fun e he=>by
  obtain⟨hz,hI,⟨p,q,hO⟩,h1',h2'⟩:=st;simp only[QH,ZV,or_false]at he;rcases he with rfl|rfl|rfl|rfl|rfl
  ·exact QX hz
  ·exact QX hI
  ·exact QX hO
  ·obtain⟨o,e,_⟩:=h1'.obj;exact QX e
  ·obtain⟨o,e,_⟩:=h2'.obj;exact QX e
 refine callType_codes (Q₁:=fun v s1=>v=.ref s.heap.objs.size/\s1={ s with heap:=s.heap.push (lsO #[] 0) }) PySem.F.called_list (PySem.F.typeCall_list_1 _) PySem.F.entry_list_init (code_list_new _ ⟨rfl,rfl⟩) fun v s1 hv=>?_;obtain⟨rfl,rfl⟩:=hv;have gS:(s.heap.push (lsO #[] 0)).get? s.heap.objs.size=some (lsO #[] 0):=QY _ rfl;have zle:h0.objs.size<=s.heap.objs.size:=Zb (X3 (ge z (by simp)) (lt z (by simp)));refine⟨⟨_,gS,rfl⟩,PySem.F.args_list_init_2 _ _,zE (s:={ s with heap:=s.heap.push (lsO #[] 0) }) hh D (fun e he=>?_) (fun e he=>?_) hz (st.at_ fun e he o g=>Q3 _ g) (ha.at_ fun o g=>Q3 _ g) (hc.at_ fun o g=>Q3 _ g) gS (fun e he=>?_) (fun e o g=>Q3 _ (old e o g)) fun h' as cc la gl Z ns od=>⟨rfl,q h' as cc la gl Z ns od⟩⟩
 ·have:e∈[z,I,O,i,j]\/e=s.heap.objs.size:=by simp at he ⊢;rcases he with r|r|r|r|r|r<;>simp[r]
  rcases this with r|r
  ·exact ge e r
  ·rw[r];exact zle
 ·have:e∈[z,I,O,i,j]\/e=a\/e=c:=by simp at he ⊢;rcases he with r|r|r|r|r|r|r<;>simp[r]
  rcases this with r|r|r
  ·exact QL (lt e r)
  ·rw[r];exact QL ha.lt
  ·rw[r];exact QL hc.lt
 ·rw[ZL];exact Zm (lt e he)
end
def zw(H:Hp)(zs:List (Addr×(V×V))):Hp:=fun b=>match zs.find? (fun z=>decide (z.1=b))with
 |some z=>some (.tup [z.2.1,z.2.2])
 |none=>H b
theorem C0{H:Hp}{zs:List (Addr×(V×V))}{z:Addr×(V×V)}(nd:(zs.map (·.1)).Nodup)(h:z∈zs):zw H zs z.1=some (.tup [z.2.1,z.2.2]):=by
 unfold zw;have hf:zs.find? (fun y=>decide (y.1=z.1))=some z:=by
  induction zs with
  |nil=>cases h
  |cons y r ih=>
   rw[QF,ZJ]at nd;rw[Zy];rcases QH.mp h with e|hm
   ·subst e;simp
   ·have:y.1≠z.1:=fun e=>nd.1 (Qu.mpr ⟨z,hm,e.symm⟩);rw[decide_eq_false this];exact ih nd.2 hm
 rw[hf]
theorem v8{H:Hp}{zs:List (Addr×(V×V))}{b:Addr}{u:HO}(h:zw H zs b=some u):(∃z∈zs,z.1=b/\u=.tup [z.2.1,z.2.2])\/((∀z∈zs,z.1≠b)/\H b=some u):=by
 unfold zw at h;split at h
 ·rename_i z hz;have h1:=List.mem_of_find?_eq_some hz;have h2:=List.find?_some hz;injection h with h;exact .inl ⟨z,h1,of_decide_eq_true h2,h.symm⟩
 ·rename_i hz;exact .inr ⟨fun z hm e=>by have:=List.find?_eq_none.mp hz z hm;simp[e]at this,h⟩
theorem pR{H:Hp}{zs:List (Addr×(V×V))}{b:Addr}(h:∀z∈zs,z.1≠b):zw H zs b=H b:=by
 unfold zw;rw[List.find?_eq_none.mpr fun z hz=>by simpa using h z hz]
def tLZ(K:Q4)(ta:TA):TE:=fun σ H Q=>ta σ H fun vs H2=>∃(b d:Bool) (a c:Addr) (xs ys:List V),vs=[.ref a,.ref c]/\Sq K b H2 a xs/\Sq K d H2 c ys/\xs.length<=9000/\
 ∀(as:List Addr) (l:Addr) (H3:Hp),sd H2 H3->H3 l=none->as.length=min xs.length ys.length->(∀(k:Nat) (p:Addr),as[k]?=some p->∃x y,xs[k]?=some x/\ys[k]?=some y/\H3 p=some (.tup [x,y]))->Q (.ref l) (upd H3 l (.lst (as.map V.ref)))
section
variable{X:Cx}{pos pos2:Pos}
theorem pA{p p2:Pos}{a c:Expr}{ta:TA}(hcm:X.calm=true)(hgL:L2.Gl X "list")(hmL:X.mg "list"=none)(hg:L2.Gl X "zip")(hm:X.mg "zip"=none)(ha:WA X [a,c] ta)
  (hs:starEach [a,c] X.env=(false,eval a X.env)::starEach [c] X.env:=by rfl) (hpl:(backTo pos2 (starEach [c] X.env)).any (·.1)=false:=by rfl)
  (he:starEach [.Call (.Name "zip" p2) [a,c] [] pos2] X.env=(false,eval (.Call (.Name "zip" p2) [a,c] [] pos2) X.env)::starEach [] X.env:=by rfl) (hpl2:(backTo pos (starEach [] X.env)).any (·.1)=false:=by rfl) :
  WE X (.Call (.Name "list" p) [.Call (.Name "zip" p2) [a,c] [] pos2] [] pos) (tLZ X.K ta):=by
 constructor;intro pins s σ H Q I h;refine wpAny_Call_Name_kw (fq I hgL hmL OG.cg ?_);refine PyProof.Rows.callWith_type1 ?_ he hpl2;rw[he];show wpAny _ _ (spliced ((false,eval _ X.env)::backTo pos (starEach [] X.env))) _ _ s;refine Calls.spliced_cons ?_;refine wpAny_Call_Name_kw (fq I hg hm OP.rR ?_);refine PyProof.Rows.callWith_type1 (thn (ha.h pos2 pins s σ H _ I h) fun us s1 hz=>?_) hs hpl;obtain⟨vs,H1,I1,r1,q1⟩:=hz;obtain⟨b,d,aa,cc,xs,ys,rfl,qa,qc,hxl,q⟩:=q1;obtain⟨u,v,rfl,ru,rv⟩:=su r1;cases ru;cases rv;obtain⟨ia,ra,sa⟩:=I1.sq qa;obtain⟨ic,rc,sc⟩:=I1.sq qc;have la:=ra.length;have lc:=rc.length;refine qv sa sc fun h1 z II O i j D st hi up=>?_;refine Calls.spliced_nil ?_;refine zt (s:={ s1 with heap:=h1 }) (h0:=s1.heap) (I1.ok.hd hcm) D hi (by simp;omega) st (sa.at_ fun o g=>up _ _ g) (sc.at_ fun o g=>up _ _ g) up fun h' as c' las gl Z ns old=>?_;have las':as.length=min xs.length ys.length:=by rw[las];simp;omega
 have vp:∀(k:Nat) (p:Addr),as[k]?=some p->∃x y x' y',xs[k]?=some x/\ys[k]?=some y/\bP x x'/\bP y y'/\IsPair h' p x' y':=fun k p g=>by
  obtain⟨x',y',T,e1,e2⟩:=Z.pr k p g;have lk:k<as.length:=(Q7.mp g).1;obtain⟨x,hx⟩:∃x,xs[k]?=some x:=⟨xs[k]'(by omega),Q6 _⟩;obtain⟨y,hy⟩:∃y,ys[k]?=some y:=⟨ys[k]'(by omega),Q6 _⟩;exact⟨x,y,x',y',hx,hy,gZ ra hx (by simpa using e1),gZ rc hy (by simpa using e2),T⟩
 obtain⟨zs,hzs⟩:∃zs,zs=as.zip (xs.zip ys):=⟨_,rfl⟩;have lxy:(xs.zip ys).length=as.length:=by rw[List.length_zip,las']
 have z1:zs.map (·.1)=as:=by rw[hzs];exact List.map_fst_zip (by omega)
 have zat:∀(k:Nat) (p:Addr) (x y:V),as[k]?=some p->xs[k]?=some x->ys[k]?=some y->(p,(x,y))∈zs:=fun k p x y g gx gy=>by
  refine ZX (i:=k) ?_;rw[hzs,ZF,ZF];exact⟨g,gx,gy⟩
 have zin:∀z∈zs,∃k:Nat,as[k]?=some z.1/\xs[k]?=some z.2.1/\ys[k]?=some z.2.2:=fun z hz=>by
  obtain⟨k,g⟩:=ZH hz;rw[hzs,ZF,ZF]at g;exact⟨k,g⟩
 have nda:as.Nodup:=Z.up.imp fun h=>QL h;have ndz:(zs.map (·.1)).Nodup:=by rw[z1];exact nda
 have nob:∀b,b<s1.heap.objs.size->∀z∈zs,z.1≠b:=fun b hb z hz e=>by
  have hm:z.1∈as:=by rw[<-z1];exact Qu.mpr ⟨z,hz,rfl⟩
  have:=Z.lt _ hm;rw[e]at this;exact absurd hb (Zl.mpr this)
 have lge:s1.heap.objs.size<=h1.objs.size:=Zb (X3 (hi z (by simp)) (QX st.hz));have nl:∀z∈zs,z.1≠h1.objs.size:=fun z hz e=>ns (by show h1.objs.size∈as;rw[<-e,<-z1];exact Qu.mpr ⟨z,hz,rfl⟩);have sm:sd H1 (zw H1 zs):=fun b o hb=>by
  rw[pR (nob b (Nat.lt_of_not_le fun z'=>by rw[I1.hok.fresh z']at hb;cases hb))];exact hb
 have hl0:zw H1 zs h1.objs.size=none:=by rw[pR nl];exact I1.hok.fresh lge
 have I3:Inv X pins σ (upd (zw H1 zs) h1.objs.size (.lst (as.map V.ref))) { s1 with heap:=h',toks:=s1.toks }:=xQ I1 old (fun b hb=>by
   rw[aT (QL (Qj hb lge)),pR (nob b hb)]) fun b u hb hu=>by
  by_cases c1:b=h1.objs.size
  ·subst c1;rw[aF]at hu;cases hu;exact⟨by rw[Q9,las'];unfold sizeLine;omega,as.map Value.ref,c',lZ as,gl⟩
  ·rw[aT c1]at hu;rcases v8 hu with⟨z',hz',e1,e2⟩|⟨_,e2⟩
   ·subst e1;subst e2;obtain⟨k,k1,k2,k3⟩:=zin z' hz';obtain⟨x,y,x',y',w1,w2,w3,w4,w5⟩:=vp k _ k1;rw[k2]at w1;rw[k3]at w2;cases w1;cases w2;exact rh w5 w3 w4
   ·rw[I1.hok.fresh hb]at e2;cases e2
 refine⟨.ref h1.objs.size,_,I3,rfl,q as h1.objs.size _ sm hl0 las' fun k p g=>?_⟩;obtain⟨x,y,x',y',w1,w2,_⟩:=vp k p g;exact⟨x,y,w1,w2,C0 ndz (zat k p x y g w1 w2)⟩
def jB(ca cb:CE):CE:=fun ρ S=>(ca ρ S).bind fun p=>(cb ρ p.2).bind fun q=>(tL p.1 q.2).bind fun x=>(tL q.1 q.2).bind fun y=>if x.1.length<=9000 then some (.ref q.2.length,q.2++[.lst (i9 x.1 y.1)])else none
theorem uQ{u:U}{S:Sto}{us:List U}{ok:Sto->Prop}(h:tL u S=some (us,ok)):ok S:=by
 cases u with
 |tup ws=>cases h;trivial
 |ref l=>
  simp only[tL]at h;split at h<;>try cases h
  assumption
 |_=>simp[tL]at h
theorem AL{K:Q4}{m:List Addr}{H:Hp}:∀{as:List Addr} {us:List U},as.length=us.length->(∀(k:Nat) (p:Addr) (u:U),as[k]?=some p->us[k]?=some u->Is K m H (.ref p) u)->IsL K m H (as.map V.ref) us
 |[],[],_,_=>.nil_
 |a::as,u::us,hl,h=>.cons_ (h 0 a u rfl rfl) (AL (by simpa using hl) fun k p u g1 g2=>h (k+1) p u (by simpa using g1) (by simpa using g2))
 |[],_::_,hl,_=>by simp at hl
 |_::_,[],hl,_=>by simp at hl
theorem vd{p p2:Pos}{a c:Expr}{ca cc:CE}(hcm:X.calm=true)(hgL:L2.Gl X "list")(hmL:X.mg "list"=none)(hg:L2.Gl X "zip")(hm:X.mg "zip"=none)(ha:QE X a ca)(hc:QE X c cc)
  (hs:starEach [a,c] X.env=(false,eval a X.env)::starEach [c] X.env:=by rfl) (hs2:starEach [c] X.env=(false,eval c X.env)::starEach [] X.env:=by rfl) (hpl:(backTo pos2 (starEach [c] X.env)).any (·.1)=false:=by rfl)
  (he:starEach [.Call (.Name "zip" p2) [a,c] [] pos2] X.env=(false,eval (.Call (.Name "zip" p2) [a,c] [] pos2) X.env)::starEach [] X.env:=by rfl) (hpl2:(backTo pos (starEach [] X.env)).any (·.1)=false:=by rfl) :
  QE X (.Call (.Name "list" p) [.Call (.Name "zip" p2) [a,c] [] pos2] [] pos) (jB ca cc):=
 (pA hcm hgL hmL hg hm (bS ha (bS hc ej hs2) hs) hs hpl he hpl2).imp fun σ H Q hz=>iA hz fun m ρ S u S' sr lr h post=>by
  obtain⟨⟨x,S1⟩,h1,h⟩:=Q2.mp h;obtain⟨⟨y,S2⟩,h2,h⟩:=Q2.mp h;obtain⟨⟨us,ok1⟩,h3,h⟩:=Q2.mp h;obtain⟨⟨ws,ok2⟩,h4,h⟩:=Q2.mp h;split at h<;>try cases h
  have hl:us.length<=9000:=by assumption
  refine⟨m,ρ,S,x,S1,sr,lr,h1,fun m1 v1 H1 e1 sr1 i1=>⟨m1,ρ,S1,y,_,sr1,lr.mono e1,h2,fun m2 v2 H2 e2 sr2 i2=>?_⟩⟩;obtain⟨b,aa,rfl,q1,k1⟩:=qM sr2 (i1.mono e2) h3;obtain⟨d,bb,rfl,q2,k2⟩:=qM sr2 i2 h4;obtain⟨vs,sq1,l1⟩:=k1 m2 S2 H2 (.of (b8 (sd.refl _))) sr2 (uQ h3);obtain⟨wv,sq2,l2⟩:=k2 m2 S2 H2 (.of (b8 (sd.refl _))) sr2 (uQ h4);have n1:=l1.length;have n2:=l2.length;refine⟨b,d,aa,bb,vs,wv,rfl,sq1,sq2,by omega,fun as l H3 sm hl0 las hp=>?_⟩;have ee:Ext X.K m2 H2 m2 H3:=.of (b8 sm);have il:IsL X.K m2 H3 (as.map V.ref) (i9 us ws):=AL (by simp[i9];omega) fun k p u g1 g2=>by
   simp only[i9,Qr,Qt]at g2;obtain⟨⟨u1,u2⟩,hz,rfl⟩:=g2;obtain⟨gu,gw⟩:=ZF.mp hz;obtain⟨vp,ep,ip⟩:=l1.getD gu;obtain⟨vq,eq,iq⟩:=l2.getD gw;obtain⟨x',y',w1,w2,w3⟩:=hp k p g1;rw[ep]at w1;cases w1;rw[eq]at w2;cases w2;exact .tup_ (SqT.of w3) (.cons_ (ip.mono ee) (.cons_ (iq.mono ee) .nil_))
  exact bB (sr2.same sm) il (post.mono (e1.trans (e2.trans ee))) hl0
end
end OP
namespace OP
open PySem PySem.Spec PyProof PyProof.Rows L2 OG PySem.W HT
section
variable{prog:Program}{w:World}{A:Around}{E:Value->Shared->Prop}{s:Shared}
theorem mP{t sl:Addr}{items:Array Value}{vl vu:Value}{lo hi:Option Int}{Q:Value->Shared->Prop}(ht:IsTup s.heap t items)(hs:s.heap.IsSliceOf sl vl vu .none)(pl:IsPart vl lo)(pu:IsPart vu hi)
  (hw:sIx items.size 0 lo=0/\sIx items.size items.size hi=items.size) (h:Q (.ref t) s):wpAny (model prog w) A (getItem (.ref t) (.ref sl)) Q E s:=by
 obtain⟨os,hos,hcs,hds⟩:=id hs;have hT:s.TypeIs (.ref sl) "slice":=⟨os,hos,hcs⟩;unfold getItem;try with_reducible refine wpAny_holding ?_
 first|refine Q0 (Q5 ?_)|skip
 refine Q0 (wpAny_sequenceKey ht.typeIs (by decide) ?_);refine Q0 (wpAny_callSpecial?_slot (name:=Str.ofString "__getitem__") ht.typeIs PyProof.Rows.slot_tuple_getitem (wpAny_call_entry PyProof.Rows.slot_tuple_getitem ht.typeIs entry_tuple_getitem ?_ (args_tuple_getitem _ _)));show wpAny _ _ (Builtin.Tuple.tupleItemsOf (.ref t) >>= _) _ _ s;refine Q0 (tupleItemsOf_ ht (Q0 (wpAny_typeOf hT ?_)));rw[if_pos (by decide)];refine Q0 (eL hs pl pu ?_);rw[hw.1,hw.2,Nat.sub_zero];dsimp only;rw[if_pos (by simp)];unfold Builtin.Tuple.tupleIsExact;refine Q0 (Q0 (wpAny_typeOf ht.typeIs (Q5 ?_)));rw[if_pos (by decide)];exact Q0 (wpAny_rule (Q5 ⟨_,rfl,Q5 h⟩))
end
section
variable{X:Cx}
def JW(K:Q4):V->Option Int->Option Int->Hp->VK->Prop:=fun x lo hi H Q=>∃a xs,x=.ref a/\SqT K H a xs/\(sIx xs.length 0 lo=0/\sIx xs.length xs.length hi=xs.length)/\Q (.ref a) H
theorem BY:SlR X (JW X.K):=by
 intro pins s σ H x v vl vu lo hi sl Q I rx hs pl pu h;obtain⟨a,xs,rfl,hx,hw,q⟩:=h;cases rx;obtain⟨its,r,ht,hz⟩:=I.tuple hx;have hlen:its.toArray.size=xs.length:=by rw[QC];exact r.length.symm
 exact⟨"tuple",_,PyProof.Rows.slot_tuple_getitem.lookup,ht.typeIs,mP ht hs pl pu (by rw[hlen];exact hw) ⟨.ref a,H,I,rfl,q⟩⟩
def Gv(x:U)(lo hi:Option Int)(S:Sto):Option (U×Sto):=match x with
 |.tup us=>some (.tup (oI us lo hi),S)
 |.ref l=>match S[l]? with
  |some (.lst us)=>some (.ref S.length,S++[.lst (oI us lo hi)])
  |_=>none
 |_=>none
def GC(ca:CE)(cl ch:Option CE):CE:=fun ρ S=>(ca ρ S).bind fun p=>(gB cl ρ p.2).bind fun q=>(gB ch ρ q.2).bind fun r=>Gv p.1 q.1 r.1 r.2
theorem HV{e:Expr}{lo hi:Option Expr}{ca:CE}{cl ch:Option CE}{pos p2:Pos}(ha:QE X e ca)(hl:QO X lo cl)(hh:QO X hi ch):QE X (.Subscript e (.Slice lo hi none p2) pos) (GC ca cl ch):=(nA (uN.or (Ar.or BY)) ha hl hh).imp fun σ H Q hz=>iA hz fun m ρ S u S' sr lr hc post=>by
 obtain⟨⟨x,S1⟩,h1,ha⟩:=Q2.mp hc;obtain⟨⟨l,S2⟩,h2,hb⟩:=Q2.mp ha;obtain⟨⟨k,S3⟩,h3,h⟩:=Q2.mp hb;clear ha hb hc;refine⟨m,ρ,S,x,S1,sr,lr,h1,fun m1 v1 H1 e1 sr1 i1=>⟨m1,ρ,S1,l,S2,sr1,lr.mono e1,h2,fun m2 H2 e2 sr2=>⟨m2,ρ,S2,k,S3,sr2,lr.mono (e1.trans e2),h3,fun m3 H3 e3 sr3=>?_⟩⟩⟩;have i3:=i1.mono (e2.trans e3);have e03:=(e1.trans e2).trans e3;cases x with
 |tup us=>
  simp only[Gv]at h;cases h;obtain⟨a,xs,rfl,sa,la⟩:=i3.of_tup;by_cases hw:sIx us.length 0 l=0/\sIx us.length us.length k=us.length
  ·have e:oI us l k=us:=by
    unfold oI;rw[hw.1,hw.2,List.drop_zero,Nat.sub_zero,List.take_length]
   rw[e]at post;exact .inr (.inr ⟨a,xs,rfl,sa,by rw[la.length];exact hw,post m3 _ H3 e03 sr3 (.tup_ sa la)⟩)
  ·exact .inr (.inl ⟨a,xs,rfl,sa,by rw[la.length];exact hw,fun p hp=>jj sr3 (rN la) (post.mono e03) hp⟩)
 |ref r=>
  simp only[Gv]at h;split at h<;>try cases h
  rename_i us hS;obtain⟨a,ha,rfl⟩:=i3.of_ref;obtain⟨a',ha',xs,hx,la⟩:=sr3.get hS;rw[ha]at ha';cases ha';exact .inl ⟨a,xs,rfl,SqL.of hx,fun p hp=>bB sr3 (rN la) (post.mono e03) hp⟩
 |_=>simp[Gv]at h
end
end OP
namespace OP
open PySem PySem.Spec PyProof PyProof.Rows L2 OG PySem.W
def sI(K:Q4)(w:World):List V->Hp->VK->Prop:=fun xs H Q=>∃(v:Addr) (es:Array (Int×Value)) (ep:Nat) (t:SetTable) (zs:List V) (ps:List (Int×Int)),xs=[.ref v]/\H v=some (E3 w v es ep t)/\a5 zs (es.toList.map (·.2))/\PrL K H zs ps/\ps.Nodup/\ps.length<64/\
 ∀(l:Addr) (zs':List V) (ps':List (Int×Int)) (q:Array Nat),H l=none->PrL K H zs' ps'->ps'.Perm ps->Ha ps' q->Q (.ref l) (upd H l (.lst (q.toList.map fun i=>zs'.getD i .non)))
theorem pN{X:Cx}(hc:X.calm=true):bX X (.builtin "sorted") (sI X.K X.w):=by
 rintro pins s σ H xs us Q I r ⟨v,es,ep,t,zs,ps,rfl,hV,vz,pz,nd,hn,q⟩;obtain⟨u,rfl,ru⟩:=fP r;cases ru;obtain⟨⟨o,go,so⟩,_,_⟩:bx X.prog X.w H s.heap v (E3 X.w v es ep t):=I.hok v _ hV;have lz:=my pz;have le:es.size=ps.length:=by have:=vz.length;simp at this;omega
 refine Calls.call_function_entry kind_sorted plain_sorted entry_sorted (args_sorted1 _) ?_;unfold Builtin.«sorted»;refine Q0 (m:=checkCount "sorted" 1 1 _) (Q5 (Q0 (kdu_collect (B2 (prog:=X.prog) (a:=v) so) (show X.A.in1.handled=none from I.ok.hd hc) go (by rw[le];unfold sizeLine;omega) fun h1 tk acc up hacc=>?_)));have ea:acc.toList=(zd X.w v ep es).toList.map (·.2):=by
  refine Zt fun i=>?_;rw[Qk,Qr,Qk];have so1:(zd X.w v ep es).size=es.size:=by have:=(g9 (w:=X.w) (a:=v) (ep:=ep) (es:=es)).length_eq;simpa using this
  by_cases c:i<es.size
  ·have c1:i<acc.size:=by rw[hacc.1];exact c
   obtain⟨e,he,ev⟩:=hacc.2 i _ (QR c1);rw[he,QR c1,ev];rfl
  ·rw[Ze (by rw[hacc.1];omega),Ze (by omega)];rfl
 obtain⟨zs',ps',vz',pz',pp⟩:=yS (K:=X.K) (H:=H) (vs':=acc.toList) (by rw[ea];exact(g9 (w:=X.w) (a:=v) (ep:=ep) (es:=es)).map _) vz pz;have lp:ps'.length=ps.length:=pp.length_eq;have I1:Inv X pins σ H { s with heap:=h1,toks:=tk }:=I.kept (t':=tk) up;have hpairs:=vo I1 pz' vz';have la:acc.toList.length=ps'.length:=dS hpairs;refine Q0 (wpAny_newList ?_ (by rw[la,lp];unfold sizeLine;omega));have gL:(h1.push { cls:=.type "list",data:=.seq acc.toList.toArray }).get? h1.objs.size=some (seqObj "list" acc.toList.toArray 0):=QY _ rfl;have hv':∀v∈acc.toList,v≠.ref h1.objs.size:=fun v hv=>lD hpairs v hv _ (QJ _);refine Q0 (wpAny_holding (wpAny_call_entry slot_list_sort ⟨_,gL,rfl⟩ entry_list_sort (jV (s:={ s with heap:=h1.push { cls:=.type "list",data:=.seq acc.toList.toArray },toks:=tk }) gL (iN (a:=h1.objs.size) (fun b o _ g=>Q3 _ g) hpairs hv') hv' (pp.nodup_iff.mpr nd) (by rw[lp];exact hn) fun qa a1=>⟨_,rfl,?_⟩) (args_list_sort _)));obtain⟨e,ge⟩:=sortedHeap_at (out:=(qa.toList.map fun i=>acc.toList.getD i Value.none).toArray) gL;have old:∀b o,h1.get? b=some o->(sortedHeap (h1.push { cls:=.type "list",data:=.seq acc.toList.toArray }) h1.objs.size acc.toList (qa.toList.map fun i=>acc.toList.getD i Value.none).toArray).get? b=some o:=fun b o g1=>by
  have lt1:=QX g1;rw[sortedHeap_old (QL lt1) (by rw[ZL];exact Zm lt1)];exact Q3 _ g1
 have hf:=I1.hok.fresh (QJ h1.objs.size);have hq:qa.toList.length=ps'.length:=by rw[QD,a1.1.sz]
 have lz':=my pz';exact Q5 ⟨_,rfl,.ref h1.objs.size,_,I1.laid (o:=.lst (qa.toList.map fun i=>zs'.getD i .non)) (t':=tk) old (QJ _) ⟨by rw[Q9,hq,lp];unfold sizeLine;omega,_,e,jb vz' qa.toList (by rw[lz'];exact eQ a1.1),ge⟩,rfl,q _ zs' ps' qa hf pz' pp a1⟩
open Classical in
def fM(ce:CE):CE:=fun ρ S=>(ce ρ S).bind fun p=>match p.1 with
 |.ref l=>match p.2[l]? with
  |some (.lst us)=>(lF us).bind fun ps=>if ps.length<=1200/\∃B:List (Int×Int),B.length<64/\∀x∈ps,x∈B then some (.ref p.2.length,p.2++[.lst ((bD ps).map pP)])else none
  |_=>none
 |_=>none
theorem pJ{X:Cx}{o:Expr}{co:CE}{p1 p2 cpos pos:Pos}(hcm:X.calm=true)(hu:X.A.units+64<cLine)(hg:L2.Gl X "sorted")(hm:X.mg "sorted"=none)(hg2:L2.Gl X "set")(hm2:X.mg "set"=none)(ho:QE X o co)
  (he1:starEach [o] X.env=(false,eval o X.env)::starEach [] X.env:=by rfl) (hpl1:(backTo cpos (starEach [] X.env)).any (·.1)=false:=by rfl)
  (he:starEach [.Call (.Name "set" p2) [o] [] cpos] X.env=(false,eval (.Call (.Name "set" p2) [o] [] cpos) X.env)::starEach [] X.env:=by rfl) (hpl:(backTo pos (starEach [] X.env)).any (·.1)=false:=by rfl) :
  QE X (.Call (.Name "sorted" p1) [.Call (.Name "set" p2) [o] [] cpos] [] pos) (fM co):=
 (gJ (pN hcm) hg hm OG.eE (bS (iI (Iu hcm hu) hg2 hm2 rS (bS ho ej he1) (by decide) (by decide) he1 hpl1) ej he) (by decide) (by decide) he hpl).imp fun σ H Q hz=>iA hz fun m ρ S u S' sr lr hc post=>by
  obtain⟨⟨x,S1⟩,h1,h⟩:=Q2.mp hc;refine⟨m,ρ,S,x,S1,sr,lr,h1,fun m1 v1 H1 e1 sr1 i1=>?_⟩;cases x with
  |ref l=>
   simp only at h;split at h<;>try cases h
   rename_i us hS;obtain⟨ps,hn,h⟩:=Q2.mp h;split at h<;>try cases h
   obtain⟨hcc,B,hB1,hB2⟩:ps.length<=1200/\∃B:List (Int×Int),B.length<64/\∀x∈ps,x∈B:=by assumption
   obtain⟨a,ha,rfl⟩:=i1.of_ref;obtain⟨a',ha',xs,hx,la⟩:=sr1.get hS;rw[ha]at ha';cases ha';rw[nU hn]at la;have pr:=AA la;refine⟨a,xs,ps,rfl,SqL.of hx,pr,hcc,fun lS es ep t zs qs hl vz pz nd mem hq=>?_⟩;have sm:sd H1 (upd H1 lS (E3 X.w lS es ep t)):=eA hl _;refine⟨lS,es,ep,t,zs,qs,rfl,aF,vz,q0 sm pz,nd,X3 (List.Nodup.length_le_of_subset nd fun y hy=>hB2 y ((mem y).mp hy)) hB1,fun l zs' ps' q hl2 pz' pp aq=>?_⟩;have il:=vk (m:=m1) pz' q.toList (eQ aq.1);have e:(q.toList.map fun i=>pP (ps'.getD i (0,0)))=(bD ps).map pP:=by rw[Ad aq pp mem,Qa];rfl
   rw[e]at il;exact bB (sr1.same sm) il (post.mono (e1.trans (.of (b8 sm)))) hl2
  |_=>cases h
theorem oy:∀{ns:List Int} {vs:List Value},a5 (ns.map V.int) vs->IntsAre vs ns
 |[],vs,r=>by cases r;exact .nil
 |n::ns,vs,r=>by
  cases r with
  |cons r1 r2=>
   obtain⟨t,rfl⟩:=r1;exact .cons n t (oy r2)
def Dx(ns:List Int):Nat:=(firstMet (fun i=>ns.getD i 0) ns.length).length
def F1(a:Addr)(n:Nat):HO:=.ext fun h=>∃o es ep t,h.get? a=some o/\o.ExactSet/\o.data=.set es ep t/\t.fits es.size=true/\es.size=n
def HP(K:Q4):List V->Hp->VK->Prop:=fun xs H Q=>∃(p:Addr) (ns:List Int),xs=[.ref p]/\SqL K H p (ns.map V.int)/\ns.length<=4000/\∀l,H l=none->Q (.ref l) (upd H l (F1 l (Dx ns)))
theorem FT{X:Cx}(hc:X.calm=true):bX X (.type "set") (HP X.K):=by
 rintro pins s σ H xs us Q I r ⟨p,ns,rfl,hL,hn,q⟩;obtain⟨u,rfl,ru⟩:=fP r;cases ru;obtain⟨its,rv,pl,hz⟩:=I.list hL;have hlen:=rv.length;rw[Q9]at hlen;have sz:its.toArray.size=ns.length:=by rw[QC,hlen]
 refine PySem.call_set_list (items:=its.toArray) (ns:=ns) (show X.A.handled=none from I.ok.hd hc) pl.isList (by simpa using oy rv) (by rw[sz];unfold scanBound;omega) fun h' tk hS hk=>?_;obtain⟨o,es,ep,t,ho,hex,hd,_,_,_,hf,hn'⟩:=hS;rw[sz]at hn';have hf0:=I.hok.fresh (QJ s.heap.objs.size);exact⟨.ref s.heap.objs.size,_,I.laid (o:=F1 s.heap.objs.size (Dx ns)) (t':=tk) (fun b o g=>hk b o (QX g) g) (QJ _) ⟨⟨o,es,ep,t,ho,hex,hd,hf,hn'⟩,⟨o,ho⟩,fun h1 h2 ⟨o,es,ep,t,g,r⟩ m=>⟨o,es,ep,t,m o g,r⟩⟩,rfl,q _ hf0⟩
def HQ:List V->Hp->VK->Prop:=fun xs H Q=>∃(v:Addr) (n:Nat),xs=[.ref v]/\H v=some (F1 v n)/\n<=4000/\Q (.int n) H
theorem FU{X:Cx}:bX X (.builtin "len") HQ:=by
 rintro pins s σ H xs us Q I r ⟨v,n,rfl,hV,hn,q⟩;obtain⟨u,rfl,ru⟩:=fP r;cases ru;obtain⟨⟨o,es,ep,t,ho,hex,hd,hf,he⟩,_,_⟩:bx X.prog X.w H s.heap v (F1 v n):=I.hok v _ hV;have lt:(es.size:Int)<2^63:=by rw[he];omega
 refine PySem.call_len_set ho hex hd hf lt ?_;rw[he];exact⟨.int n,H,I.tok _,⟨_,rfl⟩,q⟩
def mW(ce:CE):CE:=fun ρ S=>(ce ρ S).bind fun p=>match p.1 with
 |.ref l=>match p.2[l]? with
  |some (.lst us)=>(mM us).bind fun ns=>if ns.length<=4000 then some (.int (Dx ns:Nat),p.2)else none
  |_=>none
 |_=>none
theorem Dw(ns:List Int):Dx ns<=ns.length:=firstMet_length_le _ _
theorem yK{X:Cx}{o:Expr}{co:CE}{p1 p2 cpos pos:Pos}(hcm:X.calm=true)(hg:L2.Gl X "len")(hm:X.mg "len"=none)(hg2:L2.Gl X "set")(hm2:X.mg "set"=none)(ho:QE X o co)
  (he1:starEach [o] X.env=(false,eval o X.env)::starEach [] X.env:=by rfl) (hpl1:(backTo cpos (starEach [] X.env)).any (·.1)=false:=by rfl)
  (he:starEach [.Call (.Name "set" p2) [o] [] cpos] X.env=(false,eval (.Call (.Name "set" p2) [o] [] cpos) X.env)::starEach [] X.env:=by rfl) (hpl:(backTo pos (starEach [] X.env)).any (·.1)=false:=by rfl) :
  QE X (.Call (.Name "len" p1) [.Call (.Name "set" p2) [o] [] cpos] [] pos) (mW co):=
 (gJ FU hg hm PySem.boot_len (bS (iI (FT hcm) hg2 hm2 rS (bS ho ej he1) (by decide) (by decide) he1 hpl1) ej he) (by decide) (by decide) he hpl).imp fun σ H Q hz=>iA hz fun m ρ S u S' sr lr hc post=>by
  obtain⟨⟨x,S1⟩,h1,h⟩:=Q2.mp hc;refine⟨m,ρ,S,x,S1,sr,lr,h1,fun m1 v1 H1 e1 sr1 i1=>?_⟩;cases x with
  |ref l=>
   simp only at h;split at h<;>try cases h
   rename_i us hS;obtain⟨ns,hn,h⟩:=Q2.mp h;split at h<;>try cases h
   have hcc:ns.length<=4000:=by assumption
   obtain⟨a,ha,rfl⟩:=i1.of_ref;obtain⟨a',ha',xs,hx,la⟩:=sr1.get hS;rw[ha]at ha';cases ha';rw[ik hn]at la;have ex:xs=ns.map V.int:=IsL.ints la;subst ex;refine⟨a,ns,rfl,SqL.of hx,hcc,fun lS hl=>?_⟩;have sm:sd H1 (upd H1 lS (F1 lS (Dx ns))):=eA hl _;exact⟨lS,Dx ns,rfl,aF,Qc (Dw ns) hcc,post m1 _ _ (e1.trans (.of (b8 sm))) (sr1.same sm) .int_⟩
  |_=>cases h
abbrev ZO(h:Heap)(z I O:Addr)(f:Value)(fl:Bool):Prop:=h.get? z=some { cls:=.type "zip",dict:=none,data:=.fields #[f,.bool fl,.bool false,.ref I,.ref O],slots:=#[] }
structure ZG(b d:Bool)(h:Heap)(z I O i j a c:Addr)(f:Value)(fl:Bool)(n:Nat):Prop where
 hz:ZO h z I O f fl
 hI:IsPair h I (.ref i) (.ref j)
 hO:∃p q,IsPair h O p q
 h1:SI b h i a n
 h2:SI d h j c n
def G8(h:Heap)(f:Value):Prop:=f=.none\/∃p:Nat,f=rawInt (p:Nat)/\h.get? p=none
section
variable{prog:Program}{w:World}{A:Around}{E:Value->Shared->Prop}{s:Shared}
theorem rL{z I O:Addr}{f:Value}{fl:Bool}(hz:ZO s.heap z I O f fl)(hf:G8 s.heap f){Q:Bool->Shared->Prop}(q:Q true s):wpAny (model prog w) A (Builtin.SmallTypes.ownedTupleIsFree (.ref z)) Q E s:=by
 unfold Builtin.SmallTypes.ownedTupleIsFree;rcases hf with rfl|⟨p,rfl,hp⟩
 ·exact Q0 (Qp hz rfl (x:=.none) rfl (Q5 q))
 ·refine Q0 (Qp hz rfl (x:=rawInt (p:Nat)) rfl ?_);show wpAny _ _ (loadIfAlive ((p:Int).toNat) >>= _) _ _ _;rw[ZC];refine Q0 (rY ?_);rw[hp];simp only[Option.isNone_none,if_true];exact Q5 q
theorem tW{b d:Bool}{z I O i j a c:Addr}{n:Nat}{f:Value}{fl:Bool}{xs ys:Array Value}{x y:Value}{Q:Value->Shared->Prop}(D:ZA z I O i j a c)(st:ZG b d s.heap z I O i j a c f fl n)(hfr:G8 s.heap f)(ha:SA b s.heap a xs)(hc:SA d s.heap c ys)(hx:xs[n]?=some x)(hy:ys[n]?=some y)
  (k:∀h',ZG b d h' z I O i j a c (rawInt s.heap.objs.size) false (n+1)->IsPair h' s.heap.objs.size x y->
   (∀e o,e≠z->e≠O->e≠i->e≠j->s.heap.get? e=some o->h'.get? e=some o)->Q (.ref s.heap.objs.size) { s with heap:=h' }) :
  wpAny (model prog w) A (Builtin.«zip.__next__» ⟨[.ref z],[]⟩) (fun fin s'=>∃v,fin=.done (.ret v)/\Q v s') E s:=by
 obtain⟨hz,hI,⟨p,q,hO⟩,h1,h2⟩:=st;show wpAny _ _ (field (.ref z) 2 >>= _) _ _ _;refine Q0 (Qp hz rfl (x:=.bool false) rfl ?_);show wpAny _ _ (field (.ref z) 3 >>= _) _ _ _;refine Q0 (Qp hz rfl (x:=.ref I) rfl ?_);refine Q0 (wpAny_seqItems hI rfl ?_);show wpAny _ _ (Builtin.SmallTypes.ownedTupleIsFree (.ref z) >>= _) _ _ _;refine Q0 (rL hz hfr ?_);simp only[if_true];refine Q0 (wpAny_rule (Q0 (Qp hz rfl (x:=.ref O) rfl (Q0 (wpAny_setField_rec hz (by simp) fun g1 z1 s1=>Q0 ?_)))))
 replace z1:ZO g1 z I O .ellipsis fl:=z1
 simp only[List.zipIdx_nil,List.zipIdx_cons,Za,Zh];refine Q0 (Q0 (wpAny_onRaise ?_));show wpAny _ _ (Builtin.SmallTypes.nextOf (.ref i) >>= _) _ _ _;refine Q0 (cM (b:=b) (h1.at_ fun o e=>s1.extBut _ _ D.iz e) (ha.at_ fun o e=>s1.extBut _ _ D.az e) hx fun g2 i2 s2=>Q5 ?_);have O2:IsPair g2 O p q:=s2.extBut _ _ D.Oi (s1.extBut _ _ D.Oz hO);refine Q0 (wpAny_seqItems O2 rfl (Q0 (wpAny_updateSeq_pair O2 fun g3 O3 s3=>?_)))
 replace O3:IsPair g3 O x q:=O3
 refine Q0 (wpAny_letGo (Q5 (Q0 (Q0 (wpAny_onRaise ?_)))));show wpAny _ _ (Builtin.SmallTypes.nextOf (.ref j) >>= _) _ _ _;have up3:∀e o,e≠z->e≠i->e≠O->s.heap.get? e=some o->g3.get? e=some o:=fun e o u1 u2 u3 q=>s3.extBut _ _ u3 (s2.extBut _ _ u2 (s1.extBut _ _ u1 q));refine Q0 (cM (b:=d) (h2.at_ fun o e=>up3 _ _ D.jz D.ij.symm D.Oj.symm e) (hc.at_ fun o e=>up3 _ _ D.cz D.ci D.cO e) hy fun g4 j4 s4=>Q5 ?_);have O4:IsPair g4 O x q:=s4.extBut _ _ D.Oj O3;refine Q0 (wpAny_seqItems O4 rfl (Q0 (wpAny_updateSeq_pair O4 fun g5 O5 s5=>?_)))
 replace O5:IsPair g5 O x y:=O5
 refine Q0 (wpAny_letGo (Q5 (Q5 (Q0 (wpAny_seqItems O5 rfl (Q0 (wpAny_newTuple ?_)))))));have sz:g5.objs.size=s.heap.objs.size:=by rw[s5.1,s4.1,s3.1,s2.1,s1.1]
 have z5:ZO g5 z I O .ellipsis fl:=s5.extBut _ _ D.Oz.symm (s4.extBut _ _ D.jz.symm (s3.extBut _ _ D.Oz.symm (s2.extBut _ _ D.iz.symm z1)));have up5:∀e o,e≠z->e≠O->e≠i->e≠j->s.heap.get? e=some o->g5.get? e=some o:=fun e o u1 u2 u3 u4 q=>s5.extBut _ _ u2 (s4.extBut _ _ u4 (up3 e o u1 u3 u2 q));have i5:SI b g5 i a (n+1):=i2.at_ fun o e=>s5.extBut _ _ D.Oi.symm (s4.extBut _ _ D.ij (s3.extBut _ _ D.Oi.symm e));have j5:SI d g5 j c (n+1):=j4.at_ fun o e=>s5.extBut _ _ D.Oj.symm e;have zlt:z<g5.objs.size:=QX z5;show wpAny _ _ (Builtin.SmallTypes.ownedTupleHandOut (.ref z) (.ref g5.objs.size) >>= _) _ _ _;refine Q0 ?_;unfold Builtin.SmallTypes.ownedTupleHandOut;have z6:ZO (g5.push { cls:=.type "tuple",data:=.seq #[x,y] }) z I O .ellipsis fl:=Q3 _ z5;refine Q0 (wpAny_setField_rec z6 (by simp) fun g7 z7 s7=>?_)
 replace z7:ZO g7 z I O (rawInt g5.objs.size) fl:=z7
 refine wpAny_setField_rec z7 (by simp) fun g8 z8 s8=>?_
 replace z8:ZO g8 z I O (rawInt g5.objs.size) false:=z8
 have up8:∀e o,e≠z->g5.get? e=some o->g8.get? e=some o:=fun e o u1 q=>s8.extBut _ _ u1 (s7.extBut _ _ u1 (Q3 _ q));have T8:IsPair g8 g5.objs.size x y:=s8.extBut _ _ (Zz zlt) (s7.extBut _ _ (Zz zlt) (QY _ rfl));rw[sz]at z8 T8;refine Q5 ⟨_,rfl,?_⟩;show Q (.ref g5.objs.size) _;rw[sz];exact k g8 ⟨z8,up8 _ _ D.Iz (up5 _ _ D.Iz D.IO D.Ii D.Ij hI),⟨x,y,up8 _ _ D.Oz O5⟩,i5.at_ fun o e=>up8 _ _ D.iz e,j5.at_ fun o e=>up8 _ _ D.jz e⟩ T8 fun e o u1 u2 u3 u4 q=>up8 e o u1 (up5 e o u1 u2 u3 u4 q)
theorem tX{b d:Bool}{z I O i j a c:Addr}{n:Nat}{f:Value}{fl:Bool}{xs ys:Array Value}{Q:PySem.Fin->Shared->Prop}(hh:A.handled=none)(D:ZA z I O i j a c)(st:ZG b d s.heap z I O i j a c f fl n)(hfr:G8 s.heap f)(ha:SA b s.heap a xs)(hc:SA d s.heap c ys)(hn:xs[n]?=none\/ys[n]?=none)
  (k:∀h' e,(∀c o,c≠z->c≠O->c≠i->c≠j->s.heap.get? c=some o->h'.get? c=some o)->(∃o,h'.get? e=some o/\o.cls=.type "StopIteration")->E (.ref e) { s with heap:=h' }) :
  wpAny (model prog w) A (Builtin.«zip.__next__» ⟨[.ref z],[]⟩) Q E s:=by
 obtain⟨hz,hI,⟨p,q,hO⟩,h1,h2⟩:=st;show wpAny _ _ (field (.ref z) 2 >>= _) _ _ _;refine Q0 (Qp hz rfl (x:=.bool false) rfl ?_);show wpAny _ _ (field (.ref z) 3 >>= _) _ _ _;refine Q0 (Qp hz rfl (x:=.ref I) rfl ?_);refine Q0 (wpAny_seqItems hI rfl ?_);show wpAny _ _ (Builtin.SmallTypes.ownedTupleIsFree (.ref z) >>= _) _ _ _;refine Q0 (rL hz hfr ?_);simp only[if_true];refine Q0 (wpAny_rule (Q0 (Qp hz rfl (x:=.ref O) rfl (Q0 (wpAny_setField_rec hz (by simp) fun g1 z1 s1=>Q0 ?_)))))
 replace z1:ZO g1 z I O .ellipsis fl:=z1
 simp only[List.zipIdx_nil,List.zipIdx_cons,Za,Zh];refine Q0 (Q0 (wpAny_onRaise ?_));show wpAny _ _ (Builtin.SmallTypes.nextOf (.ref i) >>= _) _ _ _;cases hx:xs[n]? with
 |none=>
  refine Q0 (bE (b:=b) hh (h1.at_ fun o e=>s1.extBut _ _ D.iz e) (ha.at_ fun o e=>s1.extBut _ _ D.az e) hx fun g2 e s2 he=>?_);obtain⟨oe,ge,ce⟩:=he;have z2:ZO g2 z I O .ellipsis fl:=s2 _ _ D.iz.symm z1;have nez:e≠z:=fun v=>by subst v;rw[z2]at ge;cases ge;simp at ce
  exact wpAny_setField_rec z2 (by simp) fun g3 _ s3=>k g3 e (fun c o u1 _ u3 _ v=>s3.extBut _ _ u1 (s2 _ _ u3 (s1.extBut _ _ u1 v))) ⟨oe,s3.extBut _ _ nez ge,ce⟩
 |some x=>
  have hy:ys[n]?=none:=by rcases hn with v|v;rw[hx]at v;cases v;exact v
  refine Q0 (cM (b:=b) (h1.at_ fun o e=>s1.extBut _ _ D.iz e) (ha.at_ fun o e=>s1.extBut _ _ D.az e) hx fun g2 i2 s2=>Q5 ?_);have O2:IsPair g2 O p q:=s2.extBut _ _ D.Oi (s1.extBut _ _ D.Oz hO);refine Q0 (wpAny_seqItems O2 rfl (Q0 (wpAny_updateSeq_pair O2 fun g3 O3 s3=>?_)));refine Q0 (wpAny_letGo (Q5 (Q0 (Q0 (wpAny_onRaise ?_)))));show wpAny _ _ (Builtin.SmallTypes.nextOf (.ref j) >>= _) _ _ _;have up3:∀e o,e≠z->e≠i->e≠O->s.heap.get? e=some o->g3.get? e=some o:=fun e o u1 u2 u3 q=>s3.extBut _ _ u3 (s2.extBut _ _ u2 (s1.extBut _ _ u1 q));refine Q0 (bE (b:=d) hh (h2.at_ fun o e=>up3 _ _ D.jz D.ij.symm D.Oj.symm e) (hc.at_ fun o e=>up3 _ _ D.cz D.ci D.cO e) hy fun g4 e s4 he=>?_);obtain⟨oe,ge,ce⟩:=he;have z4:ZO g4 z I O .ellipsis fl:=s4 _ _ D.jz.symm (s3.extBut _ _ D.Oz.symm (s2.extBut _ _ D.iz.symm z1));have nez:e≠z:=fun v=>by subst v;rw[z4]at ge;cases ge;simp at ce
  exact wpAny_setField_rec z4 (by simp) fun g5 _ s5=>k g5 e (fun c o u1 u2 u3 u4 v=>s5.extBut _ _ u1 (s4 _ _ u4 (up3 c o u1 u3 u2 v))) ⟨oe,s5.extBut _ _ nez ge,ce⟩
end
def ZN(b d:Bool)(h:Heap)(z I O i j a c:Addr)(n:Nat):Prop:=∃f fl,(f=Value.none\/∃p:Nat,f=rawInt (p:Nat))/\ZG b d h z I O i j a c f fl n
theorem kn:entryFor table "zip.__iter__"=some Builtin.«dict_keyiterator.__iter__»:=entryFor_alias (id':="dict_keyiterator.__iter__") (by kernel_rfl) rfl (by decide +kernel) (by kernel_rfl)
section
variable{prog:Program}{w:World}{A:Around}{E:Value->Shared->Prop}{s:Shared}{b d:Bool}{z I O i j a c p:Addr}{fl:Bool}{n:Nat}{xs ys:Array Value}{x y:Value}
theorem t4(D:ZA z I O i j a c)(st:ZG b d s.heap z I O i j a c (rawInt (p:Nat)) fl n)(hp:∃o,s.heap.get? p=some o)(ha:SA b s.heap a xs)(hc:SA d s.heap c ys)(hx:xs[n]?=some x)(hy:ys[n]?=some y){Q:Value->Shared->Prop}
  (k:∀h',ZG b d h' z I O i j a c (rawInt (p:Nat)) true (n+1)->IsPair h' s.heap.objs.size x y->
   (∀e o,e≠z->e≠i->e≠j->s.heap.get? e=some o->h'.get? e=some o)->Q (.ref s.heap.objs.size) { s with heap:=h' }) :
  wpAny (model prog w) A (Builtin.«zip.__next__» ⟨[.ref z],[]⟩) (fun fin s'=>∃v,fin=.done (.ret v)/\Q v s') E s:=by
 obtain⟨hz,hI,hO,h1,h2⟩:=st;show wpAny _ _ (field (.ref z) 2 >>= _) _ _ _;refine Q0 (Qp hz rfl (x:=.bool false) rfl ?_);show wpAny _ _ (field (.ref z) 3 >>= _) _ _ _;refine Q0 (Qp hz rfl (x:=.ref I) rfl ?_);refine Q0 (wpAny_seqItems hI rfl ?_);show wpAny _ _ (Builtin.SmallTypes.ownedTupleIsFree (.ref z) >>= _) _ _ _;refine Q0 (mQ hz hp fun g1 z1 s1=>?_);simp only[Qx,if_false];refine Q0 ?_;rw[<-X5];simp only[Zh,Za];refine Q0 (Q0 (wpAny_holding ?_));show wpAny _ _ (Builtin.SmallTypes.nextOf (.ref i) >>= _) _ _ _;refine Q0 (cM (b:=b) (h1.at_ fun o e=>s1.extBut _ _ D.iz e) (ha.at_ fun o e=>s1.extBut _ _ D.az e) hx fun g2 i2 s2=>Q5 (Q5 ?_));have up2:∀e o,e≠z->e≠i->s.heap.get? e=some o->g2.get? e=some o:=fun e o u1 u2 q=>s2.extBut _ _ u2 (s1.extBut _ _ u1 q);refine Q0 (Q0 (wpAny_holding ?_));show wpAny _ _ (Builtin.SmallTypes.nextOf (.ref j) >>= _) _ _ _;refine Q0 (cM (b:=d) (h2.at_ fun o e=>up2 _ _ D.jz D.ij.symm e) (hc.at_ fun o e=>up2 _ _ D.cz D.ci e) hy fun g3 j3 s3=>Q5 (Q5 (Q5 ?_)));have up3:∀e o,e≠z->e≠i->e≠j->s.heap.get? e=some o->g3.get? e=some o:=fun e o u1 u2 u3 q=>s3.extBut _ _ u3 (up2 e o u1 u2 q);have sz:g3.objs.size=s.heap.objs.size:=by rw[s3.1,s2.1,s1.1]
 dsimp only;refine Q0 (wpAny_newTuple (Q5 ⟨_,rfl,?_⟩) (show 2<=sizeLine by decide));have T:IsPair (g3.push { cls:=.type "tuple",data:=.seq #[x,y] }) g3.objs.size x y:=QY _ rfl;rw[sz]at T;show Q (.ref g3.objs.size) _;rw[sz];refine k _ ⟨Q3 _ (s3.extBut _ _ D.jz.symm (s2.extBut _ _ D.iz.symm z1)),Q3 _ (up3 _ _ D.Iz D.Ii D.Ij hI),let ⟨u,v,q⟩:=hO;⟨u,v,Q3 _ (up3 _ _ D.Oz D.Oi D.Oj q)⟩,i2.at_ fun o e=>Q3 _ (s3.extBut _ _ D.ij e),j3.at_ fun o e=>Q3 _ e⟩ T fun e o u1 u2 u3 q=>Q3 _ (up3 e o u1 u2 u3 q)
theorem tY(hh:A.handled=none)(D:ZA z I O i j a c)(st:ZG b d s.heap z I O i j a c (rawInt (p:Nat)) fl n)(hp:∃o,s.heap.get? p=some o)(ha:SA b s.heap a xs)(hc:SA d s.heap c ys)(hn:xs[n]?=none\/ys[n]?=none){Q:PySem.Fin->Shared->Prop}
  (k:∀h' e,(∀c o,c≠z->c≠i->c≠j->s.heap.get? c=some o->h'.get? c=some o)->(∃o,h'.get? e=some o/\o.cls=.type "StopIteration")->E (.ref e) { s with heap:=h' }) :
  wpAny (model prog w) A (Builtin.«zip.__next__» ⟨[.ref z],[]⟩) Q E s:=by
 obtain⟨hz,hI,hO,h1,h2⟩:=st;show wpAny _ _ (field (.ref z) 2 >>= _) _ _ _;refine Q0 (Qp hz rfl (x:=.bool false) rfl ?_);show wpAny _ _ (field (.ref z) 3 >>= _) _ _ _;refine Q0 (Qp hz rfl (x:=.ref I) rfl ?_);refine Q0 (wpAny_seqItems hI rfl ?_);show wpAny _ _ (Builtin.SmallTypes.ownedTupleIsFree (.ref z) >>= _) _ _ _;refine Q0 (mQ hz hp fun g1 z1 s1=>?_);simp only[Qx,if_false];refine Q0 ?_;rw[<-X5];simp only[Zh,Za];refine Q0 (Q0 (wpAny_holding ?_));show wpAny _ _ (Builtin.SmallTypes.nextOf (.ref i) >>= _) _ _ _;cases hx:xs[n]? with
 |none=>
  refine Q0 (bE (b:=b) hh (h1.at_ fun o e=>s1.extBut _ _ D.iz e) (ha.at_ fun o e=>s1.extBut _ _ D.az e) hx fun g2 e s2 he=>?_);exact k g2 e (fun c o u1 u2 _ q=>s2 _ _ u2 (s1.extBut _ _ u1 q)) he
 |some x=>
  have hy:ys[n]?=none:=by rcases hn with v|v;rw[hx]at v;cases v;exact v
  refine Q0 (cM (b:=b) (h1.at_ fun o e=>s1.extBut _ _ D.iz e) (ha.at_ fun o e=>s1.extBut _ _ D.az e) hx fun g2 i2 s2=>Q5 (Q5 ?_));have up2:∀e o,e≠z->e≠i->s.heap.get? e=some o->g2.get? e=some o:=fun e o u1 u2 q=>s2.extBut _ _ u2 (s1.extBut _ _ u1 q);refine Q0 (Q0 (wpAny_holding ?_));show wpAny _ _ (Builtin.SmallTypes.nextOf (.ref j) >>= _) _ _ _;refine Q0 (bE (b:=d) hh (h2.at_ fun o e=>up2 _ _ D.jz D.ij.symm e) (hc.at_ fun o e=>up2 _ _ D.cz D.ci e) hy fun g3 e s3 he=>?_);exact k g3 e (fun c o u1 u2 u3 q=>s3 _ _ u3 (up2 c o u1 u2 q)) he
theorem ZN.at_{h h':Heap}(st:ZN b d h z I O i j a c n)(k:∀e∈[z,I,O,i,j],∀o,h.get? e=some o->h'.get? e=some o):ZN b d h' z I O i j a c n:=by
 obtain⟨f,fl,hf,hz,hI,⟨u,v,hO⟩,h1,h2⟩:=st;exact⟨f,fl,hf,k z (by simp) _ hz,k I (by simp) _ hI,⟨u,v,k O (by simp) _ hO⟩,h1.at_ fun o e=>k i (by simp) o e,h2.at_ fun o e=>k j (by simp) o e⟩
theorem ZN.free{h:Heap}{f:Value}(hf:f=Value.none\/∃p:Nat,f=rawInt (p:Nat)):G8 h f\/∃p:Nat,f=rawInt (p:Nat)/\∃o,h.get? p=some o:=by
 rcases hf with e|⟨p,e⟩
 ·exact .inl (.inl e)
 ·cases hp:h.get? p with
  |none=>exact .inl (.inr ⟨p,e,hp⟩)
  |some o=>exact .inr ⟨p,e,o,hp⟩
theorem A8(D:ZA z I O i j a c)(st:ZN b d s.heap z I O i j a c n)(ha:SA b s.heap a xs)(hc:SA d s.heap c ys)(hx:xs[n]?=some x)(hy:ys[n]?=some y){Q:Option Value->Shared->Prop}
  (k:∀h',ZN b d h' z I O i j a c (n+1)->IsPair h' s.heap.objs.size x y->
   (∀e o,e≠z->e≠O->e≠i->e≠j->s.heap.get? e=some o->h'.get? e=some o)->Q (some (.ref s.heap.objs.size)) { s with heap:=h' }):wpAny (model prog w) A (pyNext (.ref z)) Q E s:=by
 obtain⟨f,fl,hf,st⟩:=st;have ty:s.TypeIs (.ref z) "zip":=⟨_,st.hz,rfl⟩;unfold pyNext;refine Q0 (wpAny_attempt (wpAny_callSpecial?_slot (name:=Str.ofString "__next__") ty PySem.F.slot_zip_next (wpAny_call_entry PySem.F.slot_zip_next ty PySem.F.entry_zip_next ?_ (PySem.F.args_zip_next_1 _))));rcases ZN.free (h:=s.heap) hf with fr|⟨p,rfl,hp⟩
 ·exact tW D st fr ha hc hx hy fun h' a1 a2 a3=>Q5 (k h' ⟨_,_,.inr ⟨_,rfl⟩,a1⟩ a2 a3)
 ·exact t4 D st hp ha hc hx hy fun h' a1 a2 a3=>Q5 (k h' ⟨_,_,.inr ⟨_,rfl⟩,a1⟩ a2 fun e o u1 _ u3 u4 q=>a3 e o u1 u3 u4 q)
theorem D1(hh:A.handled=none)(D:ZA z I O i j a c)(st:ZN b d s.heap z I O i j a c n)(ha:SA b s.heap a xs)(hc:SA d s.heap c ys)(hn:xs[n]?=none\/ys[n]?=none){Q:Option Value->Shared->Prop}
  (k:∀h',(∀c o,c≠z->c≠O->c≠i->c≠j->s.heap.get? c=some o->h'.get? c=some o)->Q none { s with heap:=h' }):wpAny (model prog w) A (pyNext (.ref z)) Q E s:=by
 obtain⟨f,fl,hf,st⟩:=st;have ty:s.TypeIs (.ref z) "zip":=⟨_,st.hz,rfl⟩;unfold pyNext;refine Q0 (wpAny_attempt (wpAny_callSpecial?_slot (name:=Str.ofString "__next__") ty PySem.F.slot_zip_next (wpAny_call_entry PySem.F.slot_zip_next ty PySem.F.entry_zip_next ?_ (PySem.F.args_zip_next_1 _))));rcases ZN.free (h:=s.heap) hf with fr|⟨p,rfl,hp⟩
 ·refine tX (show A.in1.handled=none from hh) D st fr ha hc hn fun h' e up he=>?_;obtain⟨o,ge,ce⟩:=he;exact Q0 (wpAny_isInstance (T:="StopIteration") (b:=true) ⟨o,ge,ce⟩ isSubtype_stop (Q5 (k h' up)))
 ·refine tY (show A.in1.handled=none from hh) D st hp ha hc hn fun h' e up he=>?_;obtain⟨o,ge,ce⟩:=he;exact Q0 (wpAny_isInstance (T:="StopIteration") (b:=true) ⟨o,ge,ce⟩ isSubtype_stop (Q5 (k h' fun c o u1 _ u3 u4 q=>up c o u1 u3 u4 q)))
theorem A7(st:ZN b d s.heap z I O i j a c n){Q:Value->Shared->Prop}(q:Q (.ref z) s):wpAny (model prog w) A (pyIter (.ref z)) Q E s:=by
 obtain⟨f,fl,hf,st⟩:=st;have ty:s.TypeIs (.ref z) "zip":=⟨_,st.hz,rfl⟩;refine wpAny_pyIter_slot ty PySem.F.slot_zip_iter (wpAny_call_entry PySem.F.slot_zip_iter ty kn ?_ (PySem.F.args_zip_iter_1 _));show wpAny _ _ (ret (Value.ref z)) _ _ s;exact Q5 ⟨_,rfl,"zip",_,ty,PySem.F.slot_zip_next.lookup,q⟩
end
theorem uC{P:Program}{w:World}{K:Q4}{nm:Str}{pos:Pos}{b d:Bool}{z I O i j a c:Addr}(D:ZA z I O i j a c) :
  DX P w K (.Name nm pos) (Itz K b d a c) [z,I,O,i,j] z (fun n h=>ZN b d h z I O i j a c n) where
 mem:=by simp
 obj:=fun n h st e he=>by
  obtain⟨f,fl,_,hz,hI,⟨p,q,hO⟩,h1,h2⟩:=st;simp only[QH,ZV,or_false]at he;rcases he with rfl|rfl|rfl|rfl|rfl
  ·exact⟨_,hz,fun v q=>by cases q⟩
  ·exact⟨_,hI,fun v q=>by cases q⟩
  ·exact⟨_,hO,fun v q=>by cases q⟩
  ·exact h1.obj
  ·exact h2.obj
 keep:=fun n h h' st kp=>st.at_ kp
 item:=by
  intro X hP hw hK hc n pins s σ H E Iv hf st hg;subst hP hw hK;obtain⟨xs,ys,x,y,qa,qc,hx,hy⟩:=hg;obtain⟨ia,ra,sa⟩:=Iv.sq qa;obtain⟨ic,rc,sc⟩:=Iv.sq qc;obtain⟨u,hu,ru⟩:=ra.get hx;obtain⟨v,hv,rv⟩:=rc.get hy;refine A8 D st sa sc (x:=u) (y:=v) (by simpa using hu) (by simpa using hv) fun h2 st1 T2 up1=>⟨_,rfl,Q5 ?_⟩;have hfr:H s.heap.objs.size=none:=Iv.hok.fresh (QJ _);have sz:∀e∈[z,I,O,i,j],e<s.heap.objs.size:=fun e he=>by
   simp only[QH,ZV,or_false]at he;obtain⟨f,fl,_,hz,hI,⟨p,q,hO⟩,h1',h2'⟩:=st;rcases he with rfl|rfl|rfl|rfl|rfl
   ·exact QX hz
   ·exact QX hI
   ·exact QX hO
   ·obtain⟨o,e,_⟩:=h1'.obj;exact QX e
   ·obtain⟨o,e,_⟩:=h2'.obj;exact QX e
  have I1:Inv X pins σ (upd H s.heap.objs.size (.tup [x,y])) { s with heap:=s.heap.push { cls:=.type "tuple",data:=.seq #[u,v] },toks:=s.toks }:=
   Iv.laid (fun b o e=>Q3 _ e) (QJ _) (rh (QY _ rfl) ru rv)
  have fr2:∀e∈[z,I,O,i,j],(upd H s.heap.objs.size (.tup [x,y])) e=none:=fun e he=>by rw[aT (QL (sz e he))];exact(hf e he).1
  have I2:Inv X pins σ (upd H s.heap.objs.size (.tup [x,y])) { s with heap:=h2,toks:=s.toks }:=
   Inv.turnedL (s:={ s with heap:=s.heap.push { cls:=.type "tuple",data:=.seq #[u,v] },toks:=s.toks }) (h':=h2) (t':=s.toks) (ch:=[z,I,O,i,j]) I1 (fun e o hn q=>by
    by_cases ce:e=s.heap.objs.size
    ·subst ce;have q':(s.heap.push { cls:=.type "tuple",data:=.seq #[u,v] }).get? s.heap.objs.size=some o:=q;rw[QY _ rfl]at q';cases q';exact T2
    ·have q':s.heap.get? e=some o:=yP q ce;simp only[QH,ZV,or_false,not_or]at hn;exact up1 e o hn.1 hn.2.2.1 hn.2.2.2.1 hn.2.2.2.2 q') fun e he=>⟨fr2 e he,(hf e he).2⟩
  refine⟨.ref s.heap.objs.size,_,I2,rfl,⟨_,x,y,rfl,hfr,rfl,fun xs' q=>by rw[Iv.sq_inj q qa];exact hx,fun ys' q=>by rw[Iv.sq_inj q qc];exact hy⟩,st1,fr2⟩
 done:=by
  intro X hP hw hK hc n pins s σ H E Iv hf st hg;subst hP hw hK;obtain⟨xs,ys,qa,qc,hx⟩:=hg;obtain⟨ia,ra,sa⟩:=Iv.sq qa;obtain⟨ic,rc,sc⟩:=Iv.sq qc;have la:=ra.length;have lc:=rc.length;refine D1 (Iv.ok.hd hc) D st sa sc (hx.elim (fun q=>.inl (by simp;omega)) fun q=>.inr (by simp;omega)) fun h1 up1=>⟨rfl,?_⟩;exact Iv.turnedL (t':=s.toks) (ch:=[z,I,O,i,j]) (fun e o hn q=>by
   simp only[QH,ZV,or_false,not_or]at hn;exact up1 e o hn.1 hn.2.2.1 hn.2.2.2.1 hn.2.2.2.2 q) hf
 self:=fun _ _ _ _ _ st h=>A7 st h
section
variable{X:Cx}{pos:Pos}
theorem BK{nm:Str}{tp p:Pos}{a c:Expr}{ta:TA}(hg:L2.Gl X "zip")(hm:X.mg "zip"=none)(ha:WA X [a,c] ta)
  (hs:starEach [a,c] X.env=(false,eval a X.env)::starEach [c] X.env:=by rfl) (hpl:(backTo pos (starEach [c] X.env)).any (·.1)=false:=by rfl):WI X (.Name nm tp) (.Call (.Name "zip" p) [a,c] [] pos) (IQ X.K ta):=by
 constructor;intro pins s σ H R I h;refine wpAny_Call_Name_kw (fq I hg hm OP.rR ?_);refine PyProof.Rows.callWith_type1 (thn (ha.h pos pins s σ H _ I h) fun us s1 hz=>?_) hs hpl;obtain⟨vs,H1,I1,r1,q1⟩:=hz;obtain⟨b,d,aa,cc,rfl,⟨xs,qa⟩,⟨ys,qc⟩,q⟩:=q1;obtain⟨u,v,rfl,ru,rv⟩:=su r1;cases ru;cases rv;obtain⟨ia,ra,sa⟩:=I1.sq qa;obtain⟨ic,rc,sc⟩:=I1.sq qc;refine qv sa sc fun h1 z II O i j D st hi up=>wpAny_pyIter_zip st.hz ⟨z,[z,II,O,i,j],_,_,H1,rfl,I1.kept (t':=s1.toks) up,uC D,⟨.none,false,.inl rfl,st.hz,st.hI,st.hO,st.h1,st.h2⟩,fun e he=>?_,q⟩;exact I1.fpOk (hi e he) (I1.hok.fresh (hi e he))
theorem Cd{nm:Str}{tp p:Pos}{a c:Expr}{ca cc:CE}(hg:L2.Gl X "zip")(hm:X.mg "zip"=none)(ha:QE X a ca)(hc:QE X c cc)
  (hs:starEach [a,c] X.env=(false,eval a X.env)::starEach [c] X.env:=by rfl) (hs2:starEach [c] X.env=(false,eval c X.env)::starEach [] X.env:=by rfl) (hpl:(backTo pos (starEach [c] X.env)).any (·.1)=false:=by rfl) :
  QI X (.Name nm tp) (.Call (.Name "zip" p) [a,c] [] pos) (GW ca cc):=(BK hg hm (bS ha (bS hc ej hs2) hs) hs hpl).imp fun σ H R hz=>tP hz fun m ρ S us ok S' sr lr hf post=>by
 obtain⟨⟨x,S1⟩,h1,h⟩:=Q2.mp hf;obtain⟨⟨y,S2⟩,h2,h⟩:=Q2.mp h;obtain⟨⟨xs,okx⟩,h3,h⟩:=Q2.mp h;obtain⟨⟨ys,oky⟩,h4,h⟩:=Q2.mp h;cases h;refine⟨m,ρ,S,x,S1,sr,lr,h1,fun m1 v1 H1 e1 sr1 i1=>⟨m1,ρ,S1,y,_,sr1,lr.mono e1,h2,fun m2 v2 H2 e2 sr2 i2=>?_⟩⟩;obtain⟨b,aa,rfl,q1,k1⟩:=qM sr2 (i1.mono e2) h3;obtain⟨d,bb,rfl,q2,k2⟩:=qM sr2 i2 h4;refine⟨b,d,aa,bb,rfl,q1,q2,post m2 H2 _ (e1.trans e2) sr2 fun m3 S3 H3 i e3 sr3 hok=>?_⟩;obtain⟨vs,sq1,l1⟩:=k1 m3 S3 H3 e3 sr3 hok.1;obtain⟨ws,sq2,l2⟩:=k2 m3 S3 H3 e3 sr3 hok.2;have n1:=l1.length;have n2:=l2.length;refine⟨fun u hu=>?_,fun hi=>⟨vs,ws,sq1,sq2,?_⟩⟩
 ·simp only[i9,Qr,Qt]at hu;obtain⟨⟨p,q⟩,hz,rfl⟩:=hu;obtain⟨hp,hq⟩:=ZF.mp hz;obtain⟨vp,ep,ip⟩:=l1.getD hp;obtain⟨vq,eq,iq⟩:=l2.getD hq;refine⟨⟨vs,ws,vp,vq,sq1,sq2,ep,eq⟩,fun v H4 hy=>?_⟩;obtain⟨r,x',y',rfl,hr,rfl,f1,f2⟩:=hy;have:=f1 vs sq1;rw[ep]at this;cases this;have:=f2 ws sq2;rw[eq]at this;cases this;have ee:Ext X.K m3 H3 m3 (upd H3 r (.tup [vp,vq])):=.of (bc hr _);exact⟨ee,sr3.same (eA hr _),.tup_ (SqT.of aF) (.cons_ (ip.mono ee) (.cons_ (iq.mono ee) .nil_))⟩
 ·simp only[i9,Q9,List.length_zip]at hi;omega
end
theorem u6:typeLookup (.type "list_reverseiterator") "__len__"=pure none:=by rw[typeLookup_type,builtinLookup_eq_fast];kernel_rfl
theorem yD:typeLookup (.type "list_reverseiterator") "__length_hint__"=pure (some (.builtin "list_reverseiterator.__length_hint__")):=by rw[typeLookup_type,builtinLookup_eq_fast];kernel_rfl
theorem yC:isSubtype (.type "list_reverseiterator") (.type "list_reverseiterator")=pure true:=by rw[isSubtype_type];kernel_rfl
section
variable{prog:Program}{w:World}{A:Around}{s:Shared}{R:Result->Shared->Prop}{I l S:Addr}{items:Array Value}
theorem zH{E:Value->Shared->Prop}{Q:Bool->Shared->Prop}(T:s.TypeIs (.ref I) "list_reverseiterator")(h:Q false s):wpAny (model prog w) A (Builtin.List.listLengthHint (.ref I)) Q E s:=by
 unfold Builtin.List.listLengthHint;refine Q0 (wpAny_specialOf T u6 ?_);change wpAny _ A (specialOf (Value.ref I) (Str.ofString "__length_hint__") >>= _) _ _ _;refine Q0 (wpAny_specialOf T yD ?_);have hs:splitId "list_reverseiterator.__length_hint__"=some ("list_reverseiterator","__length_hint__"):=by kernel_rfl
 dsimp only;rw[hs];dsimp only;refine Q0 (wpAny_isInstance T yC ?_);rw[if_neg (by simp)];split
 ·rw[if_neg (by decide)];exact Q5 h
 ·rename_i hn;exact absurd (by with_unfolding_all rfl) hn
theorem Dk{W:WalksS prog w A.in1 I [I,l] [I] (fun a b=>b=a) items.size (fun i v=>items[items.size-1-i]?=some v) (fun i s=>i<=items.size/\s.heap.IsRevIter I l ((items.size:Int)-1-(i:Int))/\s.heap.IsList l items)}(res:Value)(c₀:Nat)(hst:0<=items.size/\s.heap.IsRevIter I l ((items.size:Int)-1-((0:Nat):Int))/\s.heap.IsList l items)(hSf:S∉[I,l])
  (hS:s.heap.get? S=some { cls:=.type "list",data:=.seq #[] c₀ }) (hn:items.size<=sizeLine)
  (hR:∀s' acc' c',Moved [S,I] (fun a b=>b=a) s s'->s'.heap.get? S=some { cls:=.type "list",dict:=none,data:=.seq acc' c',slots:=#[] }->ItemsOf (fun i v=>items[items.size-1-i]?=some v) acc' items.size->R (.ok (.ret res)) s') :
  wpAny (model prog w) A.in1 (Builtin.List.listExtendWith (.ref S) (.ref I) res)
   (fun fin s'=>match fin with|.done f=>R (.ok f) s'|.again c'=>c'.quiet=true/\codeAny (model prog w) A c' R s') (fun e s'=>R (.error e) s') s:=by
 have hSI:S≠I:=fun e=>hSf (by simp[e]);have T:s.TypeIs (.ref I) "list_reverseiterator":=hst.2.1.typeIs;unfold Builtin.List.listExtendWith;refine Q0 (wpAny_typeOf T ?_);have h1:Builtin.List.listSameRef (.ref S) (.ref I)=false:=by simp[Builtin.List.listSameRef,hSI]
 have h2:(Value.type "list_reverseiterator" == Value.type "list")=false:=by decide
 have h3:(Value.type "list_reverseiterator" == Value.type "tuple")=false:=by decide
 simp only[h1,h2,h3,Bool.or_false,Qx,if_false];refine Q0 (W.self 0 _ _ _ hst ?_);refine Q0 (wpAny_holding (zH T ?_));split
 ·rename_i hx;exact absurd hx (by with_unfolding_all decide)
 exact Q5 ⟨plainId_quiet PySem.F.plain_extend_loop _,codeAny_extend_loopS W hn _ hSf _ items.size 0 _ _ _ rfl (ZQ _) hst hS (ItemsOf.nil _) fun s' acc' c' hm hS' hacc=>hR s' acc' c' hm hS' hacc⟩
end
section
variable{prog:Program}{w:World}{A:Around}{E:Value->Shared->Prop}{s:Shared}{R:Result->Shared->Prop}{I l S:Addr}{items:Array Value}
abbrev GR(I l:Addr)(items:Array Value):Nat->Shared->Prop:=fun i s=>i<=items.size/\s.heap.IsRevIter I l ((items.size:Int)-1-(i:Int))/\s.heap.IsList l items
theorem zF{W:WalksS prog w A.in1 I [I,l] [I] (fun a b=>b=a) items.size (fun i v=>items[items.size-1-i]?=some v) (GR I l items)}(hst:GR I l items 0 s)(hSf:S∉[I,l])
  (hS:s.heap.get? S=some { cls:=.type "list",data:=.seq #[] }) (hn:items.size<=sizeLine)
  (hR:∀s' acc' c',Moved [S,I] (fun a b=>b=a) s s'->s'.heap.get? S=some { cls:=.type "list",dict:=none,data:=.seq acc' c',slots:=#[] }->ItemsOf (fun i v=>items[items.size-1-i]?=some v) acc' items.size->R (.ok (.ret .none)) s') :
  wpAny (model prog w) A.in1 (Builtin.«list.__init__» ⟨[.ref S,.ref I],[]⟩)
   (fun fin s'=>match fin with|.done f=>R (.ok f) s'|.again c'=>c'.quiet=true/\codeAny (model prog w) A c' R s') (fun e s'=>R (.error e) s') s:=by
 show wpAny _ A.in1 (do let old <-Builtin.List.listItems (.ref S);Builtin.List.listUpdate (.ref S) (fun _=>#[]);letGo old.toList.reverse;Builtin.List.listExtendWith (.ref S) (.ref I) .none) _ _ s;refine Q0 ?_;unfold Builtin.List.listItems;refine Q0 (wpAny_seqItems hS rfl (Q5 ?_));show wpAny _ A.in1 (updateSeq S (fun _=>#[]) >>= fun _=>letGo (#[]:Array Value).toList.reverse >>= fun _=>Builtin.List.listExtendWith (.ref S) (.ref I) .none) _ _ s;refine Q0 (wpAny_updateSeq hS rfl ?_);have hS₂:=ZT (Obj.mapSeq (fun _=>(#[]:Array Value))) hS rfl;have oth:∀b o,b≠S->s.heap.get? b=some o->(s.heap.update S (Obj.mapSeq (fun _=>(#[]:Array Value)))).get? b=some o:=
  fun b o hb e=>(Zv _ _ (Ne.symm hb)).trans e
 refine Q0 (wpAny_letGo ?_);refine Dk (W:=W) .none _ (W.frame 0 s _ s.toks hst (QJ _) fun b hb o e=>oth b o (fun h=>hSf (h▸hb)) e) hSf hS₂ hn fun s' acc' c' hm hS' hacc=>?_;have hm0:Moved [S,I] (fun a b=>b=a) s { s with heap:=s.heap.update S (Obj.mapSeq (fun _=>(#[]:Array Value))) }:=⟨fun b o hb e=>oth b o (fun h=>hb (by simp[h])) e,rfl,rfl,rfl,QJ _⟩;exact hR s' acc' c' (Moved.trans W.gtrans hm0 hm) hS' hacc
theorem zv{Q:Value->Shared->Prop}(hh:A.handled=none)(ne:l≠I)(hi:s.heap.IsRevIter I l ((items.size:Int)-1))(hl:s.heap.IsList l items)(hn:items.size<=sizeLine)
  (q:∀s' c',Moved [s.heap.objs.size,I] (fun a b=>b=a) { s with heap:=s.heap.push { cls:=.type "list",data:=.seq #[] } } s'->s'.heap.get? s.heap.objs.size=some { cls:=.type "list",dict:=none,data:=.seq items.reverse c',slots:=#[] }->Q (.ref s.heap.objs.size) s') :
  wpAny (model prog w) A (call (.type "list") [.ref I]) Q E s:=by
 have li:I<s.heap.objs.size:=by obtain⟨o,e,_⟩:=hi;exact QX e
 have ll:l<s.heap.objs.size:=by obtain⟨o,e,_⟩:=hl;exact QX e
 have W:WalksS prog w A.in1.in1 I [I,l] [I] (fun a b=>b=a) items.size (fun i v=>items[items.size-1-i]?=some v) (GR I l items):=(Walks.listRev (A:=A.in1.in1) hh I l ne items).toS;refine callType_codes (Q₁:=fun obj s₁=>obj=.ref s.heap.objs.size/\s₁={ s with heap:=s.heap.push { cls:=.type "list",data:=.seq #[] } }) PySem.F.called_list (PySem.F.typeCall_list_1 _) PySem.F.entry_list_init
  (code_list_new _ ⟨rfl,rfl⟩) fun obj s₁ h₁=>?_
 obtain⟨rfl,rfl⟩:=h₁;have hS:(s.heap.push { cls:=.type "list",data:=.seq #[] }).get? s.heap.objs.size=some { cls:=.type "list",data:=.seq #[] }:=QY _ rfl;have nS:s.heap.objs.size∉[I,l]:=fun h=>by
  simp only[QH,ZV,or_false]at h;rcases h with h|h
  ·exact absurd h (Zz li)
  ·exact absurd h (Zz ll)
 have hst:GR I l items 0 s:=⟨ZQ _,by simpa using hi,hl⟩;refine⟨⟨_,hS,rfl⟩,PySem.F.args_list_init_2 _ _,zF (W:=W) (W.frame 0 s _ s.toks hst (QJ _) fun b _ o e=>Q3 _ e) nS hS hn fun s' acc' c' hm hS' hacc=>?_⟩;refine⟨rfl,q s' c' hm ?_⟩;have e:acc'=items.reverse:=by
  refine Array.ext (by rw[hacc.1];simp) fun i h1 h2=>?_;have this:items[items.size-1-i]?=some acc'[i]:=hacc.2 i _ (QR h1);rw[Zk]at this;obtain⟨_,e⟩:=this;rw[<-e,Array.getElem_reverse]
 rw[<-e];exact hS'
end
section
variable{X:Cx}{pos pos2:Pos}
theorem mX:bootBuiltins "reversed"=some (.type "reversed"):=rfl
def tLR(te:TA):TE:=fun σ H Q=>te σ H fun vs H2=>∃(a:Addr) (xs:List V),vs=[.ref a]/\H2 a=some (.lst xs)/\∀p,H2 p=none->Q (.ref p) (upd H2 p (.lst xs.reverse))
theorem pB{p p2:Pos}{a:Expr}{ta:TA}(hcm:X.calm=true)(hgL:L2.Gl X "list")(hmL:X.mg "list"=none)(hg:L2.Gl X "reversed")(hm:X.mg "reversed"=none)(ha:WA X [a] ta)
  (hs:starEach [a] X.env=(false,eval a X.env)::starEach [] X.env:=by rfl) (hpl:(backTo pos2 (starEach [] X.env)).any (·.1)=false:=by rfl)
  (he:starEach [.Call (.Name "reversed" p2) [a] [] pos2] X.env=(false,eval (.Call (.Name "reversed" p2) [a] [] pos2) X.env)::starEach [] X.env:=by rfl) (hpl2:(backTo pos (starEach [] X.env)).any (·.1)=false:=by rfl) :
  WE X (.Call (.Name "list" p) [.Call (.Name "reversed" p2) [a] [] pos2] [] pos) (tLR ta):=by
 constructor;intro pins s σ H Q I h;refine wpAny_Call_Name_kw (fq I hgL hmL OG.cg ?_);refine PyProof.Rows.callWith_type1 ?_ he hpl2;rw[he];show wpAny _ _ (spliced ((false,eval _ X.env)::backTo pos (starEach [] X.env))) _ _ s;refine Calls.spliced_cons ?_;refine wpAny_Call_Name_kw (fq I hg hm mX ?_);refine PyProof.Rows.callWith_type1 (thn (ha.h pos2 pins s σ H _ I h) fun us s1 hz=>?_) hs hpl;obtain⟨vs,H1,I1,r1,q1⟩:=hz;obtain⟨aa,xs,rfl,hx,q⟩:=q1;obtain⟨u,rfl,ru⟩:=r1.one;cases ru;obtain⟨z,its,n,r,hl,e⟩:=I1.lstM hx;have hL:s1.heap.IsList aa its.toArray:=⟨_,e,rfl,n,rfl⟩;refine call_reversed_list hL ?_;refine Calls.spliced_nil ?_;have la:aa<s1.heap.objs.size:=QX e;have sz:(s1.heap.push (revObj aa ((its.toArray.size:Int)-1))).objs.size=s1.heap.objs.size+1:=ZL ..;refine zv (s:={ s1 with heap:=s1.heap.push (revObj aa ((its.toArray.size:Int)-1)) }) (items:=its.toArray) (l:=aa) (I1.ok.hd hcm) (QL la) ⟨_,QY _ rfl,rfl,rfl⟩ (Heap.IsList.at hL fun o g=>Q3 _ g) (by simp;omega) fun s' c' mv gl=>?_;obtain⟨h',g',d',tk,os'⟩:=s';obtain⟨mh,rfl,rfl,rfl,mt⟩:=mv;dsimp only at mh mt gl ⊢;rw[sz]at mh gl ⊢;have keep:∀b o,s1.heap.get? b=some o->h'.get? b=some o:=fun b o g=>mh b o (fun hb=>by
  have lt:=QX g;simp only[QH,ZV,or_false]at hb;rcases hb with hb|hb
  ·exact absurd hb (QL (Zm lt))
  ·exact absurd hb (QL lt)) (Q3 _ (Q3 _ g))
 refine⟨.ref _,_,I1.laid (t':=tk) (o:=.lst xs.reverse) keep (X7 _) ?_,rfl,q _ (I1.hok.fresh (X7 _))⟩;refine⟨by simp;omega,_,c',lX r,?_⟩;rw[gl];simp
def jC(ca:CE):CE:=fun ρ S=>(ca ρ S).bind fun p=>match p.1 with
 |.ref l=>match p.2[l]? with
  |some (.lst us)=>some (.ref p.2.length,p.2++[.lst us.reverse])
  |_=>none
 |_=>none
theorem ve{p p2:Pos}{a:Expr}{ca:CE}(hcm:X.calm=true)(hgL:L2.Gl X "list")(hmL:X.mg "list"=none)(hg:L2.Gl X "reversed")(hm:X.mg "reversed"=none)(ha:QE X a ca)
  (hs:starEach [a] X.env=(false,eval a X.env)::starEach [] X.env:=by rfl) (hpl:(backTo pos2 (starEach [] X.env)).any (·.1)=false:=by rfl)
  (he:starEach [.Call (.Name "reversed" p2) [a] [] pos2] X.env=(false,eval (.Call (.Name "reversed" p2) [a] [] pos2) X.env)::starEach [] X.env:=by rfl) (hpl2:(backTo pos (starEach [] X.env)).any (·.1)=false:=by rfl) :
  QE X (.Call (.Name "list" p) [.Call (.Name "reversed" p2) [a] [] pos2] [] pos) (jC ca):=
 (pB hcm hgL hmL hg hm (bS ha ej hs) hs hpl he hpl2).imp fun σ H Q hz=>iA hz fun m ρ S u S' sr lr hc post=>by
  obtain⟨⟨x,S1⟩,h1,h⟩:=Q2.mp hc;refine⟨m,ρ,S,x,S1,sr,lr,h1,fun m1 v1 H1 e1 sr1 i1=>?_⟩;cases x with
  |ref l=>
   simp only at h;split at h<;>try cases h
   rename_i us hS;obtain⟨a1,ha1,rfl⟩:=i1.of_ref;obtain⟨a',ha',xs,hx,la⟩:=sr1.get hS;rw[ha1]at ha';cases ha';refine⟨a1,xs,rfl,hx,fun p hp=>?_⟩;have en:Ext X.K m1 H1 (m1++[p]) (upd H1 p (.lst xs.reverse)):=.new (bc hp _);exact post (m1++[p]) _ _ (e1.trans en) (sr1.new hp ⟨xs.reverse,aF,la.rev.mono en⟩) (.ref_ (b6 sr1.len))
  |_=>cases h
end
end OP
namespace OP
open PySem PySem.Spec PyProof.Rows L2 OG
section
variable{P:Program}{w:World}{K:Q4}{h base:Heap}{mg:Str->Option Value}{x q:Str}{st:Stmt}{f:Addr}{oc:Value}{od an:Option Addr}{osl:Array (Option Value)}{kV doc pm cdv ct:Value}{ps:List Str}{k:Nat}{c:CS}
def Ke(K:Q4)(x q:Str)(st:Stmt)(f:Addr):Prop:=∃fd,Fun K x q st f fd
abbrev fAt(x q:Str)(st:Stmt)(oc:Value)(od an:Option Addr)(osl:Array (Option Value))(kV doc pm cdv ct:Value):Obj:=⟨oc,od,.func (PySem.W.fnOf x q (gk st) (dj st) (aC st) .none kV doc pm an cdv ct),osl⟩
def GJ(K:Q4)(x:Str)(st:Stmt):Prop:=∃f,PySem.W.nsIn K mainGlobals x=some (some (.ref f))/\Ke K x x st f
theorem J6(a:PySem.W.nsIn K mainGlobals x=some (some (.ref f)))(l:K.lookup f=some (fAt x x st oc od an osl kV doc pm cdv ct))(c:PySem.W.codeIn K cdv x=true)(k:PySem.W.keepIn K (.ref f)=true):GJ K x st:=⟨f,a,_,Gq l c k⟩
def GI(K:Q4):List (Str×Stmt)->Prop
 |[]=>True
 |(x,st)::r=>GJ K x st/\GI K r
def DO(K:Q4):List Str->Prop
 |[]=>True
 |x::r=>PySem.W.nsIn K mainGlobals x=some none/\DO K r
abbrev Bd(x q:Str)(st:Stmt)(ps:List Str):Prop:=∀us:List Value,us.length=ps.length->∀(kV doc pm:Value) (an:Option Addr) (cdv ct:Value),bindArgs (PySem.W.fnOf x q (gk st) (dj st) (aC st) .none kV doc pm an cdv ct) ⟨us,[]⟩=pure (ps.zip us)
theorem GJ.df(d:GJ K x st)(X:K.In h)(G:h.Ns mainGlobals mg)(b:Bd x x st ps:=by first|exact JH fun _ _ _ _ _ _=>rfl|(repeat (first|exact JH fun _ _ _ _ _ _=>rfl|refine Ka fun _=>?_))):Def K mg x st ps:=by
 obtain⟨f,a,fd,F⟩:=d;exact⟨f,fd,F,F.binds fun kV doc pm an cdv ct us hl=>b us hl kV doc pm an cdv ct,PySem.W.mg_of X G a⟩
def JI:List Str:=["len","isinstance","int","bool","str","tuple","list","range","min","sum","all","zip","sorted","dict","enumerate","any","max","set"]
theorem DO.blt(z:DO K JI)(X:K.In h)(G:h.Ns mainGlobals mg):Blt mg:=by
 obtain⟨a,b,c,d,e,f,g,i,j,k,l,m,n,o,p,q,r,s,-⟩:=z;constructor<;>(refine PySem.W.mg_none_of X G ?_;assumption)
theorem F3{sp:Sp}{fa:Addr}(d:GJ K "law" st)(X:K.In h)(G:h.Ns mainGlobals mg)(hfa:mg "law"=some (.ref fa))(ok:∀fd,Fun K "law" "law" st fa fd->∀base:Heap,pd P w K mg base CX0 k fa fd ["script"] sp)
  (b:∀(kV doc pm:Value) (an:Option Addr) (cdv ct v:Value),bindArgs (PySem.W.fnOf "law" "law" (gk st) (dj st) (aC st) .none kV doc pm an cdv ct) ⟨[v],[]⟩=pure [(("script":Str),v)]:=by intros;rfl) :
  ∃fd:FuncData,(∀(s:Shared) (v:Value),BindsTo s fd ⟨[v],[]⟩ [("script",v)])/\∀base:Heap,K.In base->base.Ns mainGlobals mg->pd P w K mg base CX0 k fa fd ["script"] sp:=by
 obtain⟨f,a,fd,F⟩:=d;cases hfa.symm.trans (PySem.W.mg_of X G a);refine⟨fd,fun s v=>?_,fun base _ _=>ok fd F base⟩;obtain⟨oc,od,kV,doc,pm,an,cdv,ct,osl,rfl,lk,hcd⟩:=F.ex;exact .of_eq (b kV doc pm an cdv ct v)
theorem J9{i:Int}{t:Tok}(X:K.In h)(G:h.Ns mainGlobals mg)(a:PySem.W.nsIn K mainGlobals x=some (some (.int i t))):∃t,mg x=some (.int i t):=⟨_,PySem.W.mg_of X G a⟩
end
end OP
namespace OP
open PySem PySem.Spec PyProof PyProof.Rows L2 OG PySem.W
structure ng(mg:Str->Option Value):Prop extends Blt mg where
 reversed:mg "reversed"=none
def bltR:List Str:="reversed"::JI
theorem DO.bltR{K:Q4}{h:Heap}{mg:Str->Option Value}(z:DO K bltR)(X:K.In h)(G:h.Ns mainGlobals mg):ng mg:=⟨DO.blt z.2 X G,PySem.W.mg_none_of X G z.1⟩
end OP
namespace OQ
open PySem PySem.Spec PyProof.Rows L2 OG OP
def bR:CS:=
 (lP (aL (cOp (fIn false) (ao 4) (ao 0))) (cm 3 (ao 4)) d5)
def cK:CS:=
 (bq (cm 3 (cC (.int (-1))))
  (bq (iH (iTp (cSl (ao 1) none (some (cBM aP (ao 1) (ag (ao 2) aB))))) (gNm 4) (bR ))
  (fS (ao 3))))
theorem oG{a0 a1 a2:U}{S:Sto}:fnU 5 3 (cK ) [a0,a1,a2] S=((cK ) [some a0,some a1,some a2,none,none] S).bind kFn:=nu rfl
def cH(bH:Fn):CS:=
 (fS (d7 (iTp (cOp fIx (ao 0) (cC (.int 3)))) (gNm 0) (cCB bH (ag (cOp fIx (cOp fIx (ao 2) (cC (.int 2))) (cOp fIx (ao 0) (cC (.int 1)))) (ag (ao 1) (ag (cOp fIx (ao 0) (cC (.int 0))) aB)))) 1 [1,0]))
theorem oE{bH:Fn}{a0 a1:U}{S:Sto}:fnU 2 2 (cH bH) [a0,a1] S=((cH bH) [some a0,some a1] S).bind kFn:=nu rfl
def cU:CS:=
 (bq (cm 3 (cOp tq (cOp dF (cOp dF (cOp dF (cOp ju (ao 3) (ao 3)) (cOp ju (cC (.int 50021)) (ao 3))) (cOp ju (cC (.int 19)) (ao 5))) (cC (.int 7))) (cC (.int 2147483563))))
  (cm 4 (cOp dF (cOp ju (ao 4) (cC (.int 2147483563))) (ao 3))))
def cu:CS:=
 (bq (cm 2 (cOp dF (cOp ju (cC (.int 5)) (ao 1)) (cC (.int 3))))
  (bq (lP (aL (cOp fLt (ao 1) (cCB lK (ag (ao 0) aB)))) (cm 2 (cOp fIx (ao 0) (ao 1))) d5)
  (bq (lP (aL (cOp fEq (cOp tq (ao 2) (cC (.int 2))) (cC (.int 0)))) (fS (fN (ag (cOp AR (ao 2) (cC (.int 2))) aB))) d5)
  (bq (cm 3 (cOp tq (cOp dF (cOp dF (cOp ju (ao 2) (cC (.int 30011))) (cOp ju (cC (.int 977)) (ao 1))) (cC (.int 41))) (cC (.int 2147483563))))
  (bq (cm 4 (cC (.int 0)))
  (bq (iH (bW (ag (cC (.int 60)) aB)) (gNm 5) (cU ))
  (fS (fN (ag (ao 4) aB)))))))))
theorem p7{a0 a1:U}{S:Sto}:fnU 6 2 (cu ) [a0,a1] S=((cu ) [some a0,some a1,none,none,none,none] S).bind kFn:=nu rfl
def dZ:CS:=
 (bq (cm 2 (cOp tq (cOp fIx (ao 0) (cC (.int 0))) (ao 1)))
  (bq (oR (ao 0) (cC (.int 0)) (cOp AR (cOp fIx (ao 0) (cC (.int 0))) (ao 1)))
  (fS (ao 2))))
theorem tx{a0 a1:U}{S:Sto}:fnU 3 2 (dZ ) [a0,a1] S=((dZ ) [some a0,some a1,none] S).bind kFn:=nu rfl
def dP(ax:Fn)(fuel:Nat):CS:=
 (bq (cm 4 (cCB ax (ag (ao 0) (ag (cCB lK (ag (ao 2) aB)) aB))))
  (iC (cBM cq (ao 3) (ag (cBM lJ (ao 2) (ag (ao 4) aB)) aB))))
def cL(ax:Fn)(fuel:Nat):CS:=
 (bq (cm 2 (c0 (ag (ao 1) aB)))
  (bq (cm 3 (fN aB))
  (bq (bZ (aL (cOp (nk true) (ao 2) (fN aB))) (dP ax fuel) fuel)
  (fS (ao 3)))))
theorem oH{ax:Fn}{fuel:Nat}{a0 a1:U}{S:Sto}:fnU 5 2 (cL ax fuel) [a0,a1] S=((cL ax fuel) [some a0,some a1,none,none,none] S).bind kFn:=nu rfl
def cX(ax aJ:Fn):CS:=
 (bq (cm 6 (aW (iTp (ao 3)) (gNm 0) (aL (cOp fLt (cCB ax (ag (ao 1) (ag (cC (.int 5)) aB))) (cC (.int 2)))) (ao 0) 1 [0]))
  (iC (cBM cq (ao 4) (ag (cCB eR (ag (cOp DU (ao 6) (cOp IV (cC (.int 1)) (cOp ju (cC (.int 2)) (cCB Gw (ag (cOp fEq (cCB ax (ag (ao 0) (ag (cC (.int 7)) aB))) (cC (.int 0))) aB))))) aB)) aB))))
def cW(ax aJ:Fn):CS:=
 (bq (cm 9 (cCB ax (ag (ao 0) (ag (ao 2) aB))))
  (bq (cm 5 (cCB ax (ag (ao 0) (ag (cCB lK (ag (ao 4) aB)) aB))))
  (bq (cm 6 (cOp dF (fN (ag (rP (cC (.int 1))) aB)) (aW (iTp (cOp fIx (ao 4) (ao 5))) (gNm 0) (aL (cOp fNe (ao 0) (ao 1))) (ao 0) 1 [9])))
  (bq (cm 10 (cOp dF (fN (ag (rP (cC (.int 1))) aB)) (aW (iTp (cSl (ao 6) (some (cC (.int 1))) none)) (gNm 0) (aL (cOp fLt (cBM aP (ao 2) (ag (ao 0) aB)) (cBM aP (ao 2) (ag (ao 1) aB)))) (ao 0) 1 [9,3])))
  (gv (ao 7) (ag (ao 9) (ag (ao 5) aB)) (cOp fIx (fN (ag (cOp fIx (ao 10) (rP (cC (.int 1)))) (ag (cOp fIx (ao 6) (cCB ax (ag (ao 0) (ag (cCB lK (ag (ao 6) aB)) aB)))) aB))) (cCB Gw (ag (cOp fEq (cCB ax (ag (ao 0) (ag (cC (.int 5)) aB))) (cC (.int 0))) aB))))))))
def ck(ax aJ:Fn):CS:=
 (bq (cm 9 (cCB ax (ag (ao 0) (ag (ao 2) aB))))
  (bq (cm 12 (cCB ax (ag (ao 0) (ag (ao 2) aB))))
  (lP (DG (aL (cOp fNe (ao 9) (ao 12))) (cOr (aL (cOp fLt (cBM aP (ao 3) (ag (ao 9) aB)) (cBM aP (ao 3) (ag (ao 12) aB)))) (aL (cOp fEq (cCB ax (ag (ao 0) (ag (cC (.int 6)) aB))) (cC (.int 0)))))) (gv (ao 11) (ag (ao 9) (ag (ao 12) aB)) (cC (.bl true))) d5)))
def dq(ax aJ:Fn):CS:=
 (bq (cm 2 (cOp dF (cC (.int 1)) (cCB ax (ag (ao 0) (ag (ao 1) aB)))))
  (bq (cm 3 (cCB aJ (ag (ao 0) (ag (ao 2) aB))))
  (bq (cm 4 (fN aB))
  (bq (iH (bW (ag (cOp dF (cC (.int 1)) (cCB ax (ag (ao 0) (ag (cOp fIx (fN (ag (cC (.int 3)) (ag (cC (.int 3)) (ag (cC (.int 6)) aB)))) (cCB ax (ag (ao 0) (ag (cC (.int 3)) aB)))) aB)))) aB)) (gNm 5) (cX ax aJ))
  (bq (cm 7 xn)
  (bq (iH (bW (ag (cCB ax (ag (ao 0) (ag (cOp dF (cOp ju (cC (.int 2)) (ao 2)) (cC (.int 1))) aB))) aB)) (gNm 8) (cW ax aJ))
  (bq (cm 11 xn)
  (bq (iH (bW (ag (cCB ax (ag (ao 0) (ag (cOp dF (ao 2) (cC (.int 1))) aB))) aB)) (gNm 8) (ck ax aJ))
  (fS (xm (ag (ao 2) (ag (cCB eR (ag (cCB cw (ag (ao 11) aB)) aB)) (ag (cCB eR (ag (ao 4) aB)) (ag (cCB eR (ag (cCB cw (ag (rQ (ao 7) (gNm 0) (cOp dF (ao 0) (xm (ag (cOp Di (ao 1) (ao 0)) aB))) 1 [7]) aB)) aB)) aB))))))))))))))
theorem p9{ax aJ:Fn}{a0 a1:U}{S:Sto}:fnU 13 2 (dq ax aJ) [a0,a1] S=((dq ax aJ) [some a0,some a1,none,none,none,none,none,none,none,none,none,none,none] S).bind kFn:=nu rfl
def cV:CS:=
 (bq (cm 6 (aW (iTp (cSl (ao 1) none (some (cBM aP (ao 1) (ag (ao 3) aB))))) (gNm 0) (aL (cOp (fIn false) (ao 0) (cOp fIx (cOp fIx (ao 2) (cC (.int 2))) (ao 1)))) (ao 0) 1 [4,0]))
  (iC (cBM cq (ao 2) (ag (cOp fIx (cOp dF (fN (ag (rP (cC (.int 1))) aB)) (ao 6)) (rP (cC (.int 1)))) aB))))
def dk:CS:=
 (bq (cm 2 (fN aB))
  (bq (iH (iTp (cOp fIx (ao 0) (cC (.int 3)))) (gTp [3,4,5]) (cV ))
  (fS (ao 2))))
theorem p8{a0 a1:U}{S:Sto}:fnU 7 2 (dk ) [a0,a1] S=((dk ) [some a0,some a1,none,none,none,none,none] S).bind kFn:=nu rfl
def dY:CS:=
 (fS (z0 (GD .int (ao 0)) (zZ (GD .bool (ao 0)))))
theorem tw{a0:U}{S:Sto}:fnU 1 1 (dY ) [a0] S=((dY ) [some a0] S).bind kFn:=nu rfl
def bN:CS:=
 (bq (cm 3 (cCB kj (ag (ao 0) aB)))
  (bq (cm 4 (fN aB))
  (bq (lP (aL (cOp (fIn false) (ao 2) (ao 0))) (bq (cm 3 (cSl (ao 3) (some (cOp dF (cBM aP (ao 3) (ag (ao 2) aB)) (cC (.int 1)))) none))
  (iC (cBM cq (ao 4) (ag (xm (ag (ao 2) (ag (ao 1) aB))) aB)))) d5)
  (bq (lP (DG (aL (cOp fGt (cCB lK (ag (ao 3) aB)) (cC (.int 0)))) (aL (cOp fNe (cOp fIx (ao 3) (cC (.int 0))) (ao 1)))) (iC (cBM cq (ao 4) (ag (xm (ag (ao 1) (ag (cOp fIx (ao 3) (cC (.int 0))) aB))) aB))) d5)
  (fS (ao 4))))))
theorem kq{a0 a1 a2:U}{S:Sto}:fnU 5 3 (bN ) [a0,a1,a2] S=((bN ) [some a0,some a1,some a2,none,none] S).bind kFn:=nu rfl
def oY(aG:Fn):CS:=
 (iC (cBM dM (ao 1) (ag (jB (ao 2) (GC (ao 2) (some (cC (.int 1))) none)) aB)))
def oX(aG:Fn):CS:=
 (iC (cBM dM (ao 1) (ag (cCB aG (ag (cOp fIx (cOp fIx (ao 0) (cC (.int 2))) (cOp fIx (ao 3) (cC (.int 1)))) (ag (cOp fIx (ao 3) (cC (.int 0))) (ag (cOp fIx (ao 3) (cC (.int 2))) aB)))) aB)))
def kC(aG:Fn):CS:=
 (bq (cm 1 (cCB kj (ag (cOp fIx (ao 0) (cC (.int 1))) aB)))
  (bq (iH (iTp (cOp fIx (ao 0) (cC (.int 2)))) (gNm 2) (oY aG))
  (bq (iH (iTp (cOp fIx (ao 0) (cC (.int 3)))) (gNm 3) (oX aG))
  (fS (fM (ao 1))))))
theorem Dr{aG:Fn}{a0:U}{S:Sto}:fnU 4 1 (kC aG) [a0] S=((kC aG) [some a0,none,none,none] S).bind kFn:=nu rfl
def bO(aN aM:Fn):CS:=
 (bq (lP (cOr (DV (aL (cCB xS (ag (d7 (iTp (ao 1)) (gNm 0) (cCB aN (ag (ao 0) aB)) 1 []) aB)))) (aL (cOp (nk true) (cCB ki (ag (ao 1) aB)) (c0 (ag (cOp fIx (ao 0) (cC (.int 0))) aB))))) (fS (cC (.bl false))) d5)
  (fS (cCB xS (ag (d7 (iTp (cCB aM (ag (ao 0) aB))) (gTp [0,1]) (cOp fLt (cBM aP (ao 2) (ag (ao 0) aB)) (cBM aP (ao 2) (ag (ao 1) aB))) 2 [1]) aB))))
theorem kr{aN aM:Fn}{a0 a1:U}{S:Sto}:fnU 2 2 (bO aN aM) [a0,a1] S=((bO aN aM) [some a0,some a1] S).bind kFn:=nu rfl
def fA(aN aM:Fn):CS:=
 (bq (lP (cOr (DV (aL (cCB xS (ag (d7 (iTp (ao 1)) (gNm 0) (cCB aN (ag (ao 0) aB)) 1 []) aB)))) (cOr (aL (cOp fLt (cCB lK (ag (ao 1) aB)) (cC (.int 2)))) (aL (cOp fNe (mW (ao 1)) (cCB lK (ag (ao 1) aB)))))) (fS (cC (.bl false))) d5)
  (bq (cm 2 (cCB aM (ag (ao 0) aB)))
  (fS (cCB xS (ag (d7 (GW (ao 1) (cOp dF (cSl (ao 1) (some (cC (.int 1))) none) (cSl (ao 1) none (some (cC (.int 1)))))) (gNm 0) (cOp (AQ false) (ao 0) (ao 1)) 1 [2]) aB)))))
theorem wQ{aN aM:Fn}{a0 a1:U}{S:Sto}:fnU 3 2 (fA aN aM) [a0,a1] S=((fA aN aM) [some a0,some a1,none] S).bind kFn:=nu rfl
def bV(aM:Fn):CS:=
 (oR (ao 1) (ao 2) (fN aB))
def cQ(aM:Fn):CS:=
 (iC (cBM cq (cOp fIx (ao 1) (ao 4)) (ag (ao 3) aB)))
def bQ(aM:Fn):CS:=
 (bq (cm 1 DD)
  (bq (iH (bW (ag (cOp fIx (ao 0) (cC (.int 0))) aB)) (gNm 2) (bV aM))
  (bq (iH (iTp (cCB aM (ag (ao 0) aB))) (gTp [3,4]) (cQ aM))
  (fS (ao 1)))))
theorem kQ{aM:Fn}{a0:U}{S:Sto}:fnU 5 1 (bQ aM) [a0] S=((bQ aM) [some a0,none,none,none,none] S).bind kFn:=nu rfl
def fW(fuel:Nat):CS:=
 (bq (cm 3 (cOp fIx (aW (iTp (cOp fIx (ao 0) (cOp fIx (ao 2) (rP (cC (.int 1)))))) (gNm 0) (aL (cOp (fIn false) (ao 0) (ao 1))) (ao 0) 1 [1]) (cC (.int 0))))
  (bq (lP (aL (cOp (fIn false) (ao 3) (ao 2))) (bq (cm 4 (cSl (ao 2) (some (cBM aP (ao 2) (ag (ao 3) aB))) none))
  (fS (jC (ao 4)))) d5)
  (iC (cBM cq (ao 2) (ag (ao 3) aB)))))
def cI(fuel:Nat):CS:=
 (bq (cm 2 (fN (ag (cOp fIx (ao 1) (cC (.int 0))) aB)))
  (bZ (aL (cC (.bl true))) (fW fuel) fuel))
theorem oF{fuel:Nat}{a0 a1:U}{S:Sto}:fnU 5 2 (cI fuel) [a0,a1] S=((cI fuel) [some a0,some a1,none,none,none] S).bind kFn:=nu rfl
def d9(aQ bh:Fn)(fuel:Nat):CS:=
 (bq (cm 4 (aW (iTp (ao 3)) (gNm 0) (DV (aL (cCB Gx (ag (d7 (iTp (cOp fIx (ao 2) (ao 0))) (gNm 0) (cOp (fIn false) (ao 0) (ao 1)) 1 [1]) aB)))) (ao 0) 1 [3,1]))
  (bq (lP (aL (cOp fEq (cCB lK (ag (ao 4) aB)) (cC (.int 0)))) (fS (xm (ag (cC (.str "ring")) (ag (cCB bh (ag (ao 1) (ag (ao 3) aB))) aB)))) d5)
  (bq (iC (cBM dM (ao 2) (ag (ao 4) aB)))
  (cm 3 (aW (iTp (ao 3)) (gNm 0) (aL (cOp (fIn true) (ao 0) (ao 1))) (ao 0) 1 [4])))))
def bM(aQ bh:Fn)(fuel:Nat):CS:=
 (bq (cm 1 (cCB aQ (ag (ao 0) aB)))
  (bq (cm 2 (fN aB))
  (bq (cm 3 (cCB oD (ag (ao 1) aB)))
  (bq (bZ (aL (cOp fGt (cCB lK (ag (ao 3) aB)) (cC (.int 0)))) (d9 aQ bh fuel) fuel)
  (fS (xm (ag (cC (.str "order")) (ag (ao 2) aB))))))))
theorem ko{aQ bh:Fn}{fuel:Nat}{a0:U}{S:Sto}:fnU 5 1 (bM aQ bh fuel) [a0] S=((bM aQ bh fuel) [some a0,none,none,none,none] S).bind kFn:=nu rfl
def fC:CS:=
 (iC (cBM dM (ao 3) (ag (d7 (bW (ag (cOp dF (cCB lK (ag (ao 4) aB)) (cC (.int 1))) aB)) (gNm 0) (cOp dF (cOp dF (cSl (ao 1) none (some (ao 0))) (fN (ag (ao 2) aB))) (cSl (ao 1) (some (ao 0)) none)) 1 [4,2]) aB)))
def fB:CS:=
 (bq (cm 3 (fN aB))
  (bq (iH (iTp (ao 1)) (gNm 4) (fC ))
  (cm 1 (ao 3))))
def cf:CS:=
 (bq (cm 1 (fN (ag (fN aB) aB)))
  (bq (iH (bW (ag (ao 0) aB)) (gNm 2) (fB ))
  (fS (ao 1))))
theorem mU{a0:U}{S:Sto}:fnU 5 1 (cf ) [a0] S=((cf ) [some a0,none,none,none,none] S).bind kFn:=nu rfl
def iE(aZ:Fn):CS:=
 (lP (aL (cOp fGt (cBM aP (ao 1) (ag (ao 6) aB)) (cBM aP (ao 1) (ag (ao 7) aB)))) (fS (cC (.bl false))) d5)
def iD(aZ:Fn):CS:=
 (lP (aL (cOp (nk true) (cCB kj (ag (ao 8) aB)) (aW (iTp (ao 1)) (gNm 0) (aL (cOp (fIn false) (ao 0) (ao 1))) (ao 0) 1 [8]))) (fS (cC (.bl false))) d5)
def du(aZ:Fn):CS:=
 (bq (DW (ao 0) (gTp [2,3,4,5]))
  (bq (iH (iTp (ao 3)) (gTp [6,7]) (iE aZ))
  (bq (iH (iTp (ao 4)) (gNm 8) (iD aZ))
  (fS (cOp (nk false) (d7 (iTp (ao 5)) (gNm 0) (cOp fIx (ao 0) (cC (.int 2))) 1 []) (cCB aZ (ag (ao 0) (ag (ao 1) aB))))))))
theorem qb{aZ:Fn}{a0 a1:U}{S:Sto}:fnU 9 2 (du aZ) [a0,a1] S=((du aZ) [some a0,some a1,none,none,none,none,none,none,none] S).bind kFn:=nu rfl
end OQ
namespace OL
open PySem PySem.Spec PyProof.Rows L2 OG OP OQ
def top(i:Nat):Stmt:=PySem.Challenge.pw_oneglance_k30_whole_orders_tell_what_was.main.body.getD i (.Pass ⟨0,0,0,0⟩)
abbrev iK:Stmt:=top 1
abbrev pG:Stmt:=top 3
abbrev dg:Stmt:=top 4
abbrev c8:Stmt:=top 5
abbrev dH:Stmt:=top 6
abbrev fc:Stmt:=top 7
abbrev dh:Stmt:=top 8
abbrev jK:Stmt:=top 9
abbrev fb:Stmt:=top 12
abbrev fe:Stmt:=top 13
abbrev fX:Stmt:=top 15
abbrev iL:Stmt:=top 16
abbrev ff:Stmt:=top 17
abbrev fZ:Stmt:=top 18
abbrev fY:Stmt:=top 19
abbrev eB:Stmt:=top 20
abbrev f6:Stmt:=top 21
abbrev B5:Stmt:=top 22
section
variable{P:Program}{w:World}{K:Q4}{mg:Str->Option Value}{base:Heap}
theorem jI:aX ["thing"] ["thing"] (aC iK):=⟨rfl,rfl,rfl,by decide +kernel,rfl,by decide +kernel,by decide +kernel⟩
theorem sX{k:Nat}(d:Def K mg "is_whole" iK ["thing"])(B:ng mg):eG P w K mg base "is_whole" (k+1) ["thing"] (fnU 1 1 (dY )):=
 d.pure jI fun f cdv A outer s H E hr=>(by
  have hu:=eU hr;have nd:=jI.nd;exact(aD (bp (Fe (Ci (T:=.int) (by intro z;cases z) (ae (wpv 0)) (uk rfl B.int OG.mY) rfl B.isinstance) (HX (Fc (Ci (T:=.bool) (by intro z;cases z) (ae (wpv 0)) (uk rfl B.bool OG.oS) rfl B.isinstance)))))))
theorem eO:aX ["row","a","source","later","found"] ["row","a","source"] (aC dg):=⟨rfl,rfl,rfl,by decide +kernel,rfl,by decide +kernel,by decide +kernel⟩
theorem kb{k:Nat}(d:Def K mg "musts_of_look" dg ["row","a","source"])(B:ng mg):eG P w K mg base "musts_of_look" (k+1) ["row","a","source"] (fnU 5 3 (bN )):=
 d.pure eO fun f cdv A outer s H E hr=>(by
  have hu:=eU hr;have nd:=eO.nd;exact(av (aI (i:=3) nd rfl (by trivial) (bT cG nW rfl B.list OG.cg (ah (ae (wpv 0)) aw)))
   (av (aI (i:=4) nd rfl (by trivial) (dB aw))
   (av (fg (sL hu (ae (wpv 2)) (ae (wpv 0)) (by with_unfolding_all rfl)) (av (aI (i:=3) nd rfl (by trivial) (yJ (ae (wpv 3)) (dI (eV dW dU (cP (ae (wpv 3)) (ah (ae (wpv 2)) aw)) (aE au))) dJ))
   (aD (cN (dD (ae (wpv 4)) (ah (sJ (ah (ae (wpv 2)) (ah (ae (wpv 1)) aw))) aw))))) cx)
   (av (fg (xR (yL (br CP Iq (bo jS jQ rfl B.len PySem.boot_len (ah (ae (wpv 3)) aw)) (aE au) (ba _)) (qW (br pL CL (eC hu (ae (wpv 3)) (aE au) (fun _ _=>rfl) (fun _ _=>rfl)) (ae (wpv 1)) (ba _))))) (aD (cN (dD (ae (wpv 4)) (ah (sJ (ah (ae (wpv 1)) (ah (eC hu (ae (wpv 3)) (aE au) (fun _ _=>rfl) (fun _ _=>rfl)) aw))) aw)))) cx)
   (aD (bp (ae (wpv 4)))))))))
theorem qN:aX ["tale","found","row","look"] ["tale"] (aC pG):=⟨rfl,rfl,rfl,by decide +kernel,rfl,by decide +kernel,by decide +kernel⟩
theorem C9{k:Nat}{aG:Fn}(d:Def K mg "musts" pG ["tale"])(B:ng mg)(dz:eG P w K mg base "musts_of_look" (k) ["row","a","source"] aG):eG P w K mg base "musts" (k+1) ["tale"] (fnU 4 1 (kC aG)):=
 d.pure qN fun f cdv A outer s H E hr=>(by
  have hu:=eU hr;have nd:=qN.nd;exact(av (aI (i:=1) nd rfl (by trivial) (bT cG nW rfl B.list OG.cg (ah (eC hu (ae (wpv 0)) (aE au) (fun _ _=>rfl) (fun _ _=>rfl)) aw)))
   (av (cS PassesOwn.never rfl (bA (eC hu (ae (wpv 0)) (aE au) (fun _ _=>rfl) (fun _ _=>rfl))) (aK (aA (i:=2) nd rfl (by trivial))) (aD (cN (ji (ae (wpv 1)) (ah (vd rfl rfl B.list rfl B.zip (ae (wpv 2)) (HV (ae (wpv 2)) (dI (aE au)) dJ)) aw)))))
   (av (cS PassesOwn.never rfl (bA (eC hu (ae (wpv 0)) (aE au) (fun _ _=>rfl) (fun _ _=>rfl))) (aK (aA (i:=3) nd rfl (by trivial))) (aD (cN (ji (ae (wpv 1)) (ah (aU dz hr rfl (ah (eC hu (eC hu (ae (wpv 0)) (aE au) (fun _ _=>rfl) (fun _ _=>rfl)) (eC hu (ae (wpv 3)) (aE au) (fun _ _=>rfl) (fun _ _=>rfl)) (fun _ _=>rfl) (fun _ _=>rfl)) (ah (eC hu (ae (wpv 3)) (aE au) (fun _ _=>rfl) (fun _ _=>rfl)) (ah (eC hu (ae (wpv 3)) (aE au) (fun _ _=>rfl) (fun _ _=>rfl)) aw)))) aw)))))
   (aD (bp (pJ rfl hr.units rfl B.sorted rfl B.set (ae (wpv 1)))))))))
theorem eZ:aX ["tale","before","a","one","other"] ["tale"] (aC dH):=⟨rfl,rfl,rfl,by decide +kernel,rfl,by decide +kernel,by decide +kernel⟩
theorem kN{k:Nat}{aM:Fn}(d:Def K mg "those_before" dH ["tale"])(B:ng mg)(eI:eG P w K mg base "musts" (k) ["tale"] aM):eG P w K mg base "those_before" (k+1) ["tale"] (fnU 5 1 (bQ aM)):=
 d.pure eZ fun f cdv A outer s H E hr=>(by
  have hu:=eU hr;have nd:=eZ.nd;exact(av (aI (i:=1) nd rfl (by trivial) Fd)
   (av (cS PassesOwn.never rfl (cy rfl B.range (ah (eC hu (ae (wpv 0)) (aE au) (fun _ _=>rfl) (fun _ _=>rfl)) aw)) (aK (aA (i:=2) nd rfl (by trivial))) (aD (qU hu (ae (wpv 1)) (ae (wpv 2)) (dB aw))))
   (av (cS PassesOwn.never rfl (bA (aU eI hr rfl (ah (ae (wpv 0)) aw))) (lA rfl (bu (aA (i:=3) nd rfl (by trivial)) (bu (aA (i:=4) nd rfl (by trivial)) iM))) (aD (cN (dD (eC hu (ae (wpv 1)) (ae (wpv 4)) (fun _ _=>rfl) (fun _ _=>rfl)) (ah (ae (wpv 3)) aw)))))
   (aD (bp (ae (wpv 1))))))))
theorem gO:aX ["before","left","trail","back","ring"] ["before","left"] (aC fc):=⟨rfl,rfl,rfl,by decide +kernel,rfl,by decide +kernel,by decide +kernel⟩
theorem oA{k:Nat}{fuel:Nat}(d:Def K mg "ring_among" fc ["before","left"])(B:ng mg):eG P w K mg base "ring_among" (k+1) ["before","left"] (fnU 5 2 (cI fuel)):=
 d.pure gO fun f cdv A outer s H E hr=>(by
  have hu:=eU hr;have nd:=gO.nd;exact(av (aI (i:=2) nd rfl (by trivial) (dB (ah (eC hu (ae (wpv 1)) (aE au) (fun _ _=>rfl) (fun _ _=>rfl)) aw)))
   (aD (mx fuel PassesOwn.never (lB (tM eK)) (av (aI (i:=3) nd rfl (by trivial) (eC hu (fH (Nc:=["one","left"]) (tn:=["one"]) (capN:=["left"]) (caps:=[1]) rfl (bA (eC hu (ae (wpv 0)) (eC hu (ae (wpv 2)) (sN (aE au)) (fun _ _=>rfl) (fun _ _=>rfl)) (fun _ _=>rfl) (fun _ _=>rfl))) (fun _ _ _=>(aK (aA (i:=0) (show(["one","left"]:List Str).Nodup by decide +kernel) rfl (by trivial)))) (fun _ _ _=>(sL hu (ae (wpv 0)) (ae (wpv 1)) (by with_unfolding_all rfl))) (fun _ _ _=>(ae (wpv 0))) rfl rfl (by decide +kernel) (by decide +kernel) ⟨rfl,trivial⟩ rfl (.cons ⟨rfl,rfl,rfl,_,rfl⟩ .nil) rfl rfl) (aE au) (fun _ _=>rfl) (fun _ _=>rfl)))
   (av (fg (sL hu (ae (wpv 3)) (ae (wpv 2)) (by with_unfolding_all rfl)) (av (aI (i:=4) nd rfl (by trivial) (yJ (ae (wpv 2)) (dI (cP (ae (wpv 2)) (ah (ae (wpv 3)) aw))) dJ))
   (aD (bp (ve rfl rfl B.list rfl B.reversed (ae (wpv 4)))))) cx)
   (aD (cN (dD (ae (wpv 2)) (ah (ae (wpv 3)) aw))))))))))
theorem eN:aX ["tale","before","order","left","free"] ["tale"] (aC c8):=⟨rfl,rfl,rfl,by decide +kernel,rfl,by decide +kernel,by decide +kernel⟩
theorem j9{k:Nat}{aQ bh:Fn}{fuel:Nat}(d:Def K mg "order_or_ring" c8 ["tale"])(B:ng mg)(dR:eG P w K mg base "those_before" (k) ["tale"] aQ)(fE:eG P w K mg base "ring_among" (k) ["before","left"] bh):eG P w K mg base "order_or_ring" (k+1) ["tale"] (fnU 5 1 (bM aQ bh fuel)):=
 d.pure eN fun f cdv A outer s H E hr=>(by
  have hu:=eU hr;have nd:=eN.nd;exact(av (aI (i:=1) nd rfl (by trivial) (aU dR hr rfl (ah (ae (wpv 0)) aw)))
   (av (aI (i:=2) nd rfl (by trivial) (dB aw))
   (av (aI (i:=3) nd rfl (by trivial) (bT (CW rfl) CM rfl B.list OG.cg (ah (ae (wpv 1)) aw)))
   (av (mx fuel PassesOwn.never (br CP Iq (bo jS jQ rfl B.len PySem.boot_len (ah (ae (wpv 3)) aw)) (aE au) (ba _)) (av (aI (i:=4) nd rfl (by trivial) (fH (Nc:=["a","left","before"]) (tn:=["a"]) (capN:=["left","before"]) (caps:=[3,1]) rfl (bA (ae (wpv 3))) (fun _ _ _=>(aK (aA (i:=0) (show(["a","left","before"]:List Str).Nodup by decide +kernel) rfl (by trivial)))) (fun _ _ _=>(by exact(qV (lB (bo (zY rfl) Ir rfl B.any OG.Ab (ah (gU (Nc:=["one","left"]) (tn:=["one"]) (capN:=["left"]) (caps:=[1]) rfl (bA (eC hu (ae (wpv 2)) (ae (wpv 0)) (fun _ _=>rfl) (fun _ _=>rfl))) (fun _ _ _=>(aK (aA (i:=0) (show(["one","left"]:List Str).Nodup by decide +kernel) rfl (by trivial)))) (fun _ _ _=>(J3 hu (ae (wpv 0)) (ae (wpv 1)) (by with_unfolding_all rfl))) rfl rfl (by decide +kernel) (by decide +kernel) ⟨rfl,trivial⟩ rfl (.cons ⟨rfl,rfl,rfl,_,rfl⟩ .nil) rfl rfl) aw)))))) (fun _ _ _=>(ae (wpv 0))) rfl rfl (by decide +kernel) (by decide +kernel) ⟨rfl,rfl,trivial⟩ rfl (.cons ⟨rfl,rfl,rfl,_,rfl⟩ (.cons ⟨rfl,rfl,rfl,_,rfl⟩ .nil)) rfl rfl))
   (av (fg (br vH FK (bo jS jQ rfl B.len PySem.boot_len (ah (ae (wpv 4)) aw)) (aE au) (ba _)) (aD (bp (sJ (ah (yI lU) (ah (aU fE hr rfl (ah (ae (wpv 1)) (ah (ae (wpv 3)) aw))) aw))))) cx)
   (av (cN (ji (ae (wpv 2)) (ah (ae (wpv 4)) aw)))
   (aD (aI (i:=3) nd rfl (by trivial) (fH (Nc:=["a","free"]) (tn:=["a"]) (capN:=["free"]) (caps:=[4]) rfl (bA (ae (wpv 3))) (fun _ _ _=>(aK (aA (i:=0) (show(["a","free"]:List Str).Nodup by decide +kernel) rfl (by trivial)))) (fun _ _ _=>(yH hu (ae (wpv 0)) (ae (wpv 1)) (by with_unfolding_all rfl))) (fun _ _ _=>(ae (wpv 0))) rfl rfl (by decide +kernel) (by decide +kernel) ⟨rfl,trivial⟩ rfl (.cons ⟨rfl,rfl,rfl,_,rfl⟩ .nil) rfl rfl)))))))
   (aD (bp (sJ (ah (yI lU) (ah (ae (wpv 2)) aw))))))))))
theorem eP:aX ["tale","some"] ["tale","some"] (aC dh):=⟨rfl,rfl,rfl,by decide +kernel,rfl,by decide +kernel,by decide +kernel⟩
theorem ke{k:Nat}{aN aM:Fn}(d:Def K mg "is_tale_order" dh ["tale","some"])(B:ng mg)(c6:eG P w K mg base "is_whole" (k) ["thing"] aN)(eI:eG P w K mg base "musts" (k) ["tale"] aM):eG P w K mg base "is_tale_order" (k+1) ["tale","some"] (fnU 2 2 (bO aN aM)):=
 d.pure eP fun f cdv A outer s H E hr=>(by
  have hu:=eU hr;have nd:=eP.nd;exact(av (fg (xR (Cg (qV (lB (bo (jA rfl) zc rfl B.all OG.jD (ah (gU (Nc:=["a"]) (tn:=["a"]) (capN:=[]) (caps:=[]) rfl (bA (ae (wpv 1))) (fun _ _ _=>(aK (aA (i:=0) (show(["a"]:List Str).Nodup by decide +kernel) rfl (by trivial)))) (fun _ _ _=>(aU c6 hr rfl (ah (ae (wpv 0)) aw))) rfl rfl (by decide +kernel) (by decide +kernel) trivial rfl .nil rfl rfl) aw)))) (sM (br (nZ hr.units) pK (bo (zf rfl) y4 rfl B.sorted OG.eE (ah (ae (wpv 1)) aw)) (jP rfl rfl B.list rfl B.range (ah (eC hu (ae (wpv 0)) (aE au) (fun _ _=>rfl) (fun _ _=>rfl)) aw) rfl rfl) (ba _))))) (aD (bp (tM eK))) cx)
   (aD (bp (bo (jA rfl) zc rfl B.all OG.jD (ah (gU (Nc:=["one","other","some"]) (tn:=["one","other"]) (capN:=["some"]) (caps:=[1]) rfl (bA (aU eI hr rfl (ah (ae (wpv 0)) aw))) (fun _ _ _=>(lA rfl (bu (aA (i:=0) (show(["one","other","some"]:List Str).Nodup by decide +kernel) rfl (by trivial)) (bu (aA (i:=1) (show(["one","other","some"]:List Str).Nodup by decide +kernel) rfl (by trivial)) iM)))) (fun _ _ _=>(vh sQ DT (cP (ae (wpv 2)) (ah (ae (wpv 0)) aw)) (cP (ae (wpv 2)) (ah (ae (wpv 1)) aw)) (ba _))) rfl rfl (by decide +kernel) (by decide +kernel) ⟨rfl,trivial⟩ rfl (.cons ⟨rfl,rfl,rfl,_,rfl⟩ .nil) rfl rfl) aw))))))
theorem kZ:aX ["tale","some","pairs"] ["tale","some"] (aC jK):=⟨rfl,rfl,rfl,by decide +kernel,rfl,by decide +kernel,by decide +kernel⟩
theorem wB{k:Nat}{aN aM:Fn}(d:Def K mg "is_ring" jK ["tale","some"])(B:ng mg)(c6:eG P w K mg base "is_whole" (k) ["thing"] aN)(eI:eG P w K mg base "musts" (k) ["tale"] aM):eG P w K mg base "is_ring" (k+1) ["tale","some"] (fnU 3 2 (fA aN aM)):=
 d.pure kZ fun f cdv A outer s H E hr=>(by
  have hu:=eU hr;have nd:=kZ.nd;exact(av (fg (xR (Cg (qV (lB (bo (jA rfl) zc rfl B.all OG.jD (ah (gU (Nc:=["a"]) (tn:=["a"]) (capN:=[]) (caps:=[]) rfl (bA (ae (wpv 1))) (fun _ _ _=>(aK (aA (i:=0) (show(["a"]:List Str).Nodup by decide +kernel) rfl (by trivial)))) (fun _ _ _=>(aU c6 hr rfl (ah (ae (wpv 0)) aw))) rfl rfl (by decide +kernel) (by decide +kernel) trivial rfl .nil rfl rfl) aw)))) (Cg (br sQ DT (bo jS jQ rfl B.len PySem.boot_len (ah (ae (wpv 1)) aw)) (aE au) (ba _)) (sM (br pL CL (yK rfl rfl B.len rfl B.set (ae (wpv 1))) (bo jS jQ rfl B.len PySem.boot_len (ah (ae (wpv 1)) aw)) (ba _)))))) (aD (bp (tM eK))) cx)
   (av (aI (i:=2) nd rfl (by trivial) (aU eI hr rfl (ah (ae (wpv 0)) aw)))
   (aD (bp (bo (jA rfl) zc rfl B.all OG.jD (ah (gU (Nc:=["pair","pairs"]) (tn:=["pair"]) (capN:=["pairs"]) (caps:=[2]) rfl (Cd rfl B.zip (ae (wpv 1)) (eV dW dU (yJ (ae (wpv 1)) (dI (aE au)) dJ) (yJ (ae (wpv 1)) dJ (dI (aE au))))) (fun _ _ _=>(aK (aA (i:=0) (show(["pair","pairs"]:List Str).Nodup by decide +kernel) rfl (by trivial)))) (fun _ _ _=>(vh (FO hr.units) FJ (ae (wpv 0)) (ae (wpv 1)) (by with_unfolding_all rfl))) rfl rfl (by decide +kernel) (by decide +kernel) ⟨rfl,trivial⟩ rfl (.cons ⟨rfl,rfl,rfl,_,rfl⟩ .nil) rfl rfl) aw)))))))
theorem gP:aX ["row","order","a","last","one"] ["row","order","a"] (aC fe):=⟨rfl,rfl,rfl,by decide +kernel,rfl,by decide +kernel,by decide +kernel⟩
theorem oB{k:Nat}(d:Def K mg "last_ahead" fe ["row","order","a"])(B:ng mg)(C_AT_FIRST:∃t,mg "AT_FIRST"=some (.int (-1) t)):eG P w K mg base "last_ahead" (k+1) ["row","order","a"] (fnU 5 3 (cK )):=
 d.pure gP fun f cdv A outer s H E hr=>(by
  have hu:=eU hr;have nd:=gP.nd;exact(av (aI (i:=3) nd rfl (by trivial) (aE (yh rfl C_AT_FIRST)))
   (av (cS PassesOwn.never rfl (bA (yJ (ae (wpv 1)) dJ (dI (cP (ae (wpv 1)) (ah (ae (wpv 2)) aw))))) (aK (aA (i:=4) nd rfl (by trivial))) (aD (fg (sL hu (ae (wpv 4)) (ae (wpv 0)) (by with_unfolding_all rfl)) (aD (aI (i:=3) nd rfl (by trivial) (ae (wpv 4)))) cx)))
   (aD (bp (ae (wpv 3)))))))
theorem gM:aX ["tale","order"] ["tale","order"] (aC fb):=⟨rfl,rfl,rfl,by decide +kernel,rfl,by decide +kernel,by decide +kernel⟩
theorem oz{k:Nat}{bH:Fn}(d:Def K mg "would_tell" fb ["tale","order"])(B:ng mg)(fF:eG P w K mg base "last_ahead" (k) ["row","order","a"] bH):eG P w K mg base "would_tell" (k+1) ["tale","order"] (fnU 2 2 (cH bH)):=
 d.pure gM fun f cdv A outer s H E hr=>(by
  have hu:=eU hr;have nd:=gM.nd;exact(aD (bp (gU (Nc:=["look","order","tale"]) (tn:=["look"]) (capN:=["order","tale"]) (caps:=[1,0]) rfl (bA (eC hu (ae (wpv 0)) (aE au) (fun _ _=>rfl) (fun _ _=>rfl))) (fun _ _ _=>(aK (aA (i:=0) (show(["look","order","tale"]:List Str).Nodup by decide +kernel) rfl (by trivial)))) (fun _ _ _=>(aU fF hr rfl (ah (eC hu (eC hu (ae (wpv 2)) (aE au) (fun _ _=>rfl) (fun _ _=>rfl)) (eC hu (ae (wpv 0)) (aE au) (fun _ _=>rfl) (fun _ _=>rfl)) (fun _ _=>rfl) (fun _ _=>rfl)) (ah (ae (wpv 1)) (ah (eC hu (ae (wpv 0)) (aE au) (fun _ _=>rfl) (fun _ _=>rfl)) aw))))) rfl rfl (by decide +kernel) (by decide +kernel) ⟨rfl,rfl,trivial⟩ rfl (.cons ⟨rfl,rfl,rfl,_,rfl⟩ (.cons ⟨rfl,rfl,rfl,_,rfl⟩ .nil)) rfl rfl))))
theorem iV:aX ["script","k","number","stir","found","turn"] ["script","k"] (aC fX):=⟨rfl,rfl,rfl,by decide +kernel,rfl,by decide +kernel,by decide +kernel⟩
theorem pV{k:Nat}(d:Def K mg "_law_well" fX ["script","k"])(B:ng mg):eG P w K mg base "_law_well" (k+1) ["script","k"] (fnU 6 2 (cu )):=
 d.pure iV fun f cdv A outer s H E hr=>(by
  have hu:=eU hr;have nd:=iV.nd;exact(av (aI (i:=2) nd rfl (by trivial) (eV dW dU (eV hE mD (aE au) (ae (wpv 1))) (aE au)))
   (av (fg (br sQ DT (ae (wpv 1)) (bo jS jQ rfl B.len PySem.boot_len (ah (ae (wpv 0)) aw)) (ba _)) (aD (aI (i:=2) nd rfl (by trivial) (eC hu (ae (wpv 0)) (ae (wpv 1)) (fun _ _=>rfl) (fun _ _=>rfl)))) cx)
   (av (fg (br vH FK (eV rk y6 (ae (wpv 2)) (aE au)) (aE au) (ba _)) (aD (bp (dB (ah (eV rm FL (ae (wpv 2)) (aE au)) aw)))) cx)
   (av (aI (i:=3) nd rfl (by trivial) (eV rk y6 (eV dW dU (eV dW dU (eV hE mD (ae (wpv 2)) (aE au)) (eV hE mD (aE au) (ae (wpv 1)))) (aE au)) (aE au)))
   (av (aI (i:=4) nd rfl (by trivial) (aE au))
   (av (cS PassesOwn.never rfl (cy rfl B.range (ah (aE au) aw)) (aK (aA (i:=5) nd rfl (by trivial))) (av (aI (i:=3) nd rfl (by trivial) (eV rk y6 (eV dW dU (eV dW dU (eV dW dU (eV hE mD (ae (wpv 3)) (ae (wpv 3))) (eV hE mD (aE au) (ae (wpv 3)))) (eV hE mD (aE au) (ae (wpv 5)))) (aE au)) (aE au)))
   (aD (aI (i:=4) nd rfl (by trivial) (eV dW dU (eV hE mD (ae (wpv 4)) (aE au)) (ae (wpv 3)))))))
   (aD (bp (dB (ah (ae (wpv 4)) aw)))))))))))
theorem jJ:aX ["well","many","digit"] ["well","many"] (aC iL):=⟨rfl,rfl,rfl,by decide +kernel,rfl,by decide +kernel,by decide +kernel⟩
theorem sY{k:Nat}(d:Def K mg "_law_sip" iL ["well","many"])(B:ng mg):eG P w K mg base "_law_sip" (k+1) ["well","many"] (fnU 3 2 (dZ )):=
 d.pure jJ fun f cdv A outer s H E hr=>(by
  have hu:=eU hr;have nd:=jJ.nd;exact(av (aI (i:=2) nd rfl (by trivial) (eV rk y6 (eC hu (ae (wpv 0)) (aE au) (fun _ _=>rfl) (fun _ _=>rfl)) (ae (wpv 1))))
   (av (qU hu (ae (wpv 0)) (aE au) (eV rm FL (eC hu (ae (wpv 0)) (aE au) (fun _ _=>rfl) (fun _ _=>rfl)) (ae (wpv 1))))
   (aD (bp (ae (wpv 2)))))))
theorem gQ:aX ["well","many","left","found","at"] ["well","many"] (aC ff):=⟨rfl,rfl,rfl,by decide +kernel,rfl,by decide +kernel,by decide +kernel⟩
theorem oC{k:Nat}{ax:Fn}{fuel:Nat}(d:Def K mg "_law_mixed" ff ["well","many"])(B:ng mg)(aH:eG P w K mg base "_law_sip" (k) ["well","many"] ax):eG P w K mg base "_law_mixed" (k+1) ["well","many"] (fnU 5 2 (cL ax fuel)):=
 d.pure gQ fun f cdv A outer s H E hr=>(by
  have hu:=eU hr;have nd:=gQ.nd;exact(av (aI (i:=2) nd rfl (by trivial) (jP rfl rfl B.list rfl B.range (ah (ae (wpv 1)) aw) rfl rfl))
   (av (aI (i:=3) nd rfl (by trivial) (dB aw))
   (av (mx fuel PassesOwn.never (br (nZ hr.units) pK (ae (wpv 2)) (dB aw) (ba _)) (av (aI (i:=4) nd rfl (by trivial) (aU aH hr rfl (ah (ae (wpv 0)) (ah (bo jS jQ rfl B.len PySem.boot_len (ah (ae (wpv 2)) aw)) aw))))
   (aD (cN (dD (ae (wpv 3)) (ah (Ce (ae (wpv 2)) (ah (ae (wpv 4)) aw)) aw))))))
   (aD (bp (ae (wpv 3))))))))
theorem iX:aX ["well","most","many","hidden","writers","box","row","looks","k","a","earlier","times","b"] ["well","most"] (aC fZ):=⟨rfl,rfl,rfl,by decide +kernel,rfl,by decide +kernel,by decide +kernel⟩
theorem pX{k:Nat}{ax aJ:Fn}(d:Def K mg "_law_tale" fZ ["well","most"])(B:ng mg)(aH:eG P w K mg base "_law_sip" (k) ["well","many"] ax)(fG:eG P w K mg base "_law_mixed" (k) ["well","many"] aJ):eG P w K mg base "_law_tale" (k+1) ["well","most"] (fnU 13 2 (dq ax aJ)):=
 d.pure iX fun f cdv A outer s H E hr=>(by
  have hu:=eU hr;have nd:=iX.nd;exact(av (aI (i:=2) nd rfl (by trivial) (eV dW dU (aE au) (aU aH hr rfl (ah (ae (wpv 0)) (ah (ae (wpv 1)) aw)))))
   (av (aI (i:=3) nd rfl (by trivial) (aU fG hr rfl (ah (ae (wpv 0)) (ah (ae (wpv 2)) aw))))
   (av (aI (i:=4) nd rfl (by trivial) (dB aw))
   (av (cS PassesOwn.never rfl (cy rfl B.range (ah (eV dW dU (aE au) (aU aH hr rfl (ah (ae (wpv 0)) (ah (eC hu (dB (ah (aE au) (ah (aE au) (ah (aE au) aw)))) (aU aH hr rfl (ah (ae (wpv 0)) (ah (aE au) aw))) (fun _ _=>rfl) (fun _ _=>rfl)) aw)))) aw)) (aK (aA (i:=5) nd rfl (by trivial))) (av (iZ (Nc:=["a","well"]) (tn:=["a"]) (capN:=["well"]) (caps:=[0]) rfl (bA (ae (wpv 3))) (fun _ _ _=>(aK (aA (i:=0) (show(["a","well"]:List Str).Nodup by decide +kernel) rfl (by trivial)))) (fun _ _ _=>(br sQ DT (aU aH hr rfl (ah (ae (wpv 1)) (ah (aE au) aw))) (aE au) (ba _))) (fun _ _ _=>(ae (wpv 0))) rfl rfl (by decide +kernel) (by decide +kernel) ⟨rfl,trivial⟩ rfl (.cons ⟨rfl,rfl,rfl,_,rfl⟩ .nil) rfl rfl nd rfl rfl rfl)
   (aD (cN (dD (ae (wpv 4)) (ah (bT cT mC rfl B.tuple OG.fO (ah (HW (ae (wpv 6)) (eV FN Il (aE au) (eV hE mD (aE au) (bT oQ FI rfl B.int OG.mY (ah (vh vH FK (aU aH hr rfl (ah (ae (wpv 0)) (ah (aE au) aw))) (aE au) (ba _)) aw))))) aw)) aw))))))
   (av (aI (i:=7) nd rfl (by trivial) vg)
   (av (cS PassesOwn.never rfl (cy rfl B.range (ah (aU aH hr rfl (ah (ae (wpv 0)) (ah (eV dW dU (eV hE mD (aE au) (ae (wpv 2))) (aE au)) aw))) aw)) (aK (aA (i:=8) nd rfl (by trivial))) (av (aI (i:=9) nd rfl (by trivial) (aU aH hr rfl (ah (ae (wpv 0)) (ah (ae (wpv 2)) aw))))
   (av (aI (i:=5) nd rfl (by trivial) (aU aH hr rfl (ah (ae (wpv 0)) (ah (bo jS jQ rfl B.len PySem.boot_len (ah (ae (wpv 4)) aw)) aw))))
   (av (aI (i:=6) nd rfl (by trivial) (eV dW dU (dB (ah (sN (aE au)) aw)) (fH (Nc:=["one","a"]) (tn:=["one"]) (capN:=["a"]) (caps:=[9]) rfl (bA (eC hu (ae (wpv 4)) (ae (wpv 5)) (fun _ _=>rfl) (fun _ _=>rfl))) (fun _ _ _=>(aK (aA (i:=0) (show(["one","a"]:List Str).Nodup by decide +kernel) rfl (by trivial)))) (fun _ _ _=>(br pL CL (ae (wpv 0)) (ae (wpv 1)) (ba _))) (fun _ _ _=>(ae (wpv 0))) rfl rfl (by decide +kernel) (by decide +kernel) ⟨rfl,trivial⟩ rfl (.cons ⟨rfl,rfl,rfl,_,rfl⟩ .nil) rfl rfl)))
   (av (aI (i:=10) nd rfl (by trivial) (eV dW dU (dB (ah (sN (aE au)) aw)) (fH (Nc:=["one","a","hidden"]) (tn:=["one"]) (capN:=["a","hidden"]) (caps:=[9,3]) rfl (bA (yJ (ae (wpv 6)) (dI (aE au)) dJ)) (fun _ _ _=>(aK (aA (i:=0) (show(["one","a","hidden"]:List Str).Nodup by decide +kernel) rfl (by trivial)))) (fun _ _ _=>(br sQ DT (cP (ae (wpv 2)) (ah (ae (wpv 0)) aw)) (cP (ae (wpv 2)) (ah (ae (wpv 1)) aw)) (ba _))) (fun _ _ _=>(ae (wpv 0))) rfl rfl (by decide +kernel) (by decide +kernel) ⟨rfl,rfl,trivial⟩ rfl (.cons ⟨rfl,rfl,rfl,_,rfl⟩ (.cons ⟨rfl,rfl,rfl,_,rfl⟩ .nil)) rfl rfl)))
   (aD (nQ hu (ae (wpv 7)) (ah (ae (wpv 9)) (ah (ae (wpv 5)) aw)) (eC hu (dB (ah (eC hu (ae (wpv 10)) (sN (aE au)) (fun _ _=>rfl) (fun _ _=>rfl)) (ah (eC hu (ae (wpv 6)) (aU aH hr rfl (ah (ae (wpv 0)) (ah (bo jS jQ rfl B.len PySem.boot_len (ah (ae (wpv 6)) aw)) aw))) (fun _ _=>rfl) (fun _ _=>rfl)) aw))) (bT oQ FI rfl B.int OG.mY (ah (vh vH FK (aU aH hr rfl (ah (ae (wpv 0)) (ah (aE au) aw))) (aE au) (ba _)) aw)) (fun _ _=>rfl) (fun _ _=>rfl)))))))))
   (av (aI (i:=11) nd rfl (by trivial) vg)
   (av (cS PassesOwn.never rfl (cy rfl B.range (ah (aU aH hr rfl (ah (ae (wpv 0)) (ah (eV dW dU (ae (wpv 2)) (aE au)) aw))) aw)) (aK (aA (i:=8) nd rfl (by trivial))) (av (aI (i:=9) nd rfl (by trivial) (aU aH hr rfl (ah (ae (wpv 0)) (ah (ae (wpv 2)) aw))))
   (av (aI (i:=12) nd rfl (by trivial) (aU aH hr rfl (ah (ae (wpv 0)) (ah (ae (wpv 2)) aw))))
   (aD (fg (xR (yL (br pL CL (ae (wpv 9)) (ae (wpv 12)) (ba _)) (qW (xR (Cg (br sQ DT (cP (ae (wpv 3)) (ah (ae (wpv 9)) aw)) (cP (ae (wpv 3)) (ah (ae (wpv 12)) aw)) (ba _)) (sM (br vH FK (aU aH hr rfl (ah (ae (wpv 0)) (ah (aE au) aw))) (aE au) (ba _)))))))) (aD (nQ hu (ae (wpv 11)) (ah (ae (wpv 9)) (ah (ae (wpv 12)) aw)) (tM eK))) cx)))))
   (aD (bp (sJ (ah (ae (wpv 2)) (ah (bT cT mC rfl B.tuple OG.fO (ah (bo (lG rfl) nV rfl B.sorted OG.eE (ah (ae (wpv 11)) aw)) aw)) (ah (bT cT mC rfl B.tuple OG.fO (ah (ae (wpv 4)) aw)) (ah (bT cT mC rfl B.tuple OG.fO (ah (bo (lG rfl) nV rfl B.sorted OG.eE (ah (Cj (Nc:=["one","looks"]) (tn:=["one"]) (capN:=["looks"]) (caps:=[7]) rfl (ae (wpv 7)) (fun _ _ _=>(aK (aA (i:=0) (show(["one","looks"]:List Str).Nodup by decide +kernel) rfl (by trivial)))) (fun _ _ _=>(eV dW dU (ae (wpv 0)) (sJ (ah (HY hu (ae (wpv 1)) (ae (wpv 0)) (fun _ _=>rfl)) aw)))) rfl rfl (by decide +kernel) (by decide +kernel) ⟨rfl,trivial⟩ rfl (.cons ⟨rfl,rfl,rfl,_,rfl⟩ .nil) rfl rfl) aw)) aw)) aw))))))))))))))))
theorem iW:aX ["tale","order","found","a","box","source","earlier"] ["tale","order"] (aC fY):=⟨rfl,rfl,rfl,by decide +kernel,rfl,by decide +kernel,by decide +kernel⟩
theorem pW{k:Nat}(d:Def K mg "_law_told" fY ["tale","order"])(B:ng mg):eG P w K mg base "_law_told" (k+1) ["tale","order"] (fnU 7 2 (dk )):=
 d.pure iW fun f cdv A outer s H E hr=>(by
  have hu:=eU hr;have nd:=iW.nd;exact(av (aI (i:=2) nd rfl (by trivial) (dB aw))
   (av (cS PassesOwn.never rfl (bA (eC hu (ae (wpv 0)) (aE au) (fun _ _=>rfl) (fun _ _=>rfl))) (lA rfl (bu (aA (i:=3) nd rfl (by trivial)) (bu (aA (i:=4) nd rfl (by trivial)) (bu (aA (i:=5) nd rfl (by trivial)) iM)))) (av (iZ (Nc:=["one","box","tale"]) (tn:=["one"]) (capN:=["box","tale"]) (caps:=[4,0]) rfl (bA (yJ (ae (wpv 1)) dJ (dI (cP (ae (wpv 1)) (ah (ae (wpv 3)) aw))))) (fun _ _ _=>(aK (aA (i:=0) (show(["one","box","tale"]:List Str).Nodup by decide +kernel) rfl (by trivial)))) (fun _ _ _=>(sL hu (ae (wpv 0)) (eC hu (eC hu (ae (wpv 2)) (aE au) (fun _ _=>rfl) (fun _ _=>rfl)) (ae (wpv 1)) (fun _ _=>rfl) (fun _ _=>rfl)) (by with_unfolding_all rfl))) (fun _ _ _=>(ae (wpv 0))) rfl rfl (by decide +kernel) (by decide +kernel) ⟨rfl,rfl,trivial⟩ rfl (.cons ⟨rfl,rfl,rfl,_,rfl⟩ (.cons ⟨rfl,rfl,rfl,_,rfl⟩ .nil)) rfl rfl nd rfl rfl rfl)
   (aD (cN (dD (ae (wpv 2)) (ah (eC hu (eV dW dU (dB (ah (sN (aE au)) aw)) (ae (wpv 6))) (sN (aE au)) (fun _ _=>rfl) (fun _ _=>rfl)) aw))))))
   (aD (bp (ae (wpv 2)))))))
theorem fU:aX ["many","found","a","longer","order"] ["many"] (aC eB):=⟨rfl,rfl,rfl,by decide +kernel,rfl,by decide +kernel,by decide +kernel⟩
theorem mO{k:Nat}(d:Def K mg "_law_orders" eB ["many"])(B:ng mg):eG P w K mg base "_law_orders" (k+1) ["many"] (fnU 5 1 (cf )):=
 d.pure fU fun f cdv A outer s H E hr=>(by
  have hu:=eU hr;have nd:=fU.nd;exact(av (aI (i:=1) nd rfl (by trivial) (dB (ah (dB aw) aw)))
   (av (cS PassesOwn.never rfl (cy rfl B.range (ah (ae (wpv 0)) aw)) (aK (aA (i:=2) nd rfl (by trivial))) (av (aI (i:=3) nd rfl (by trivial) (dB aw))
   (av (cS PassesOwn.never rfl (bA (ae (wpv 1))) (aK (aA (i:=4) nd rfl (by trivial))) (aD (cN (ji (ae (wpv 3)) (ah (gU (Nc:=["k","order","a"]) (tn:=["k"]) (capN:=["order","a"]) (caps:=[4,2]) rfl (cy rfl B.range (ah (eV dW dU (bo jS jQ rfl B.len PySem.boot_len (ah (ae (wpv 4)) aw)) (aE au)) aw)) (fun _ _ _=>(aK (aA (i:=0) (show(["k","order","a"]:List Str).Nodup by decide +kernel) rfl (by trivial)))) (fun _ _ _=>(eV dW dU (eV dW dU (yJ (ae (wpv 1)) dJ (dI (ae (wpv 0)))) (dB (ah (ae (wpv 2)) aw))) (yJ (ae (wpv 1)) (dI (ae (wpv 0))) dJ))) rfl rfl (by decide +kernel) (by decide +kernel) ⟨rfl,rfl,trivial⟩ rfl (.cons ⟨rfl,rfl,rfl,_,rfl⟩ (.cons ⟨rfl,rfl,rfl,_,rfl⟩ .nil)) rfl rfl) aw)))))
   (aD (aI (i:=1) nd rfl (by trivial) (ae (wpv 3)))))))
   (aD (bp (ae (wpv 1)))))))
theorem iY:aX ["tale","order","many","times","writers","looks","one","other","row"] ["tale","order"] (aC f6):=⟨rfl,rfl,rfl,by decide +kernel,rfl,by decide +kernel,by decide +kernel⟩
theorem pY{k:Nat}{aZ:Fn}(d:Def K mg "_law_fits" f6 ["tale","order"])(B:ng mg)(gG:eG P w K mg base "_law_told" (k) ["tale","order"] aZ):eG P w K mg base "_law_fits" (k+1) ["tale","order"] (fnU 9 2 (du aZ)):=
 d.pure iY fun f cdv A outer s H E hr=>(by
  have hu:=eU hr;have nd:=iY.nd;exact(av (Az (ae (wpv 0)) (lA rfl (bu (aA (i:=2) nd rfl (by trivial)) (bu (aA (i:=3) nd rfl (by trivial)) (bu (aA (i:=4) nd rfl (by trivial)) (bu (aA (i:=5) nd rfl (by trivial)) iM))))))
   (av (cS PassesOwn.never rfl (bA (ae (wpv 3))) (lA rfl (bu (aA (i:=6) nd rfl (by trivial)) (bu (aA (i:=7) nd rfl (by trivial)) iM))) (aD (fg (br CP Iq (cP (ae (wpv 1)) (ah (ae (wpv 6)) aw)) (cP (ae (wpv 1)) (ah (ae (wpv 7)) aw)) (ba _)) (aD (bp (tM eK))) cx)))
   (av (cS PassesOwn.never rfl (bA (ae (wpv 4))) (aK (aA (i:=8) nd rfl (by trivial))) (aD (fg (br (nZ hr.units) pK (bT cG nW rfl B.list OG.cg (ah (ae (wpv 8)) aw)) (fH (Nc:=["a","row"]) (tn:=["a"]) (capN:=["row"]) (caps:=[8]) rfl (bA (ae (wpv 1))) (fun _ _ _=>(aK (aA (i:=0) (show(["a","row"]:List Str).Nodup by decide +kernel) rfl (by trivial)))) (fun _ _ _=>(sL hu (ae (wpv 0)) (ae (wpv 1)) (by with_unfolding_all rfl))) (fun _ _ _=>(ae (wpv 0))) rfl rfl (by decide +kernel) (by decide +kernel) ⟨rfl,trivial⟩ rfl (.cons ⟨rfl,rfl,rfl,_,rfl⟩ .nil) rfl rfl) (ba _)) (aD (bp (tM eK))) cx)))
   (aD (bp (vh (AE hr.units) pK (gU (Nc:=["one"]) (tn:=["one"]) (capN:=[]) (caps:=[]) rfl (bA (ae (wpv 5))) (fun _ _ _=>(aK (aA (i:=0) (show(["one"]:List Str).Nodup by decide +kernel) rfl (by trivial)))) (fun _ _ _=>(eC hu (ae (wpv 0)) (aE au) (fun _ _=>rfl) (fun _ _=>rfl))) rfl rfl (by decide +kernel) (by decide +kernel) trivial rfl .nil rfl rfl) (aU gG hr rfl (ah (ae (wpv 0)) (ah (ae (wpv 1)) aw))) (ba _))))))))
theorem As:aX ["script","k","tale","right_ones","order","well_told","found","word","some"] ["script"] (aC B5):=⟨rfl,rfl,rfl,by decide +kernel,rfl,by decide +kernel,by decide +kernel⟩
def qo(bJ bI bj bK aS bt aR cE:Fn):CS:=
 (bq (cm 5 (cCB bK (ag (ao 2) (ag (ao 4) aB))))
  (bq (cm 6 (cCB aS (ag (ao 2) (ag (cCB kj (ag (ao 4) aB)) aB))))
  (bq (lP (cOr (DV (aL (GD .bool (ao 6)))) (aL (cOp fNe (ao 6) (ao 5)))) (fS (cC (.bl false))) d5)
  (lP (aL (ao 5)) (bq (iC (cBM cq (ao 3) (ag (ao 4) aB)))
  (lP (aL (cOp (nk true) (cCB bt (ag (ao 2) (ag (cCB kj (ag (ao 4) aB)) aB))) (d7 (iTp (cOp fIx (ao 2) (cC (.int 3)))) (gNm 0) (cOp fIx (ao 0) (cC (.int 2))) 1 []))) (fS (cC (.bl false))) d5)) d5))))
def qm(bJ bI bj bK aS bt aR cE:Fn):CS:=
 (bq (cm 2 (cCB bJ (ag (cCB bI (ag (ao 0) (ag (ao 1) aB))) (ag (cC (.int 5)) aB))))
  (bq (cm 3 (fN aB))
  (bq (iH (iTp (cCB bj (ag (cOp fIx (ao 2) (cC (.int 0))) aB))) (gNm 4) (qo bJ bI bj bK aS bt aR cE))
  (bq (DW (cCB aR (ag (ao 2) aB)) (gTp [7,8]))
  (bq (lP (DG (aL (cOp (nk true) (ao 3) (fN aB))) (cOr (aL (cOp fNe (ao 7) (cC (.str "order")))) (aL (cOp (AQ true) (ao 8) (ao 3))))) (fS (cC (.bl false))) d5)
  (lP (DG (aL (cOp (nk false) (ao 3) (fN aB))) (cOr (aL (cOp fNe (ao 7) (cC (.str "ring")))) (aL (cOp mS (cCB cE (ag (ao 2) (ag (ao 8) aB))) (cC (.bl true)))))) (fS (cC (.bl false))) d5))))))
def DC(bJ bI bj bK aS bt aR cE:Fn):CS:=
 (bq (iH (bW (ag (cCB GZ (ag (cC (.int 2)) (ag (cCB GY (ag (cC (.int 5)) (ag (cCB lK (ag (ao 0) aB)) aB))) aB))) aB)) (gNm 1) (qm bJ bI bj bK aS bt aR cE))
  (fS (cC (.bl true))))
theorem IS{k:Nat}{bJ bI bj bK aS bt aR cE:Fn}{fa:Addr}{fd:FuncData}(F:Fun K "law" "law" B5 fa fd)(B:ng mg)(gH:eG P w K mg base "_law_tale" (k) ["well","most"] bJ)(gF:eG P w K mg base "_law_well" (k) ["script","k"] bI)(eJ:eG P w K mg base "_law_orders" (k) ["many"] bj)(gI:eG P w K mg base "_law_fits" (k) ["tale","order"] bK)(dA:eG P w K mg base "is_tale_order" (k) ["tale","some"] aS)(fD:eG P w K mg base "would_tell" (k) ["tale","order"] bt)(dw:eG P w K mg base "order_or_ring" (k) ["tale"] aR)(kI:eG P w K mg base "is_ring" (k) ["tale","some"] cE)
  (ok:∀(ns:List Int),ns.length<=63->∃ρ' S',DC bJ bI bj bK aS bt aR cE [some (.kl ns),none,none,none,none,none,none,none,none] []=some (.rt (.bl true),ρ',S')):pd P w K mg base CX0 (k+1) fa fd ["script"] (qK K):=by
 refine Fun.okW F As (fun vs H Q E h=>(by obtain⟨a,ns,rfl,_⟩:=h;rfl)) fun cdv A outer s H vs Q E hr h=>?_;obtain⟨a,ns,rfl,hS,hlen,q⟩:=h;have hu:=eU hr;have nd:=As.nd;exact⟨_,(av (cS PassesOwn.never rfl (cy rfl B.range (ah (bo (xj rfl) Ip rfl B.max OG.Aa (ah (aE au) (ah (bo (xi rfl) Io rfl B.min OG.z9 (ah (aE au) (ah (bo jS jQ rfl B.len PySem.boot_len (ah (ae (wpv 0)) aw)) aw))) aw))) aw)) (aK (aA (i:=1) nd rfl (by trivial))) (av (aI (i:=2) nd rfl (by trivial) (aU gH hr rfl (ah (aU gF hr rfl (ah (ae (wpv 0)) (ah (ae (wpv 1)) aw))) (ah (aE au) aw))))
   (av (aI (i:=3) nd rfl (by trivial) (dB aw))
   (av (cS PassesOwn.never rfl (bA (aU eJ hr rfl (ah (eC hu (ae (wpv 2)) (aE au) (fun _ _=>rfl) (fun _ _=>rfl)) aw))) (aK (aA (i:=4) nd rfl (by trivial))) (av (aI (i:=5) nd rfl (by trivial) (aU gI hr rfl (ah (ae (wpv 2)) (ah (ae (wpv 4)) aw))))
   (av (aI (i:=6) nd rfl (by trivial) (aU dA hr rfl (ah (ae (wpv 2)) (ah (bT cG nW rfl B.list OG.cg (ah (ae (wpv 4)) aw)) aw))))
   (av (fg (xR (Cg (qV (lB (Ci (T:=.bool) (by intro z;cases z) (ae (wpv 6)) (uk rfl B.bool OG.oS) rfl B.isinstance))) (sM (br pL CL (ae (wpv 6)) (ae (wpv 5)) (ba _))))) (aD (bp (tM eK))) cx)
   (aD (fg (lB (ae (wpv 5))) (av (cN (dD (ae (wpv 3)) (ah (ae (wpv 4)) aw)))
   (aD (fg (br (nZ hr.units) pK (aU fD hr rfl (ah (ae (wpv 2)) (ah (bT cG nW rfl B.list OG.cg (ah (ae (wpv 4)) aw)) aw))) (gU (Nc:=["one"]) (tn:=["one"]) (capN:=[]) (caps:=[]) rfl (bA (eC hu (ae (wpv 2)) (aE au) (fun _ _=>rfl) (fun _ _=>rfl))) (fun _ _ _=>(aK (aA (i:=0) (show(["one"]:List Str).Nodup by decide +kernel) rfl (by trivial)))) (fun _ _ _=>(eC hu (ae (wpv 0)) (aE au) (fun _ _=>rfl) (fun _ _=>rfl))) rfl rfl (by decide +kernel) (by decide +kernel) trivial rfl .nil rfl rfl) (ba _)) (aD (bp (tM eK))) cx))) cx))))))
   (av (Az (aU dw hr rfl (ah (ae (wpv 2)) aw)) (lA rfl (bu (aA (i:=7) nd rfl (by trivial)) (bu (aA (i:=8) nd rfl (by trivial)) iM))))
   (av (fg (xR (yL (br (nZ hr.units) pK (ae (wpv 3)) (dB aw) (ba _)) (qW (xR (Cg (br pL CL (ae (wpv 7)) (yI lU) (ba _)) (sM (br (vF hr.units) FJ (ae (wpv 8)) (ae (wpv 3)) (by with_unfolding_all rfl)))))))) (aD (bp (tM eK))) cx)
   (aD (fg (xR (yL (br (AE hr.units) pK (ae (wpv 3)) (dB aw) (ba _)) (qW (xR (Cg (br pL CL (ae (wpv 7)) (yI lU) (ba _)) (sM (br pM y9 (aU kI hr rfl (ah (ae (wpv 2)) (ah (ae (wpv 8)) aw))) (tM eK) (ba _)))))))) (aD (bp (tM eK))) cx))))))))
   (aD (bp (tM eK)))),zx hS (ok ns hlen) q⟩
end
end OL
local macro_rules
 | `(tactic| rwa $s:rwRuleSeq) => do
  let ts : Array (Lean.TSyntax `term) := s.raw[1].getSepArgs.map fun r => ⟨r[1]⟩
  let us : Array (Lean.TSyntax `term) := (("Be t7 x_c DQ ub ua nq pf HE Ex Ew JM Hj Hi Ef Ee Eu Br Bq Ed Bh Bi qy px pq Hc D5 Ho Eg GL Bp Hs Em Ak nr iU Ea D9 D8 Eo Bo Ec Eb sh qx qw ph jG HC Et Es Hu Ht Ez Ey JL Hh Hg Hf He Hq Bm El Bn D7 D6 Am Ei Ej Eh Bs Hd Hn JN JO JP Hy Hl Hx Hk Hm Hw Hv at0 at1 at2 at3 ix0 ix1 ix2 Option.bind_some List.getElem?_cons_zero List.getElem?_cons_succ List.set_cons_zero List.set_cons_succ List.length_cons List.length_nil List.map_cons List.map_nil decide_true decide_false Bool.not_true Bool.not_false Ek JQ HB HA Hz HD Ep D2 D3 D4 Bj Bk Bl En ga ga0 gs gs0 Option.join_some Nat.add_zero List.cons_append List.nil_append List.append_assoc" : String).splitOn " ").toArray.map fun x => ⟨(Lean.mkIdent ((x.splitOn ".").foldl Lean.Name.str Lean.Name.anonymous)).raw⟩
  let vs:=ts++us
  `(tactic| simp only [$[$vs:term],*])
namespace OQ
open PySem PySem.Spec PyProof.Rows L2 OG OP
theorem l9{m:Int}(h0:0<=m)(h:m<2^60):m.natAbs.log2<9000:=vX h0 h
theorem rA{κ α:Type}[DecidableEq κ](ps:List (κ×α))(b:κ)(v:α):(i7 ps b v).length<=ps.length+1:=by
 unfold i7;split<;>simp
theorem vQ{α:Type}{l:List α}{k:Nat}{x:α}(h:l[k]?=some x):k<l.length:=(Q7.mp h).1
theorem ak{α:Type}{l r:List α}{k:Nat}{x:α}(h:l[k]?=some x):(l++r)[k]?=some x:=by rw[Qz (vQ h)];exact h
theorem inI(b:Int):∀l:List Int,inU (.int b) (l.map U.int)=decide (b∈l)
 |[]=>by simp[inU]
 |x::r=>by
  have ih:=inI b r;unfold inU at ih ⊢;rw[QF,Zi,ih,show eqF (.int x) (.int b)=(x == b)from rfl];by_cases e:x=b
  ·subst e;simp
  ·have:(x == b)=false:=by simpa using e
   rw[this];simp[Ne.symm e]
theorem IU(l:List Int):(l.map U.int).all iR=true:=by
 induction l with
 |nil=>rfl
 |cons x r ih=>rw[QF,Zo,ih];rfl
theorem lM{ok:Sto->Prop}{g:CG}{ct:CT}{ce:CE}{l:Nat}{ρ:Rho}{S:Sto}(h:ok S):bL ok g ct ce l [] ρ S=some S:=by rw[bL,if_pos h]
theorem oO{ok:Sto->Prop}{g:CG}{ct:CT}{ce:CE}{l:Nat}{ρ ρ0:Rho}{S S0 S1:Sto}{u:U}{us:List U}(h:ok S)(hg:g u ρ S=some (ρ0,S0))(ht:ct ρ0 S0=some (false,S1)):bL ok g ct ce l (u::us) ρ S=bL ok g ct ce l us ρ0 S1:=by
 rw[bL,if_pos h,hg,Q8,ht,Q8,if_neg QM]
theorem lL{ok:Sto->Prop}{g:CG}{ct:CT}{ce:CE}{l:Nat}{ρ ρ0:Rho}{S S0 S1 S2:Sto}{u x:U}{us ys:List U}(h:ok S)(hg:g u ρ S=some (ρ0,S0))(ht:ct ρ0 S0=some (true,S1))(he:ce ρ0 S1=some (x,S2))(hl:S2[l]?=some (.lst ys))(hn:ys.length<LIM) :
  bL ok g ct ce l (u::us) ρ S=bL ok g ct ce l us ρ0 (S2.set l (.lst (ys++[x]))):=by
 rw[bL,if_pos h,hg,Q8,ht,Q8,if_pos rfl,he,Q8];simp only[hl,hn,if_true]
def DL(k:Nat)(S:Sto)(u v:U):Prop:=∃d,Dt S u d/\Dt S v d/\d.canLay0=true/\d.depth<=k
def xF(k:Nat)(S:Sto)(us vs:List U):Prop:=∃ds,DtL S us ds/\DtL S vs ds/\PyData.canLayAll0 ds=true/\PyData.depthAll ds<=k
section
variable{k:Nat}{S:Sto}{us vs:List U}
theorem xF.nil:xF k S [] []:=⟨[],.nil,.nil,rfl,ZQ _⟩
theorem DL.lst{l l':Nat}(h1:S[l]?=some (.lst us))(h2:S[l']?=some (.lst vs))(h:xF k S us vs):DL (k+1) S (.ref l) (.ref l'):=by
 obtain⟨ds,a,b,c,e⟩:=h;refine⟨.list ds,.lst h1 a,.lst h2 b,by unfold PyData.canLay0;exact c,?_⟩;unfold PyData.depth;omega
end
section
variable{S:Sto}{l l':Nat}{us:List U}{u:U}{i:Int}
def rE(l:Nat)(i:Int)(S:Sto):Option O->Option (U×Sto)
 |some (.lst us)=>if 0<=i/\i<us.length/\us.length<=LIM then(us[i.toNat]?).bind fun u=>some (u,S.set l (.lst (us.eraseIdx i.toNat)))else none
 |_=>none
theorem Bg:lJ (.ref l) [.int i] S=rE l i S S[l]?:=by
 unfold lJ rE;rfl
theorem x5(h0:0<=i)(h1:i<us.length)(hL:us.length<=LIM)(hu:us[i.toNat]?=some u):rE l i S (some (.lst us))=some (u,S.set l (.lst (us.eraseIdx i.toNat))):=by
 simp only[rE];rw[if_pos ⟨h0,h1,hL⟩,hu,Q8]
def kNg:U×Sto->Option (U×Sto)
 |(.int i,S)=>some (.int (-i),S)
 |_=>none
theorem sg{ca:CE}{ρ:Rho}:rP ca ρ S=(ca ρ S).bind kNg:=by
 unfold rP;congr 1;funext p;obtain⟨x,S⟩:=p;cases x<;>rfl
theorem kS:kNg (.int i,S)=some (.int (-i),S):=rfl
theorem xv{vs:List U}:atI (vs++[u]) (-1)=some u:=by
 unfold atI ixN;rw[if_neg (by omega),if_pos (by rw[QV,Qs];omega)];simp only[Q8];have e:((-1:Int)+((vs++[u]).length:Int)).toNat=vs.length:=by rw[QV,Qs];omega
 rw[e];simp
theorem AF(neg:Bool)(h:S[l]?=some (.lst us))(h':S[l']?=some (.lst [])):nk neg (.ref l) (.ref l') S=some (.bl (if neg then !decide (us=[])else decide (us=[])),S):=by
 by_cases e:us=[]
 ·subst e;have k:=(DL.lst (k:=0) h h' .nil);obtain⟨d,a,b,c,e⟩:=k;rw[decide_eq_true rfl];exact p6 neg (.inl ⟨d,d,a,b,⟨c,Qc e (by omega)⟩,⟨c,Qc e (by omega)⟩,(SeqAt.eqv_refl d c).symm⟩)
 ·rw[decide_eq_false e];exact p6 neg (.inr ⟨l,l',us,[],rfl,rfl,h,h',by simpa using e,rfl⟩)
end
theorem vP{α β:Type}(f:α->β)(l:List α)(k:Nat):(l.eraseIdx k).map f=(l.map f).eraseIdx k:=by
 rw[List.eraseIdx_eq_take_drop_succ,List.eraseIdx_eq_take_drop_succ,Qn,List.map_take,List.map_drop]
theorem jO(n:Nat):bz 0 n=((Qy n).map fun i:Nat=>(i:Int)).map U.int:=by
 unfold bz;rw[Qa];refine List.map_congr_left fun i _=>?_;simp
inductive Ev where
 |beg (a:Int)|look (a b x:Int)|put (a b x:Int)|fin (d:Bool) (a:Int)
structure Att where
 en:Option Bool
 lk:List (Int×Int)
 nd:List (Int×Int)
 ps:List (Int×Int)
 bf:List Int
abbrev St:=List (Int×Att)
theorem yO{κ α:Type}[DecidableEq κ]{ps:List (κ×α)}{k:κ}{v:α}(h:k∉ps.map (·.1)):i7 ps k v=ps++[(k,v)]:=by
 unfold i7;rw[if_neg];simp only[List.any_eq_true,decide_eq_true_eq,not_exists,not_and];intro p hp e;exact h (Qu.mpr ⟨p,hp,e⟩)
theorem cZ{α:Type}{ok:Sto->Prop}{gg:CG}{ct:CT}{ce:CE}{S:Sto}{f:α->U}{p:α->Bool}{v:α->U}{Rel:Rho->Prop}(hok:∀ys G,ok (S++(.lst ys::G))) :
  ∀(xs:List α) (ys:List U) (G:Sto) (ρ:Rho),Rel ρ->ys.length+xs.length<=9999->
  (∀x∈xs,∀ys G ρ,Rel ρ->∃ρ0 G1,Rel ρ0/\gg (f x) ρ (S++(.lst ys::G))=some (ρ0,S++(.lst ys::G))/\ct ρ0 (S++(.lst ys::G))=some (p x,S++(.lst ys::(G++G1)))/\
   (p x=true->∃G2,ce ρ0 (S++(.lst ys::(G++G1)))=some (v x,S++(.lst ys::(G++G1++G2)))))->
  ∃G',bL ok gg ct ce S.length (xs.map f) ρ (S++(.lst ys::G))=some (S++(.lst (ys++(xs.filter p).map v)::(G++G')))
 |[],ys,G,ρ,_,_,_=>⟨[],by simp only[Zj,List.filter_nil,Qe];exact lM (hok ys G)⟩
 |x::xs,ys,G,ρ,hr,hl,hb=>by
  rw[QB]at hl;obtain⟨ρ0,G1,r0,h1,h2,h3⟩:=hb x QK ys G ρ hr;have hb':=fun x (hx:x∈xs)=>hb x (QU _ hx);cases hp:p x with
  |false=>
   rw[hp]at h2;obtain⟨G',h⟩:=cZ hok xs ys (G++G1) ρ0 r0 (by omega) hb';refine⟨G1++G',?_⟩;rw[QF,List.filter_cons_of_neg (by simp[hp])];refine(oO (hok ys G) h1 h2).trans ?_;rw[h,QZ]
  |true=>
   rw[hp]at h2;obtain⟨G2,h4⟩:=h3 hp;obtain⟨G',h⟩:=cZ hok xs (ys++[v x]) (G++G1++G2) ρ0 r0 (by simp;omega) hb';refine⟨G1++(G2++G'),?_⟩;rw[QF,List.filter_cons_of_pos hp];refine(lL (hok ys G) h1 h2 h4 (by rw[ga0];rfl) (by unfold LIM;omega)).trans ?_;rw[gs0];simp only[Zf];rw[h];simp only[QF,QZ,Qq,Qh]
theorem jy{α:Type}{ok:Sto->Prop}{gg:CG}{ce:CE}{S:Sto}{f:α->U}{v:α->U}{Rel:Rho->Prop}(hok:∀ys G,ok (S++(.lst ys::G))) :
  ∀(xs:List α) (ys:List U) (G:Sto) (ρ:Rho),Rel ρ->ys.length+xs.length<=9999->
  (∀x∈xs,∀ys G ρ,Rel ρ->∃ρ0 G1,Rel ρ0/\gg (f x) ρ (S++(.lst ys::G))=some (ρ0,S++(.lst ys::G))/\ce ρ0 (S++(.lst ys::G))=some (v x,S++(.lst ys::(G++G1))))->
  ∃G',gq ok gg ce S.length (xs.map f) ρ (S++(.lst ys::G))=some (S++(.lst (ys++xs.map v)::(G++G')))
 |[],ys,G,ρ,_,_,_=>⟨[],by simp only[Zj,Qe];exact mV (hok ys G)⟩
 |x::xs,ys,G,ρ,hr,hl,hb=>by
  rw[QB]at hl;obtain⟨ρ0,G1,r0,h1,h2⟩:=hb x QK ys G ρ hr;obtain⟨G',h⟩:=jy hok xs (ys++[v x]) (G++G1) ρ0 r0 (by simp;omega) (fun x hx=>hb x (QU _ hx));refine⟨G1++G',?_⟩;rw[QF];refine(kB (hok ys G) h1 h2 (by rw[ga0];rfl) (by unfold LIM;omega)).trans ?_;rw[gs0];simp only[Zf];rw[h];simp only[QF,QZ,Qq,Qh]
theorem yB{Z:Sto}{r:Nat}{o o':O}(h:Z[r]?=some o):(Z.set r o').set r o=Z:=by
 rw[List.set_set];refine Zt fun i=>?_;rw[ZZ];split
 ·subst i;obtain⟨h1,h2⟩:=Q7.mp h;simp[h1,h2]
 ·rfl
theorem jv:∀ns ms:List Int,PyData.eqv (.list (ns.map PyData.int)) (.list (ms.map PyData.int))=decide (ns=ms)
 |[],[]=>rfl
 |[],_::_=>rfl
 |_::_,[]=>rfl
 |n::ns,m::ms=>by
  have e:PyData.eqv (.list ((n::ns).map PyData.int)) (.list ((m::ms).map PyData.int))=((n == m)&&PyData.eqv (.list (ns.map PyData.int)) (.list (ms.map PyData.int))):=rfl;rw[e,jv ns ms,ZE];simp
theorem iB{S:Sto}:∀ns:List Int,DtL S (ns.map U.int) (ns.map PyData.int)
 |[]=>.nil
 |n::ns=>.cons (.int n) (iB ns)
theorem jn(ns:List Int):qt (.list (ns.map PyData.int)):=by
 have h:∀ns:List Int,PyData.canLayAll0 (ns.map PyData.int)=true/\PyData.depthAll (ns.map PyData.int)<=0:=fun ns=>by
  induction ns with
  |nil=>exact⟨rfl,QJ _⟩
  |cons n r ih=>
   refine⟨by unfold PyData.canLayAll0;rw[QF];exact ih.1,?_⟩;rw[QF];unfold PyData.depthAll;exact Nat.max_le.mpr ⟨QJ _,ih.2⟩
 refine⟨by unfold PyData.canLay0;exact(h ns).1,?_⟩;unfold PyData.depth;have:=(h ns).2;omega
theorem jq(neg:Bool){S:Sto}{l l':Nat}{ns ms:List Int}(h:S[l]?=some (.lst (ns.map U.int)))(h':S[l']?=some (.lst (ms.map U.int))):nk neg (.ref l) (.ref l') S=some (.bl (if neg then !decide (ns=ms)else decide (ns=ms)),S):=
 p6 neg (.inl ⟨_,_,.lst h (iB ns),.lst h' (iB ms),jn ns,jn ms,(jv ns ms).symm⟩)
theorem km{α:Type}:∀{l:List α} {i:Nat} (h:i<l.length),(l[i]::l.eraseIdx i).Perm l
 |[],_,h=>absurd h (Nat.not_lt_zero _)
 |a::l,0,_=>List.Perm.refl _
 |a::l,i+1,h=>(List.Perm.swap a _ _).trans (List.Perm.cons a (km (l:=l) (i:=i) (by simpa using h)))
structure Wl(lw:Nat)(T T':Sto):Prop where
 len:T.length<=T'.length
 keep:∀j,j<T.length->j≠lw->T'[j]?=T[j]?
 well:∃z,T'[lw]?=some (.lst [.int z])
section
variable{lw j:Nat}{T T1 T2 S:Sto}{o:O}{m:Int}
theorem Wl.get(w:Wl lw T T1)(h:T[j]?=some o)(n:j≠lw):T1[j]?=some o:=by rw[w.keep j (Q7.mp h).1 n];exact h
theorem Wl.trans(a:Wl lw T T1)(b:Wl lw T1 T2):Wl lw T T2:=⟨Qc a.len b.len,fun j hj n=>by rw[b.keep j (Qj hj a.len) n,a.keep j hj n],b.well⟩
theorem Wl.refl(h:∃z,T[lw]?=some (.lst [.int z])):Wl lw T T:=⟨QJ _,fun _ _ _=>rfl,h⟩
theorem Wl.app(h:∃z,T[lw]?=some (.lst [.int z]))(X:Sto):Wl lw T (T++X):=⟨by simp,fun j hj _=>Qz hj,by obtain⟨z,h⟩:=h;exact⟨z,ak h⟩⟩
def dC:Fn:=fnU 3 2 dZ
theorem c7(h:∃z,T[lw]?=some (.lst [.int z]))(hm:0<m)(hb:m<2^60):∃d T1,dC [.ref lw,.int m] T=some (.int d,T1)/\Wl lw T T1/\T1.length=T.length/\0<=d/\d<m:=by
 obtain⟨z,h⟩:=h;have hl:=(Q7.mp h).1;refine⟨z % m,T.set lw (.lst [.int (z / m)]),?_,⟨by simp,fun j hj n=>Qg n.symm,⟨_,by rw[ZZ,if_pos rfl,if_pos hl]⟩⟩,by simp,Int.emod_nonneg _ (by omega),Int.emod_lt_of_pos _ hm⟩;unfold dC;rw[tx];have dv:∀(j:Int) (S:Sto),AR (.int j) (.int m) S=some (.int (j / m),S):=fun j S=>Er ⟨hm,l9 (by omega) hb⟩;have md:∀(j:Int) (S:Sto),tq (.int j) (.int m) S=some (.int (j % m),S):=fun j S=>x6 hm;rwa[dZ,h,dv,md]
def xJ:Fn:=fnU 6 2 cu
theorem nC{r0 r1 r2:Option U}:∀(ts:List Int) (a f:Int) (r5:Option U),0<=a->a<2147483563->∃a' f' r5',cD (fun _=>True) (gNm 5) cU (ts.map U.int) [r0,r1,r2,some (.int a),some (.int f),r5] S=some (.nx,[r0,r1,r2,some (.int a'),some (.int f'),r5'],S)
 |[],a,f,r5,_,_=>⟨a,f,r5,dE trivial⟩
 |t::ts,a,f,r5,h0,h1=>by
  obtain⟨a',f',r5',ih⟩:=nC (r0:=r0) (r1:=r1) (r2:=r2) ts ((a*a+50021*a+19*t+7) % 2147483563) (f*2147483563+(a*a+50021*a+19*t+7) % 2147483563) (some (.int t)) (Int.emod_nonneg _ (by decide)) (Int.emod_lt_of_pos _ (by decide));refine⟨a',f',r5',(eD trivial rfl ?_).trans ih⟩;have m1:ju (.int a) (.int a) S=some (.int (a*a),S):=lR (.inl ⟨by omega,by omega⟩);have m2:ju (.int 50021) (.int a) S=some (.int (50021*a),S):=lR (.inl (by decide));have m3:ju (.int 19) (.int t) S=some (.int (19*t),S):=lR (.inl (by decide));have m4:ju (.int f) (.int 2147483563) S=some (.int (f*2147483563),S):=lR (.inr (by decide));have m5:∀j:Int,tq (.int j) (.int 2147483563) S=some (.int (j % 2147483563),S):=fun j=>x6 (by decide);rwa[cU,m1,m2,m3,m4,m5]
theorem BL(ns:List Int){k:Int}(k0:0<=k):∃z,xJ [.kl ns,.int k] S=some (.ref S.length,S++[.lst [.int z]]):=by
 unfold xJ;rw[p7];have m1:ju (.int 5) (.int k) S=some (.int (5*k),S):=lR (.inl (by decide));have m2:∀j:Int,tq (.int j) (.int 2) S=some (.int (j % 2),S):=fun j=>x6 (by decide);have m3:∀j:Int,AR (.int j) (.int 2) S=some (.int (j / 2),S):=fun j=>Er ⟨by decide,by decide +kernel⟩;have m4:∀j:Int,ju (.int j) (.int 30011) S=some (.int (j*30011),S):=fun j=>lR (.inr (by decide));have m5:ju (.int 977) (.int k) S=some (.int (977*k),S):=lR (.inl (by decide));have m6:∀j:Int,tq (.int j) (.int 2147483563) S=some (.int (j % 2147483563),S):=fun j=>x6 (by decide);have r60:bW (ag (cC (.int 60)) aB)=fun ρ S=>some (bz 0 60,fun _=>True,S):=rfl;have er:bz 0 60=((Qy 60).map fun i:Nat=>(i:Int)).map U.int:=by rw[jO,Qa]
 have key:∀num:Int,∃z,((bq (lP (aL (cOp fEq (cOp tq (ao 2) (cC (.int 2))) (cC (.int 0)))) (fS (fN (ag (cOp AR (ao 2) (cC (.int 2))) aB))) d5)
  (bq (cm 3 (cOp tq (cOp dF (cOp dF (cOp ju (ao 2) (cC (.int 30011))) (cOp ju (cC (.int 977)) (ao 1))) (cC (.int 41))) (cC (.int 2147483563))))
  (bq (cm 4 (cC (.int 0)))
  (bq (iH (bW (ag (cC (.int 60)) aB)) (gNm 5) cU)
  (fS (fN (ag (ao 4) aB))))))) [some (.kl ns),some (.int k),some (.int num),none,none,none] S).bind kFn=some (.ref S.length,S++[.lst [.int z]]):=fun num=>by
  by_cases e:num % 2=0
  ·refine⟨num / 2,?_⟩;have e':decide (num % 2=0)=true:=decide_eq_true e;rwa[m2,m3,e']
  ·have e':decide (num % 2=0)=false:=decide_eq_false e;obtain⟨a',f',r5',h⟩:=nC (S:=S) (r0:=some (.kl ns)) (r1:=some (.int k)) (r2:=some (.int num)) ((Qy 60).map fun i:Nat=>(i:Int)) ((num*30011+977*k+41) % 2147483563) 0 none (Int.emod_nonneg _ (by decide)) (Int.emod_lt_of_pos _ (by decide));rw[<-er]at h;refine⟨f',?_⟩;rwa[m2,e',m4,m5,m6,iH,r60,h]
 by_cases hk:k<(ns.length:Int)
 ·have hk':decide (k<(ns.length:Int))=true:=decide_eq_true hk;have hi:k.toNat<ns.length:=by omega
  have ha:atI (ns.map U.int) k=some (.int ns[k.toNat]):=by
   have:=gC (xs:=ns.map U.int) (j:=k.toNat) (v:=.int ns[k.toNat]) (by rw[Qr,Q6 hi];rfl);rw[show((k.toNat:Nat):Int)=k from by omega]at this;exact this
  obtain⟨z,h⟩:=key ns[k.toNat];refine⟨z,?_⟩;rw[<-h];simp only[cu,m1,uc,Hr,hk',ha,nr,iU,ph,jG,DQ,ub,ua,Be,t7,x_c,Bs,sh,qx,qw,nq,pf,Hn,GL,Bp,qy,px,pq,Bi,Q8,Z7,Qw,Zf,List.set_cons_succ,Option.join_some]
 ·have hk':decide (k<(ns.length:Int))=false:=decide_eq_false hk;obtain⟨z,h⟩:=key (5*k+3);refine⟨z,?_⟩;rw[<-h];simp only[cu,m1,uc,hk',nr,iU,ph,jG,DQ,ub,ua,Be,t7,x_c,Bs,sh,qx,qw,nq,pf,Hn,GL,Bp,qy,px,pq,Bi,Ak,Q8,Z7,Qw,Zf,List.set_cons_succ,Option.join_some]
def dQ:Fn:=fnU 5 2 (cL dC 100)
theorem lH{r1:Option U}{jl jf:Nat}(n1:jl≠lw)(n2:jf≠lw)(n3:jl≠jf):∀(fuel:Nat) (left found:List Int) (T:Sto) (r4:Option U),left.length<fuel->T[jl]?=some (.lst (left.map U.int))->T[jf]?=some (.lst (found.map U.int))->(∃z,T[lw]?=some (.lst [.int z]))->left.length+found.length<=900->
  ∃(os:List Int) (T':Sto) (r4':Option U),bZ (aL (cOp (nk true) (ao 2) (fN aB))) (dP dC 100) fuel [some (.ref lw),r1,some (.ref jl),some (.ref jf),r4] T=some (.nx,[some (.ref lw),r1,some (.ref jl),some (.ref jf),r4'],T')
   /\T'[jf]?=some (.lst (os.map U.int))/\os.Perm (found++left)/\T.length<=T'.length/\(∀j,j<T.length->j≠lw->j≠jl->j≠jf->T'[j]?=T[j]?)/\∃z,T'[lw]?=some (.lst [.int z])
 |0,left,found,T,r4,hf,_,_,_,_=>absurd hf (by omega)
 |fuel+1,left,found,T,r4,hf,h1,h2,h3,hl=>by
  have q:=AF true (S:=T++[.lst []]) (l:=jl) (l':=T.length) (us:=left.map U.int) (ak h1) (by rw[ga0];rfl);have ww:∃z,(T++[O.lst []])[lw]?=some (.lst [.int z]):=by obtain⟨z,h⟩:=h3;exact⟨z,ak h⟩
  by_cases e:left=[]
  ·subst e;have q':nk true (.ref jl) (.ref T.length) (T++[.lst []])=some (.bl false,T++[.lst []]):=by rw[q];rfl
   refine⟨found,T++[.lst []],r4,nB ?_,ak h2,by rw[Qe],by simp,fun j hj _ _ _=>Qz hj,ww⟩;rwa[q']
  ·have q':nk true (.ref jl) (.ref T.length) (T++[.lst []])=some (.bl true,T++[.lst []]):=by rw[q];simp[e]
   have lp:=List.length_pos_iff.mpr e;obtain⟨d,T2,e2,w2,l2,d0,d1⟩:=c7 (T:=T++[.lst []]) (lw:=lw) (m:=left.length) ww (by omega) (by omega);have hin:d.toNat<left.length:=by omega
   obtain⟨z,hz⟩:∃z,left[d.toNat]?=some z:=⟨_,Q6 hin⟩;have hz':(left.map U.int)[d.toNat]?=some (.int z):=by rw[Qr,hz];rfl
   have hL1:(left.map U.int).length<=LIM:=by unfold LIM;rw[Q9];omega
   have hL2:(found.map U.int).length<LIM:=by unfold LIM;rw[Q9];omega
   have k1:((left.map U.int).length:Int)=left.length:=by rw[Q9]
   have g1:T2[jl]?=some (.lst (left.map U.int)):=w2.get (ak h1) n1;have g2:T2[jf]?=some (.lst (found.map U.int)):=w2.get (ak h2) n2;have g0:(T++[O.lst []])[jl]?=some (.lst (left.map U.int)):=ak h1;have lj:jl<T2.length:=(Q7.mp g1).1;have lf:jf<T2.length:=(Q7.mp g2).1;have em:(left.map U.int).eraseIdx d.toNat=(left.eraseIdx d.toNat).map U.int:=(vP ..).symm;have g3:(T2.set jl (.lst ((left.eraseIdx d.toNat).map U.int)))[jf]?=some (.lst (found.map U.int)):=by rw[Qg n3];exact g2
   have ef:found.map U.int++[.int z]=(found++[z]).map U.int:=by rw[Qn];rfl
   obtain⟨T4,hT4⟩:∃T4,T4=(T2.set jl (.lst ((left.eraseIdx d.toNat).map U.int))).set jf (.lst ((found++[z]).map U.int)):=⟨_,rfl⟩;obtain⟨zz,hzz⟩:=w2.well;obtain⟨os,T',r4',ih,k2,k3,k4,k5,k6⟩:=lH (r1:=r1) n1 n2 n3 fuel (left.eraseIdx d.toNat) (found++[z]) T4 (some (.int d)) (by rw[List.length_eraseIdx,if_pos hin];omega)
    (by rw[hT4,Qg n3.symm,ZZ,if_pos rfl,if_pos lj])
    (by rw[hT4,ZZ,if_pos rfl,if_pos (by rw[Zc];exact lf)])
    ⟨zz,by rw[hT4,Qg n2,Qg n1];exact hzz⟩
    (by rw[List.length_eraseIdx,if_pos hin,QV,Qs];omega)
   have l4:T4.length=T.length+1:=by rw[hT4,Zc,Zc,l2,QV];rfl
   refine⟨os,T',r4',(qE (S0:=T++[.lst []]) ?_ ?_).trans ih,k2,?_,by omega,fun j hj a1 a2 a3=>?_,k6⟩
   ·rwa[q']
   ·rw[hT4];rwa[dP,g0,Q9,e2,g1,g2,g3,Bg,x5 d0 (by rw[k1];exact d1) hL1 hz',em,eX hL2,ef]
   ·refine k3.trans ?_;rw[QZ];refine List.Perm.append_left found ?_;have hz2:left[d.toNat]=z:=by rw[Q6 hin]at hz;exact Option.some.inj hz
    have:=km hin;rw[hz2]at this;exact this
   ·rw[k5 j (by omega) a1 a2 a3,hT4,Qg (Ne.symm a3),Qg (Ne.symm a2),w2.keep j (by simp;omega) a1,Qz hj]
theorem zl{many:Int}(h:∃z,T[lw]?=some (.lst [.int z]))(m0:0<=many)(m1:many<=90):∃(os:List Int) (T':Sto) (l:Nat),dQ [.ref lw,.int many] T=some (.ref l,T')/\T'[l]?=some (.lst (os.map U.int))/\T.length<=l/\Wl lw T T'/\os.length=many.toNat/\os.Nodup/\∀a,a∈os↔0<=a/\a<many:=by
 have hl:lw<T.length:=by obtain⟨z,h⟩:=h;exact(Q7.mp h).1
 obtain⟨rs,hrs⟩:∃rs,rs=(Qy many.toNat).map fun i:Nat=>(i:Int):=⟨_,rfl⟩;have er:bz 0 many.toNat=rs.map U.int:=by rw[hrs,jO,Qa]
 have lr:rs.length=many.toNat:=by rw[hrs];simp
 obtain⟨os,T',r4',e,k2,k3,k4,k5,k6⟩:=lH (lw:=lw) (r1:=some (.int many)) (jl:=T.length) (jf:=T.length+1) (by omega) (by omega) (by omega) 100 rs [] (T++[.lst (rs.map U.int),.lst []]) none (by omega) (by rw[ga0];rfl) (by rw[ga];rfl) (by obtain⟨z,h⟩:=h;exact⟨z,ak h⟩) (by simp;omega);rw[Qh]at k3;have nd:rs.Nodup:=by
  rw[hrs];exact List.Pairwise.map _ (fun a b h e=>h (by omega)) X0
 refine⟨os,T',T.length+1,?_,k2,by omega,⟨by simp at k4;omega,fun j hj n=>?_,k6⟩,by rw[k3.length_eq,lr],k3.nodup_iff.mpr nd,fun a=>?_⟩
 ·unfold dQ;rw[oH];have hc:0<=many/\many<=1000:=⟨m0,by omega⟩;have ln:(T++[O.lst (rs.map U.int)]).length=T.length+1:=by rw[QV];rfl
  rwa[cL,c0,hc,and_self,if_true,er,ln,e]
 ·rw[k5 j (by simp;omega) n (by omega) (by omega),Qz hj]
 ·rw[k3.mem_iff,hrs,Qu];constructor
  ·rintro⟨i,hi,rfl⟩;have:=Qb.mp hi;omega
  ·rintro⟨a0,a1⟩;exact⟨a.toNat,Qb.mpr (by omega),by omega⟩
end
def inR(row:List Int)(b:Int):Bool:=decide (b∈row)
def kM(row os:List Int)(a:Int):Int:=(((os.take (os.idxOf a)).filter (inR row)).getLast?).getD (-1)
theorem flI{b:Int}{l:List Int}:iR (.int b)=true/\(l.map U.int).all iR=true:=⟨rfl,IU l⟩
theorem sV{b:Int}{row:List Int}{S:Sto}:fIn false (.int b) (.tup (row.map U.int)) S=some (.bl (inR row b),S):=by
 unfold fIn;dsimp only;rw[if_pos flI,if_neg QM,inI];rfl
section
variable{S:Sto}{jo:Nat}{os row:List Int}{a:Int}
theorem bU(h:S[jo]?=some (.lst (os.map U.int)))(ha:a∈os)(hl:os.length<=900):aP (.ref jo) [.int a] S=some (.int (os.idxOf a:Nat),S):=by
 have hL:os.length<=LIM:=by unfold LIM;omega
 simp only[aP,h,ft,Q8,ha,hL,and_self,if_true]
theorem Jp{us:List U}{k l:Nat}{S:Sto}(hl:S[l]?=some (.lst us))(h:k<=us.length):fSl (.ref l) none (some (k:Int)) S=some (.ref S.length,S++[.lst (us.take k)]):=by
 have e:HT.sIx us.length us.length (some (k:Int))=k:=by rw[HT.sIx_nat];omega
 simp only[fSl,hl,HT.sIx_none,e,oI,List.drop_zero,Nat.sub_zero]
def o6:Fn:=fnU 5 3 cK
theorem jX{r1 r2:Option U}{jt:Nat}{us:List U}(ht:S[jt]?=some (.lst us)):∀(bs:List Int) (l:Int) (r4:Option U),
  ∃r4',cD (fun Y=>Y[jt]?=some (.lst us)) (gNm 4) bR (bs.map U.int) [some (.tup (row.map U.int)),r1,r2,some (.int l),r4] S=some (.nx,[some (.tup (row.map U.int)),r1,r2,some (.int (((bs.filter (inR row)).getLast?).getD l)),r4'],S)
 |[],l,r4=>⟨r4,dE ht⟩
 |b::bs,l,r4=>by
  cases hb:inR row b with
  |true=>
   obtain⟨r4',ih⟩:=jX (r1:=r1) (r2:=r2) ht bs b (some (.int b));refine⟨r4',?_⟩;have e:((b::bs).filter (inR row)).getLast?.getD l=(bs.filter (inR row)).getLast?.getD b:=by
    rw[List.filter_cons_of_pos hb,List.getLast?_cons];cases (bs.filter (inR row)).getLast?<;>rfl
   rw[e];refine(eD ht rfl ?_).trans ih;rwa[bR,sV,hb]
  |false=>
   obtain⟨r4',ih⟩:=jX (r1:=r1) (r2:=r2) ht bs l (some (.int b));refine⟨r4',?_⟩;have e:(b::bs).filter (inR row)=bs.filter (inR row):=List.filter_cons_of_neg (by simp[hb]);rw[e];refine(eD ht rfl ?_).trans ih;rwa[bR,sV,hb]
theorem C1(h:S[jo]?=some (.lst (os.map U.int)))(ha:a∈os)(hl:os.length<=900):o6 [.tup (row.map U.int),.ref jo,.int a] S=some (.int (kM row os a),S++[.lst ((os.take (os.idxOf a)).map U.int)]):=by
 unfold o6;rw[oG];have hi:os.idxOf a<=(os.map U.int).length:=by rw[Q9];exact Zb (Qo ha)
 obtain⟨r4,e⟩:=jX (S:=S++[.lst ((os.take (os.idxOf a)).map U.int)]) (row:=row) (r1:=some (.ref jo)) (r2:=some (.int a)) (jt:=S.length) (us:=(os.take (os.idxOf a)).map U.int) (by rw[ga0];rfl) (os.take (os.idxOf a)) (-1) none;have et:(os.map U.int).take (os.idxOf a)=(os.take (os.idxOf a)).map U.int:=by rw[List.map_take]
 have hsl:cSl (ao 1) none (some (cBM aP (ao 1) (ag (ao 2) aB))) [some (.tup (row.map U.int)),some (.ref jo),some (.int a),some (.int (-1)),none] S=some (.ref S.length,S++[.lst ((os.take (os.idxOf a)).map U.int)]):=by
  have hx:cBM aP (ao 1) (ag (ao 2) aB) [some (.tup (row.map U.int)),some (.ref jo),some (.int a),some (.int (-1)),none] S=some (.int (os.idxOf a:Nat),S):=by
   rwa[h,bU h ha hl]
  have hv:ao 1 [some (.tup (row.map U.int)),some (.ref jo),some (.int a),some (.int (-1)),none] S=some (.ref jo,S):=rfl;simp only[cSl,gB,hv,hx,Q8,Jp h hi,et]
 have g0:(S++[O.lst ((os.take (os.idxOf a)).map U.int)])[S.length]?=some (.lst ((os.take (os.idxOf a)).map U.int)):=by rw[ga0];rfl
 have hfor:iH (iTp (cSl (ao 1) none (some (cBM aP (ao 1) (ag (ao 2) aB))))) (gNm 4) bR [some (.tup (row.map U.int)),some (.ref jo),some (.int a),some (.int (-1)),none] S=some (.nx,[some (.tup (row.map U.int)),some (.ref jo),some (.int a),some (.int (kM row os a)),r4],S++[.lst ((os.take (os.idxOf a)).map U.int)]):=by
  unfold iH iTp;rw[hsl,Q8];simp only[g0,Q8];exact e
 rwa[cK,hfor]
structure Ag(many:Int)(wr lk:List (List Int)):Prop where
 at_:∀r∈lk,∃a b v,r=[a,b,v]/\(0<=a/\a<many)/\0<=b/\b<wr.length
def aV(many:Int)(tm:U)(wr lk:List (List Int)):U:=.tup [.int many,tm,.tup (wr.map rwU),.tup (lk.map rwU)]
def eS(wr lk:List (List Int))(os:List Int):List Int:=lk.map fun r=>kM (wr.getD (r.getD 1 0).toNat []) os (r.getD 0 0)
def qr:Fn:=fnU 2 2 (cH o6)
variable{many:Int}{wr lk:List (List Int)}{tm:U}
theorem rW{b:Int}(b0:0<=b)(b1:b<wr.length):atI (wr.map rwU) b=some (.tup ((wr.getD b.toNat []).map U.int)):=by
 have hi:b.toNat<wr.length:=by omega
 have:=gC (xs:=wr.map rwU) (j:=b.toNat) (v:=rwU wr[b.toNat]) (by rw[Qr,Q6 hi];rfl);rw[show((b.toNat:Nat):Int)=b from by omega]at this;rw[this,QQ,Q6 hi];rfl
theorem yj(h:S[jo]?=some (.lst (os.map U.int)))(hl:os.length<=900)(hk:lk.length<=900)(ti:Ag many wr lk)(hm:∀a,0<=a->a<many->a∈os) :
  ∃G,qr [aV many tm wr lk,.ref jo] S=some (.ref S.length,S++(.lst ((eS wr lk os).map U.int)::G)):=by
 unfold qr;rw[oE];obtain⟨G,e⟩:=jy (S:=S) (ok:=fun _=>True) (gg:=gNm 0) (ce:=cCB o6 (ag (cOp fIx (cOp fIx (ao 2) (cC (.int 2))) (cOp fIx (ao 0) (cC (.int 1)))) (ag (ao 1) (ag (cOp fIx (ao 0) (cC (.int 0))) aB)))) (f:=rwU) (v:=fun r=>.int (kM (wr.getD (r.getD 1 0).toNat []) os (r.getD 0 0))) (Rel:=fun ρ=>∃r0,ρ=[r0,some (.ref jo),some (aV many tm wr lk)]) (fun _ _=>trivial) lk [] [] [none,some (.ref jo),some (aV many tm wr lk)] ⟨_,rfl⟩ (by simp;omega) (fun r hr ys G ρ hρ=>by
  obtain⟨r0,rfl⟩:=hρ;obtain⟨a,b,v,rfl,ha,b0,b1⟩:=ti.at_ r hr;have e1:=C1 (S:=S++(.lst ys::G)) (row:=wr.getD b.toNat []) (a:=a) (ak h) (hm a ha.1 ha.2) hl;refine⟨[some (rwU [a,b,v]),some (.ref jo),some (aV many tm wr lk)],[.lst ((os.take (os.idxOf a)).map U.int)],⟨_,rfl⟩,rfl,?_⟩;have er:rwU [a,b,v]=.tup [.int a,.int b,.int v]:=rfl;have e0:[a,b,v].getD 0 0=a:=rfl;have e2:[a,b,v].getD 1 0=b:=rfl;simp only[QZ,Qq]at e1;rwa[er,e0,e2,aV,rW b0 b1,e1])
 simp only[Qh]at e;have em:(lk.map fun r=>U.int (kM (wr.getD (r.getD 1 0).toNat []) os (r.getD 0 0)))=(eS wr lk os).map U.int:=by unfold eS;rw[Qa];rfl
 rw[em]at e;refine⟨G,?_⟩;have hi:cOp fIx (ao 0) (cC (.int 3)) [some (aV many tm wr lk),some (.ref jo)] S=some (.tup (lk.map rwU),S):=by
  rwa[aV]
 have hc:d7 (iTp (cOp fIx (ao 0) (cC (.int 3)))) (gNm 0) (cCB o6 (ag (cOp fIx (cOp fIx (ao 2) (cC (.int 2))) (cOp fIx (ao 0) (cC (.int 1)))) (ag (ao 1) (ag (cOp fIx (ao 0) (cC (.int 0))) aB)))) 1 [1,0] [some (aV many tm wr lk),some (.ref jo)] S=some (.ref S.length,S++(.lst ((eS wr lk os).map U.int)::G)):=by
  unfold d7 iTp;rw[hi,Q8];simp only[Q8,jM,ZU,QF,Zj,Z7,Qw,Ql,Qq,Qh,e]
 rwa[cH,hc]
theorem xh{l k:Nat}{us vs:List U}(h1:S[l]?=some (.lst us))(h2:S[k]?=some (.lst vs))(hz:us.length+vs.length<=LIM):dF (.ref l) (.ref k) S=some (.ref S.length,S++[.lst (us++vs)]):=by
 simp only[dF,iS,h1,h2,hz,if_true]
def xM:Fn:=fnU 7 2 dk
theorem A0(e:List Int):atI ((-1::e).map U.int) (-1)=some (.int (e.getLast?.getD (-1))):=by
 rcases List.eq_nil_or_concat e with rfl|⟨r,x,rfl⟩
 ·rfl
 ·rw[List.concat_eq_append,<-Qq,Qn,List.getLast?_append];exact xv
theorem nG{Z:Sto}(h:Z[jo]?=some (.lst (os.map U.int)))(hl:os.length<=900)(hm:∀a,0<=a->a<many->a∈os):∀(ls:List (List Int)) (acc:List Int) (G:Sto) (r3 r4 r5 r6:Option U),(∀r∈ls,∃a b v,r=[a,b,v]/\(0<=a/\a<many)/\0<=b/\b<wr.length)->acc.length+ls.length<=900->
  ∃G' r3' r4' r5' r6',cD (fun _=>True) (gTp [3,4,5]) cV (ls.map rwU) [some (aV many tm wr lk),some (.ref jo),some (.ref Z.length),r3,r4,r5,r6] (Z++(.lst (acc.map U.int)::G))=some (.nx,[some (aV many tm wr lk),some (.ref jo),some (.ref Z.length),r3',r4',r5',r6'],Z++(.lst ((acc++eS wr ls os).map U.int)::G'))
 |[],acc,G,r3,r4,r5,r6,_,_=>⟨G,r3,r4,r5,r6,by have:acc++eS wr [] os=acc:=Qe _;rw[this];exact dE trivial⟩
 |r::ls,acc,G,r3,r4,r5,r6,hr,hn=>by
  rw[QB]at hn;obtain⟨a,b,v,rfl,ha,b0,b1⟩:=hr r QK;obtain⟨Y,hY⟩:∃Y,Y=Z++(.lst (acc.map U.int)::G):=⟨_,rfl⟩;have hYo:∀X,(Y++X)[jo]?=some (.lst (os.map U.int)):=fun X=>by rw[hY,QZ];exact ak h
  have hYo0:Y[jo]?=some (.lst (os.map U.int)):=by rw[hY];exact ak h
  have hao:=hm a ha.1 ha.2;have hi:os.idxOf a<=(os.map U.int).length:=by rw[Q9];exact Zb (Qo hao)
  obtain⟨pre,hpre⟩:∃pre,pre=os.take (os.idxOf a):=⟨_,rfl⟩;have et:(os.map U.int).take (os.idxOf a)=pre.map U.int:=by rw[hpre,List.map_take]
  have lp:pre.length<=900:=by rw[hpre,Zr];omega
  obtain⟨row,hrow⟩:∃row,row=wr.getD b.toNat []:=⟨_,rfl⟩;have ar:=rW (wr:=wr) b0 b1;rw[<-hrow]at ar;have hsl:cSl (ao 1) none (some (cBM aP (ao 1) (ag (ao 3) aB))) [some (aV many tm wr lk),some (.ref jo),some (.ref Z.length),some (.int a),some (.int b),some (.int v),r6] Y=some (.ref Y.length,Y++[.lst (pre.map U.int)]):=by
   have hx:cBM aP (ao 1) (ag (ao 3) aB) [some (aV many tm wr lk),some (.ref jo),some (.ref Z.length),some (.int a),some (.int b),some (.int v),r6] Y=some (.int (os.idxOf a:Nat),Y):=by
    rwa[hYo0,bU hYo0 hao hl]
   have hv:ao 1 [some (aV many tm wr lk),some (.ref jo),some (.ref Z.length),some (.int a),some (.int b),some (.int v),r6] Y=some (.ref jo,Y):=rfl;simp only[cSl,gB,hv,hx,Q8,Jp hYo0 hi,et]
  obtain⟨G1,e1⟩:=cZ (S:=Y++[.lst (pre.map U.int)]) (ok:=fun S=>S[Y.length]?=some (.lst (pre.map U.int))) (gg:=gNm 0) (ct:=aL (cOp (fIn false) (ao 0) (cOp fIx (cOp fIx (ao 2) (cC (.int 2))) (ao 1)))) (ce:=ao 0) (f:=U.int) (p:=inR row) (v:=U.int) (Rel:=fun ρ=>∃r0,ρ=[r0,some (.int b),some (aV many tm wr lk)]) (fun ys G=>by rw[QZ,ga0];rfl) pre [] [] [none,some (.int b),some (aV many tm wr lk)] ⟨_,rfl⟩ (by simp;omega) (fun c hc ys G ρ hρ=>by
   obtain⟨r0,rfl⟩:=hρ;refine⟨[some (.int c),some (.int b),some (aV many tm wr lk)],[],⟨_,rfl⟩,rfl,?_,fun _=>⟨[],?_⟩⟩
   ·rwa[aV,ar,sV,Qe]
   ·rwa[Qe])
  simp only[Qh]at e1;have ln:(Y++[O.lst (pre.map U.int)]).length=Y.length+1:=by rw[QV];rfl
  have gz:(Y++[O.lst (pre.map U.int)])[Y.length]?=some (.lst (pre.map U.int)):=by rw[ga0];rfl
  rw[ln]at e1;simp only[QZ,Qq,Qh]at e1;have hc:aW (iTp (cSl (ao 1) none (some (cBM aP (ao 1) (ag (ao 3) aB))))) (gNm 0) (aL (cOp (fIn false) (ao 0) (cOp fIx (cOp fIx (ao 2) (cC (.int 2))) (ao 1)))) (ao 0) 1 [4,0] [some (aV many tm wr lk),some (.ref jo),some (.ref Z.length),some (.int a),some (.int b),some (.int v),r6] Y=some (.ref (Y.length+1),Y++(.lst (pre.map U.int)::.lst ((pre.filter (inR row)).map U.int)::G1)):=by
   unfold aW iTp;rw[hsl,Q8];simp only[gz,Q8,jM,ZU,QF,Zj,Z7,Qw,Ql,Qq,Qh,ln,e1,QZ]
  obtain⟨ea,hea⟩:∃ea,ea=pre.filter (inR row):=⟨_,rfl⟩;rw[<-hea]at hc;have lea:ea.length<=900:=by rw[hea];exact Qc (ZP ..) lp
  obtain⟨X,hX⟩:∃X,X=Y++(.lst (pre.map U.int)::.lst (ea.map U.int)::G1):=⟨_,rfl⟩;rw[<-hX]at hc;have gX:(X++[O.lst [.int (-1)]])[Y.length+1]?=some (.lst (ea.map U.int)):=by rw[hX,QZ,ga];rfl
  have gN:(X++[O.lst [.int (-1)]])[X.length]?=some (.lst [.int (-1)]):=by rw[ga0];rfl
  obtain⟨ev,hev⟩:∃ev,ev=(-1::ea).map U.int:=⟨_,rfl⟩;have hcat:dF (.ref X.length) (.ref (Y.length+1)) (X++[.lst [.int (-1)]])=some (.ref (X.length+1),X++[.lst [.int (-1)],.lst ev]):=by
   have hz:[U.int (-1)].length+(ea.map U.int).length<=LIM:=by unfold LIM;simp;omega
   rw[xh gN gX hz,QV,QZ,hev];rfl
  have hlast:kM (wr.getD b.toNat []) os a=ea.getLast?.getD (-1):=by unfold kM;rw[hea,hrow,hpre]
  have etl:acc++eS wr ([a,b,v]::ls) os=acc++[ea.getLast?.getD (-1)]++eS wr ls os:=by
   unfold eS;rw[QF,QZ];show acc++kM (wr.getD b.toNat []) os a::_=_;rw[hlast];rfl
  obtain⟨G',q3,q4,q5,q6,ih⟩:=nG h hl hm ls (acc++[ea.getLast?.getD (-1)]) (G++(.lst (pre.map U.int)::.lst (ea.map U.int)::(G1++[.lst [.int (-1)],.lst ev]))) (some (.int a)) (some (.int b)) (some (.int v)) (some (.ref (Y.length+1))) (fun r h=>hr r (QU _ h)) (by simp;omega);refine⟨G',q3,q4,q5,q6,?_⟩;rw[etl,<-hY];refine(eD (ρ0:=[some (aV many tm wr lk),some (.ref jo),some (.ref Z.length),some (.int a),some (.int b),some (.int v),r6]) (S0:=Y) trivial rfl ?_).trans ih;have hA:(acc.map U.int).length<LIM:=by unfold LIM;rw[Q9];omega
  have ge:(X++[O.lst [.int (-1)],.lst ev])[X.length+1]?=some (.lst ev):=by rw[ga];rfl
  have eXY:∀V,X++V=Z++(.lst (acc.map U.int)::(G++(.lst (pre.map U.int)::.lst (ea.map U.int)::(G1++V)))):=fun V=>by rw[hX,hY];simp only[QZ,Qq]
  have gA:(X++[O.lst [.int (-1)],.lst ev])[Z.length]?=some (.lst (acc.map U.int)):=by rw[eXY,ga0];rfl
  have hv:fIx (.ref (X.length+1)) (.int (-1)) (X++[.lst [.int (-1)],.lst ev])=some (.int (ea.getLast?.getD (-1)),X++[.lst [.int (-1)],.lst ev]):=by
   rw[Bm,ge,El,hev,A0];rfl
  have hset:(X++[O.lst [.int (-1)],.lst ev]).set Z.length (.lst (acc.map U.int++[.int (ea.getLast?.getD (-1))]))=Z++(.lst ((acc++[ea.getLast?.getD (-1)]).map U.int)::(G++(.lst (pre.map U.int)::.lst (ea.map U.int)::(G1++[.lst [.int (-1)],.lst ev])))):=by
   rw[eXY,gs0,Qn];rfl
  unfold cV;rw[nr,ph,hc,Q8,jG,Q8,iU];simp only[List.set_cons_succ,Zf];have hdrop:cOp fIx (cOp dF (fN (ag (rP (cC (.int 1))) aB)) (ao 6)) (rP (cC (.int 1))) [some (aV many tm wr lk),some (.ref jo),some (.ref Z.length),some (.int a),some (.int b),some (.int v),some (.ref (Y.length+1))] X=some (.int (ea.getLast?.getD (-1)),X++[.lst [.int (-1)],.lst ev]):=by
   rwa[sg,kS,hcat,hv]
  have gA0:X[Z.length]?=some (.lst (acc.map U.int)):=by have:=eXY [];rw[Qe]at this;rw[this,ga0];rfl
  rwa[gA0,hdrop,gA,eX hA,hset]
theorem BR(h:S[jo]?=some (.lst (os.map U.int)))(hl:os.length<=900)(hk:lk.length<=900)(ti:Ag many wr lk)(hm:∀a,0<=a->a<many->a∈os) :
  ∃G,xM [aV many tm wr lk,.ref jo] S=some (.ref S.length,S++(.lst ((eS wr lk os).map U.int)::G)):=by
 unfold xM;rw[p8];obtain⟨G,q3,q4,q5,q6,e⟩:=nG (tm:=tm) (wr:=wr) (lk:=lk) h hl hm lk [] [] none none none none ti.at_ (by simp;omega);refine⟨G,?_⟩;simp only[Zj,Qh]at e;have hi:∀X:Sto,cOp fIx (ao 0) (cC (.int 3)) [some (aV many tm wr lk),some (.ref jo),some (.ref S.length),none,none,none,none] X=some (.tup (lk.map rwU),X):=fun X=>by
  rwa[aV]
 have hf:iH (iTp (cOp fIx (ao 0) (cC (.int 3)))) (gTp [3,4,5]) cV [some (aV many tm wr lk),some (.ref jo),some (.ref S.length),none,none,none,none] (S++[.lst []])=some (.nx,[some (aV many tm wr lk),some (.ref jo),some (.ref S.length),q3,q4,q5,q6],S++(.lst ((eS wr lk os).map U.int)::G)):=by
  unfold iH iTp;rw[hi,Q8];simp only[Q8];exact e
 rwa[dk,hf]
end
section
variable{S G:Sto}{a:Int}{x:List Int}{L:Nat}
def m9:Fn:=fnU 1 1 dY
theorem qD:m9 [.int a] S=some (.bl true,S):=by
 unfold m9;rw[tw];have t0:tyU (.int a) S=some .int:=rfl;have t1:Ap .int .int=true:=rfl;have t2:Ap .int .bool=false:=rfl;rwa[dY,t0,t1,t2]
theorem xB(p:Int×Int):∀L:List (Int×Int),L.Pairwise (fun a b=>ltP a b=true)->∃M:List (Int×Int),M.Pairwise (fun a b=>ltP a b=true)/\∀q,q∈M↔q=p\/q∈L
 |[],_=>⟨[p],List.pairwise_singleton _ _,fun q=>by simp⟩
 |y::L,h=>by
  obtain⟨h1,h2⟩:=Z0.mp h;by_cases e:p=y
  ·subst e;exact⟨p::L,h,fun q=>by simp⟩
  ·cases hp:ltP p y with
   |true=>
    refine⟨p::y::L,Z0.mpr ⟨fun z hz=>?_,h⟩,fun q=>by simp⟩;rcases QH.mp hz with rfl|m
    ·exact hp
    ·have:=h1 z m;simp only[ltP,decide_eq_true_eq]at this hp ⊢;omega
   |false=>
    obtain⟨M,m1,m2⟩:=xB p L h2;refine⟨y::M,Z0.mpr ⟨fun z hz=>?_,m1⟩,fun q=>?_⟩
    ·rcases(m2 z).mp hz with rfl|m
     ·have e':¬(z.1=y.1/\z.2=y.2):=fun k=>e (Prod.ext k.1 k.2);simp only[ltP,decide_eq_true_eq,decide_eq_false_iff_not]at hp ⊢;omega
     ·exact h1 z m
    ·rw[QH,m2 q,QH];constructor
     ·rintro(k|k|k)
      ·exact .inr (.inl k)
      ·exact .inl k
      ·exact .inr (.inr k)
     ·rintro(k|k|k)
      ·exact .inr (.inl k)
      ·exact .inl k
      ·exact .inr (.inr k)
theorem A1:∀ps:List (Int×Int),∃M:List (Int×Int),M.Pairwise (fun a b=>ltP a b=true)/\∀q,q∈M↔q∈ps
 |[]=>⟨[],List.Pairwise.nil,fun q=>Iff.rfl⟩
 |p::ps=>by
  obtain⟨L,h1,h2⟩:=A1 ps;obtain⟨M,m1,m2⟩:=xB p L h1;exact⟨M,m1,fun q=>by rw[m2,h2,QH]⟩
theorem dX{ps:List (Int×Int)}{q:Int×Int}:q∈bD ps↔q∈ps:=by
 obtain⟨M,m1,m2⟩:=A1 ps;rw[jd m1 m2,m2]
theorem oJ{α:Type}{ok:Sto->Prop}{gg:CG}{ce:CE}{S:Sto}{f:α->U}{v:α->U}{Rel:Rho->Prop}(hok:∀ys G,ok (S++(.lst ys::G))) :
  ∀(xs:List α) (ys:List U) (G:Sto) (ρ:Rho),Rel ρ->ys.length+xs.length<=9999->
  (∀x∈xs,∀ys G ρ,Rel ρ->∃ρ0,Rel ρ0/\gg (f x) ρ (S++(.lst ys::G))=some (ρ0,S++(.lst ys::G))/\ce ρ0 (S++(.lst ys::G))=some (v x,S++(.lst ys::G)))->
  gq ok gg ce S.length (xs.map f) ρ (S++(.lst ys::G))=some (S++(.lst (ys++xs.map v)::G))
 |[],ys,G,ρ,_,_,_=>by simp only[Zj,Qe];exact mV (hok ys G)
 |x::xs,ys,G,ρ,hr,hl,hb=>by
  rw[QB]at hl;obtain⟨ρ0,r0,h1,h2⟩:=hb x QK ys G ρ hr;have h:=oJ hok xs (ys++[v x]) G ρ0 r0 (by simp;omega) (fun x hx=>hb x (QU _ hx));rw[QF];refine(kB (hok ys G) h1 h2 (by rw[ga0];rfl) (by unfold LIM;omega)).trans ?_;rw[gs0];simp only[Zf];rw[h];simp only[QF,QZ,Qq,Qh]
end
structure Fw(lw jw:Nat)(T T':Sto):Prop where
 len:T.length<=T'.length
 keep:∀j,j<T.length->j≠lw->j≠jw->T'[j]?=T[j]?
 well:∃z,T'[lw]?=some (.lst [.int z])
section
variable{lw jw jh j:Nat}{T T1 T2 S:Sto}{o:O}{m:Int}
theorem Fw.of(w:Wl lw T T1):Fw lw jw T T1:=⟨w.len,fun j h n _=>w.keep j h n,w.well⟩
theorem Fw.trans(a:Fw lw jw T T1)(b:Fw lw jw T1 T2):Fw lw jw T T2:=⟨Qc a.len b.len,fun j hj n n'=>by rw[b.keep j (Qj hj a.len) n n',a.keep j hj n n'],b.well⟩
theorem Fw.get(w:Fw lw jw T T1)(h:T[j]?=some o)(n:j≠lw)(n':j≠jw):T1[j]?=some o:=by rw[w.keep j (Q7.mp h).1 n n'];exact h
theorem Fw.set(h:∃z,T[lw]?=some (.lst [.int z]))(n:jw≠lw)(o:O):Fw lw jw T (T.set jw o):=⟨by simp,fun j _ _ n'=>Qg n'.symm,by obtain⟨z,h⟩:=h;exact⟨z,by rw[Qg n];exact h⟩⟩
def E9:CT:=aL (cOp fLt (cCB dC (ag (ao 1) (ag (cC (.int 5)) aB))) (cC (.int 2)))
theorem jL{us:List U}{n:Nat}(n1:n≠lw)(n2:jh≠lw)(n3:jh≠n):∀(as ys:List Int) (Y:Sto) (r0:Option U),Y[jh]?=some (.lst us)->Y[n]?=some (.lst (ys.map U.int))->(∃z,Y[lw]?=some (.lst [.int z]))->ys.length+as.length<=900->
  ∃(ys':List Int) (Y':Sto),bL (fun S=>S[jh]?=some (.lst us)) (gNm 0) E9 (ao 0) n (as.map U.int) [r0,some (.ref lw)] Y=some Y'/\Y'[n]?=some (.lst (ys'.map U.int))/\Fw lw n Y Y'/\(∃q,ys'=ys++q/\q.Sublist as)/\ys'.length<=ys.length+as.length
 |[],ys,Y,r0,h1,h2,h3,_=>⟨ys,Y,lM h1,h2,.of (.refl h3),⟨[],(Qe _).symm,.slnil⟩,by simp⟩
 |a::as,ys,Y,r0,h1,h2,h3,hl=>by
  rw[QB]at hl;obtain⟨d,Y1,e1,w1,l1,d0,d1⟩:=c7 (m:=5) h3 (by omega) (by omega);have g1:Y1[jh]?=some (.lst us):=w1.get h1 n2;have g2:Y1[n]?=some (.lst (ys.map U.int)):=w1.get h2 n1;by_cases hd:d<2
  ·have hd':decide (d<2)=true:=decide_eq_true hd;have lt:n<Y1.length:=(Q7.mp g2).1;have ey:ys.map U.int++[.int a]=(ys++[a]).map U.int:=by rw[Qn];rfl
   obtain⟨ys',Y',e,k1,k2,k3,k4⟩:=jL (us:=us) n1 n2 n3 as (ys++[a]) (Y1.set n (.lst ((ys++[a]).map U.int))) (some (.int a)) (by rw[Qg n3.symm];exact g1) (by rw[ZZ,if_pos rfl,if_pos lt]) (by obtain⟨z,h⟩:=w1.well;exact⟨z,by rw[Qg n1];exact h⟩) (by simp;omega);obtain⟨q,k5,k6⟩:=k3;refine⟨ys',Y',?_,k1,((Fw.of w1).trans (.set w1.well n1 _)).trans k2,⟨a::q,by rw[k5,QZ];rfl,k6.cons₂ a⟩,by simp at k4 ⊢;omega⟩
   ·refine(lL (S0:=Y) (ρ0:=[some (.int a),some (.ref lw)]) (S1:=Y1) (S2:=Y1) (x:=.int a) (ys:=ys.map U.int) h1 rfl ?_ rfl g2 (by unfold LIM;rw[Q9];omega)).trans ?_
    ·rwa[E9,e1,hd']
    ·rw[ey];exact e
  ·have hd':decide (d<2)=false:=decide_eq_false hd;obtain⟨ys',Y',e,k1,k2,k3,k4⟩:=jL (us:=us) n1 n2 n3 as ys Y1 (some (.int a)) g1 g2 w1.well (by omega);obtain⟨q,k5,k6⟩:=k3;refine⟨ys',Y',?_,k1,(Fw.of w1).trans k2,⟨q,k5,k6.cons a⟩,by simp;omega⟩
   ·refine(oO (S0:=Y) (ρ0:=[some (.int a),some (.ref lw)]) (S1:=Y1) h1 rfl ?_).trans e;rwa[E9,e1,hd']
abbrev rT(lw:Nat)(most many:Int)(jh jw:Nat)(r5 r6 r7 r8 r9 r10 r11 r12:Option U):Rho:=[some (.ref lw),some (.int most),some (.int many),some (.ref jh),some (.ref jw),r5,r6,r7,r8,r9,r10,r11,r12]
variable{most many:Int}{os:List Int}{r5 r6 r7 r8 r9 r10 r11 r12:Option U}
theorem EZ{n:Nat}{ys:List Int}(h:S[n]?=some (.lst (ys.map U.int)))(b:Bool):∃zs:List Int,DU (.ref n) (.int (1-2*(if b then 1 else 0))) S=some (.ref S.length,S++[.lst (zs.map U.int)])/\(∀z,z∈zs->z∈ys)/\zs.length=ys.length/\(ys.Nodup->zs.Nodup):=by
 cases b with
 |true=>
  refine⟨ys.reverse,?_,fun z hz=>List.mem_reverse.mp hz,List.length_reverse,fun hn=>List.pairwise_reverse.mpr (hn.imp fun hne=>Ne.symm hne)⟩;have e:(1-2*(if true then 1 else 0):Int)=-1:=rfl;have n1:¬((-1:Int)=1):=by decide
  rw[e];simp only[DU,h,n1,if_false,if_true,List.map_reverse]
 |false=>
  refine⟨ys,?_,fun z hz=>hz,rfl,id⟩;have e:(1-2*(if false then 1 else 0):Int)=1:=rfl;rw[e];simp only[DU,h,if_true]
theorem Bt{Y:Sto}{wr:List (List Int)}(n1:jw≠lw)(n2:jh≠lw)(n3:jh≠jw)(hh:Y[jh]?=some (.lst (os.map U.int)))(hw:Y[jw]?=some (.lst (wr.map rwU)))(wl:∃z,Y[lw]?=some (.lst [.int z]))(ho:os.length<=90)(on:os.Nodup)(hl:wr.length<=90) :
  ∃(zs:List Int) (Y':Sto) (r6':Option U),cX dC dQ (rT lw most many jh jw r5 r6 r7 r8 r9 r10 r11 r12) Y=some (.nx,rT lw most many jh jw r5 r6' r7 r8 r9 r10 r11 r12,Y')/\Y'[jw]?=some (.lst ((wr++[zs]).map rwU))/\Fw lw jw Y Y'/\(∀z∈zs,z∈os)/\zs.length<=90/\zs.Nodup:=by
 have lj:jw<Y.length:=(Q7.mp hw).1;have lh:jh<Y.length:=(Q7.mp hh).1;have ll:lw<Y.length:=by obtain⟨z,h⟩:=wl;exact(Q7.mp h).1
 obtain⟨ys,Y1,e1,k1,k2,k3,k4⟩:=jL (lw:=lw) (jh:=jh) (n:=Y.length) (us:=os.map U.int) (by omega) n2 (by omega) os [] (Y++[.lst []]) none (ak hh) (by rw[ga0];rfl) (by obtain⟨z,h⟩:=wl;exact⟨z,ak h⟩) (by simp;omega);have hc:aW (iTp (ao 3)) (gNm 0) E9 (ao 0) 1 [0] (rT lw most many jh jw r5 r6 r7 r8 r9 r10 r11 r12) Y=some (.ref Y.length,Y1):=by
  have hv:ao 3 (rT lw most many jh jw r5 r6 r7 r8 r9 r10 r11 r12) Y=some (.ref jh,Y):=rfl;unfold aW iTp;rw[hv,Q8];simp only[hh,Q8,jM,rT,ZU,QF,Zj,Z7,Ql,Qq,Qh,e1]
 have l1:=k2.len;rw[QV]at l1;have w1:Y1[jw]?=some (.lst (wr.map rwU)):=k2.get (ak hw) n1 (by omega);obtain⟨d,Y2,e2,q2,l2,d0,d1⟩:=c7 (m:=7) k2.well (by omega) (by omega);have g2:Y2[Y.length]?=some (.lst (ys.map U.int)):=q2.get k1 (by omega);obtain⟨qs,k5,k6⟩:=k3;rw[Qh]at k5;subst k5;obtain⟨zs,e3,z1,z2,z3⟩:=EZ g2 (decide (d=0));have w2:(Y2++[O.lst (zs.map U.int)])[jw]?=some (.lst (wr.map rwU)):=ak (q2.get w1 n1);have lj2:jw<(Y2++[O.lst (zs.map U.int)]).length:=(Q7.mp w2).1;have gn:(Y2++[O.lst (zs.map U.int)])[Y2.length]?=some (.lst (zs.map U.int)):=by rw[ga0];rfl
 have wl2:∃z,(Y2++[O.lst (zs.map U.int)])[lw]?=some (.lst [.int z]):=by obtain⟨z,h⟩:=q2.well;exact⟨z,ak h⟩
 have m2:∀k:Int,ju (.int 2) (.int k) Y2=some (.int (2*k),Y2):=fun k=>lR (.inl (by decide));have hA:(wr.map rwU).length<LIM:=by unfold LIM;rw[Q9];omega
 have em:wr.map rwU++[.tup (zs.map U.int)]=(wr++[zs]).map rwU:=by rw[Qn];rfl
 have yl:ys.length<=90:=by simp at k4;omega
 refine⟨zs,(Y2++[O.lst (zs.map U.int)]).set jw (.lst ((wr++[zs]).map rwU)),some (.ref Y.length),?_,by rw[ZZ,if_pos rfl,if_pos lj2],?_,fun z hz=>k6.subset (z1 z hz),by omega,z3 (k6.nodup on)⟩
 ·unfold cX;rw[nr,ph];show((aW (iTp (ao 3)) (gNm 0) E9 (ao 0) 1 [0] (rT lw most many jh jw r5 r6 r7 r8 r9 r10 r11 r12) Y).bind _).bind _=_;rw[hc,Q8,jG,Q8,iU];rwa[rT,w1,e2,m2,e3,gn,w2,eX hA,em]
 ·refine Fw.trans ?_ (.set wl2 n1 _);refine Fw.trans ?_ (.of (.app q2.well _));refine Fw.trans ?_ (.of q2);exact⟨by omega,fun j hj a1 a2=>by rw[k2.keep j (by simp;omega) a1 (by omega),Qz hj],k2.well⟩
theorem ud(n1:jw≠lw)(n2:jh≠lw)(n3:jh≠jw)(ho:os.length<=90)(on:os.Nodup):∀(us:List U) (wr:List (List Int)) (Y:Sto) (r5 r6:Option U),Y[jh]?=some (.lst (os.map U.int))->Y[jw]?=some (.lst (wr.map rwU))->(∃z,Y[lw]?=some (.lst [.int z]))->wr.length+us.length<=90->(∀r∈wr,(∀z∈r,z∈os)/\r.length<=90/\r.Nodup)->
  ∃(wr':List (List Int)) (Y':Sto) (r5' r6':Option U),cD (fun _=>True) (gNm 5) (cX dC dQ) us (rT lw most many jh jw r5 r6 r7 r8 r9 r10 r11 r12) Y=some (.nx,rT lw most many jh jw r5' r6' r7 r8 r9 r10 r11 r12,Y')/\Y'[jw]?=some (.lst (wr'.map rwU))/\Fw lw jw Y Y'/\(∀r∈wr',(∀z∈r,z∈os)/\r.length<=90/\r.Nodup)/\wr'.length=wr.length+us.length
 |[],wr,Y,r5,r6,h1,h2,h3,_,h5=>⟨wr,Y,r5,r6,dE trivial,h2,.of (.refl h3),h5,rfl⟩
 |u::us,wr,Y,r5,r6,h1,h2,h3,h4,h5=>by
  rw[QB]at h4;obtain⟨zs,Y1,r6',e,k1,k2,k3,k4,k5⟩:=Bt (most:=most) (many:=many) (r5:=some u) (r6:=r6) (r7:=r7) (r8:=r8) (r9:=r9) (r10:=r10) (r11:=r11) (r12:=r12) n1 n2 n3 h1 h2 h3 ho on (by omega);obtain⟨wr',Y',r5'',r6'',ih,i1,i2,i3,i4⟩:=ud n1 n2 n3 ho on us (wr++[zs]) Y1 (some u) r6' (k2.get h1 n2 n3) k1 k2.well (by simp;omega) (fun r hr=>by
   rcases Qd.mp hr with h|h
   ·exact h5 r h
   ·rw[Qv.mp h];exact⟨k3,k4,k5⟩)
  exact⟨wr',Y',r5'',r6'',(eD trivial rfl e).trans ih,i1,k2.trans i2,i3,by rw[i4];simp;omega⟩
end
section
variable{lw jw jh jr je:Nat}{Y S:Sto}{most many a b:Int}{os rf ef:List Int}{wr:List (List Int)}{r5 r6 r7 r8 r9 r10 r11 r12:Option U}
theorem E1{us:List U}{l:Nat}(hl:S[l]?=some (.lst us))(h:1<=us.length):fSl (.ref l) (some 1) none S=some (.ref S.length,S++[.lst (us.drop 1)]):=by
 have e:HT.sIx us.length 0 (some (1:Int))=1:=by
  have:=HT.sIx_nat (n:=us.length) (d:=0) (k:=1);rw[show((1:Nat):Int)=1 from rfl]at this;rw[this];omega
 simp only[fSl,hl,HT.sIx_none,e,oI];rw[ZD (by simp)]
def HL:CE:=cOp dF (fN (ag (rP (cC (.int 1))) aB)) (aW (iTp (cOp fIx (ao 4) (ao 5))) (gNm 0) (aL (cOp fNe (ao 0) (ao 1))) (ao 0) 1 [9])
def IW:CE:=cOp dF (fN (ag (rP (cC (.int 1))) aB)) (aW (iTp (cSl (ao 6) (some (cC (.int 1))) none)) (gNm 0) (aL (cOp fLt (cBM aP (ao 2) (ag (ao 0) aB)) (cBM aP (ao 2) (ag (ao 1) aB)))) (ao 0) 1 [9,3])
def GN:CE:=cOp fIx (fN (ag (cOp fIx (ao 10) (rP (cC (.int 1)))) (ag (cOp fIx (ao 6) (cCB dC (ag (ao 0) (ag (cCB lK (ag (ao 6) aB)) aB)))) aB))) (cCB Gw (ag (cOp fEq (cCB dC (ag (ao 0) (ag (cC (.int 5)) aB))) (cC (.int 0))) aB))
theorem DB{G:Sto}{vs:List Int}(hl:vs.length<=900):dF (.ref Y.length) (.ref (Y.length+1)) (Y++(.lst [.int (-1)]::.lst (vs.map U.int)::G))=some (.ref (Y.length+(2+G.length)),Y++(.lst [.int (-1)]::.lst (vs.map U.int)::(G++[.lst ((-1::vs).map U.int)]))):=by
 rw[xh (us:=[.int (-1)]) (vs:=vs.map U.int) (by rw[ga0];rfl) (by rw[ga];rfl) (by unfold LIM;simp;omega)];have ln:(Y++(O.lst [.int (-1)]::.lst (vs.map U.int)::G)).length=Y.length+(2+G.length):=by simp;omega
 rw[ln,QZ];rfl
theorem B6(hw:Y[jw]?=some (.lst (wr.map rwU)))(b0:0<=b)(b1:b<wr.length)(hl:(wr.getD b.toNat []).length<=900) :
  ∃G n,HL (rT lw most many jh jw (some (.int b)) r6 r7 r8 (some (.int a)) r10 r11 r12) Y=some (.ref (Y.length+n),Y++G)/\G[n]?=some (.lst ((-1::(wr.getD b.toNat []).filter (fun c=>!decide (c=a))).map U.int)):=by
 obtain⟨row,hrow⟩:∃row,row=wr.getD b.toNat []:=⟨_,rfl⟩;have ar:=rW (wr:=wr) b0 b1;rw[<-hrow]at ar hl ⊢;obtain⟨G,e⟩:=cZ (S:=Y++[.lst [.int (-1)]]) (ok:=fun _=>True) (gg:=gNm 0) (ct:=aL (cOp fNe (ao 0) (ao 1))) (ce:=ao 0) (f:=U.int) (p:=fun c=>!decide (c=a)) (v:=U.int) (Rel:=fun ρ=>∃r0,ρ=[r0,some (.int a)]) (fun _ _=>trivial) row [] [] [none,some (.int a)] ⟨_,rfl⟩ (by simp;omega) (fun c hc ys G ρ hρ=>by
  obtain⟨r0,rfl⟩:=hρ;refine⟨[some (.int c),some (.int a)],[],⟨_,rfl⟩,rfl,?_,fun _=>⟨[],?_⟩⟩
  ·rwa[Qe]
  ·rwa[Qe])
 simp only[Qh]at e;have ln:(Y++[O.lst [.int (-1)]]).length=Y.length+1:=by rw[QV];rfl
 rw[ln]at e;simp only[QZ,Qq,Qh]at e;obtain⟨vs,hvs⟩:∃vs,vs=row.filter (fun c=>!decide (c=a)):=⟨_,rfl⟩;rw[<-hvs]at e ⊢;have hv:vs.length<=900:=by rw[hvs];exact Qc (ZP ..) hl
 have hw1:(Y++[O.lst [.int (-1)]])[jw]?=some (.lst (wr.map rwU)):=ak hw;have hi:cOp fIx (ao 4) (ao 5) (rT lw most many jh jw (some (.int b)) r6 r7 r8 (some (.int a)) r10 r11 r12) (Y++[.lst [.int (-1)]])=some (.tup (row.map U.int),Y++[.lst [.int (-1)]]):=by
  rwa[rT,hw1,ar]
 have hc:aW (iTp (cOp fIx (ao 4) (ao 5))) (gNm 0) (aL (cOp fNe (ao 0) (ao 1))) (ao 0) 1 [9] (rT lw most many jh jw (some (.int b)) r6 r7 r8 (some (.int a)) r10 r11 r12) (Y++[.lst [.int (-1)]])=some (.ref (Y.length+1),Y++(.lst [.int (-1)]::.lst (vs.map U.int)::G)):=by
  unfold aW iTp;rw[hi,Q8];simp only[Q8,jM,rT,ZU,QF,Zj,Z7,Qw,Ql,Qq,Qh,ln,e,QZ]
 refine⟨.lst [.int (-1)]::.lst (vs.map U.int)::(G++[.lst ((-1::vs).map U.int)]),2+G.length,?_,?_⟩
 ·have hcat:=DB (Y:=Y) (G:=G) hv;obtain⟨ev,hev⟩:∃ev,ev=(-1::vs).map U.int:=⟨_,rfl⟩;rw[<-hev]at hcat ⊢;unfold HL;rwa[sg,kS,hc,hcat]
 ·rw[show 2+G.length=G.length+1+1 from by omega,Qw,Qw,ga0];rfl
theorem Dq(hr:Y[jr]?=some (.lst ((-1::rf).map U.int)))(hh:Y[jh]?=some (.lst (os.map U.int)))(ha:a∈os)(hm:∀c∈rf,c∈os)(hl:rf.length<=900)(ho:os.length<=900) :
  ∃G n ef,IW (rT lw most many jh jw r5 (some (.ref jr)) r7 r8 (some (.int a)) r10 r11 r12) Y=some (.ref (Y.length+n),Y++G)/\G[n]?=some (.lst ((-1::ef).map U.int))/\∀c∈ef,c∈rf:=by
 have hsl:cSl (ao 6) (some (cC (.int 1))) none (rT lw most many jh jw r5 (some (.ref jr)) r7 r8 (some (.int a)) r10 r11 r12) (Y++[.lst [.int (-1)]])=some (.ref (Y.length+1),Y++[.lst [.int (-1)],.lst (rf.map U.int)]):=by
  have hv:ao 6 (rT lw most many jh jw r5 (some (.ref jr)) r7 r8 (some (.int a)) r10 r11 r12) (Y++[.lst [.int (-1)]])=some (.ref jr,Y++[.lst [.int (-1)]]):=rfl;have h1:cC (.int 1) (rT lw most many jh jw r5 (some (.ref jr)) r7 r8 (some (.int a)) r10 r11 r12) (Y++[.lst [.int (-1)]])=some (.int 1,Y++[.lst [.int (-1)]]):=rfl;have ln:(Y++[O.lst [.int (-1)]]).length=Y.length+1:=by rw[QV];rfl
  have hs:=E1 (S:=Y++[.lst [.int (-1)]]) (us:=(-1::rf).map U.int) (ak hr) (by simp);rw[ln,QZ]at hs;simp only[cSl,gB,hv,h1,Q8];exact hs
 obtain⟨G,e⟩:=cZ (S:=Y++[.lst [.int (-1)],.lst (rf.map U.int)]) (ok:=fun S=>S[Y.length+1]?=some (.lst (rf.map U.int))) (gg:=gNm 0) (ct:=aL (cOp fLt (cBM aP (ao 2) (ag (ao 0) aB)) (cBM aP (ao 2) (ag (ao 1) aB)))) (ce:=ao 0) (f:=U.int) (p:=fun c=>decide (((os.idxOf c:Nat):Int)<((os.idxOf a:Nat):Int))) (v:=U.int) (Rel:=fun ρ=>∃r0,ρ=[r0,some (.int a),some (.ref jh)]) (fun ys G=>by rw[QZ,ga];rfl) rf [] [] [none,some (.int a),some (.ref jh)] ⟨_,rfl⟩ (by simp;omega) (fun c hc ys G ρ hρ=>by
  obtain⟨r0,rfl⟩:=hρ;have hh':∀X,(Y++X)[jh]?=some (.lst (os.map U.int)):=fun X=>ak hh;have i1:∀X,aP (.ref jh) [.int c] (Y++X)=some (.int (os.idxOf c:Nat),Y++X):=fun X=>bU (hh' X) (hm c hc) ho;have i2:∀X,aP (.ref jh) [.int a] (Y++X)=some (.int (os.idxOf a:Nat),Y++X):=fun X=>bU (hh' X) ha ho;refine⟨[some (.int c),some (.int a),some (.ref jh)],[],⟨_,rfl⟩,rfl,?_,fun _=>⟨[],?_⟩⟩
  ·rwa[hh',i1,i2,Qe]
  ·rwa[Qe])
 simp only[Qh]at e;have ln:(Y++[O.lst [.int (-1)],.lst (rf.map U.int)]).length=Y.length+2:=by rw[QV];rfl
 have gz:(Y++[O.lst [.int (-1)],.lst (rf.map U.int)])[Y.length+1]?=some (.lst (rf.map U.int)):=by rw[ga];rfl
 rw[ln]at e;simp only[QZ,Qq,Qh]at e;obtain⟨vs,hvs⟩:∃vs,vs=rf.filter (fun c=>decide (((os.idxOf c:Nat):Int)<((os.idxOf a:Nat):Int))):=⟨_,rfl⟩;rw[<-hvs]at e;have hv:vs.length<=900:=by rw[hvs];exact Qc (ZP ..) hl
 have hc:aW (iTp (cSl (ao 6) (some (cC (.int 1))) none)) (gNm 0) (aL (cOp fLt (cBM aP (ao 2) (ag (ao 0) aB)) (cBM aP (ao 2) (ag (ao 1) aB)))) (ao 0) 1 [9,3] (rT lw most many jh jw r5 (some (.ref jr)) r7 r8 (some (.int a)) r10 r11 r12) (Y++[.lst [.int (-1)]])=some (.ref (Y.length+2),Y++(.lst [.int (-1)]::.lst (rf.map U.int)::.lst (vs.map U.int)::G)):=by
  unfold aW iTp;rw[hsl,Q8];simp only[gz,Q8,jM,rT,ZU,QF,Zj,Z7,Qw,Ql,Qq,Qh,ln,e,QZ]
 have hcat:dF (.ref Y.length) (.ref (Y.length+2)) (Y++(.lst [.int (-1)]::.lst (rf.map U.int)::.lst (vs.map U.int)::G))=some (.ref (Y.length+(3+G.length)),Y++(.lst [.int (-1)]::.lst (rf.map U.int)::.lst (vs.map U.int)::(G++[.lst ((-1::vs).map U.int)]))):=by
  rw[xh (us:=[.int (-1)]) (vs:=vs.map U.int) (by rw[ga0];rfl) (by rw[ga];rfl) (by unfold LIM;simp;omega)];have ln:(Y++(O.lst [.int (-1)]::.lst (rf.map U.int)::.lst (vs.map U.int)::G)).length=Y.length+(3+G.length):=by simp;omega
  rw[ln,QZ];rfl
 refine⟨.lst [.int (-1)]::.lst (rf.map U.int)::.lst (vs.map U.int)::(G++[.lst ((-1::vs).map U.int)]),3+G.length,vs,?_,?_,fun c hc=>by rw[hvs]at hc;exact(Qi.mp hc).1⟩
 ·obtain⟨ev,hev⟩:∃ev,ev=(-1::vs).map U.int:=⟨_,rfl⟩;rw[<-hev]at hcat ⊢;unfold IW;rwa[sg,kS,hc,hcat]
 ·rw[show 3+G.length=G.length+1+1+1 from by omega,Qw,Qw,Qw,ga0];rfl
theorem BN(he:Y[je]?=some (.lst ((-1::ef).map U.int)))(hr:Y[jr]?=some (.lst ((-1::rf).map U.int)))(wl:∃z,Y[lw]?=some (.lst [.int z]))(n1:jr≠lw)(hl:rf.length<=900)(hef:∀c∈ef,c∈rf) :
  ∃v Y',GN (rT lw most many jh jw r5 (some (.ref jr)) r7 r8 r9 (some (.ref je)) r11 r12) Y=some (.int v,Y')/\Wl lw Y Y'/\(v=-1\/v∈rf):=by
 obtain⟨v1,hv1⟩:∃v1,v1=ef.getLast?.getD (-1):=⟨_,rfl⟩;have m1:v1=-1\/v1∈rf:=by
  rw[hv1];cases hg:ef.getLast? with
  |none=>exact .inl rfl
  |some x=>exact .inr (hef x (List.mem_of_getLast? hg))
 have a1:atI ((-1::ef).map U.int) (-1)=some (.int v1):=by rw[hv1];exact A0 ef
 obtain⟨eu,heu⟩:∃eu,eu=(-1::ef).map U.int:=⟨_,rfl⟩;obtain⟨ru,hru⟩:∃ru,ru=(-1::rf).map U.int:=⟨_,rfl⟩;have lru:ru.length=rf.length+1:=by rw[hru];simp
 rw[<-heu]at he a1;rw[<-hru]at hr;obtain⟨d,Y1,e1,w1,l1,d0,d1⟩:=c7 (m:=((ru.length:Nat):Int)) wl (by omega) (by omega);have hr1:Y1[jr]?=some (.lst ru):=w1.get hr n1;obtain⟨v2,a2,m2⟩:∃v2,atI ru d=some (.int v2)/\(v2=-1\/v2∈rf):=by
  have hi:d.toNat<(-1::rf).length:=by simp;omega
  have:=gC (xs:=ru) (j:=d.toNat) (v:=.int (-1::rf)[d.toNat]) (by rw[hru,Qr,Q6 hi];rfl);rw[show((d.toNat:Nat):Int)=d from by omega]at this;exact⟨_,this,QH.mp (Z9 hi)⟩
 obtain⟨d2,Y2,e2,w2,l2,_,_⟩:=c7 (T:=Y1++[.lst [.int v1,.int v2]]) (lw:=lw) (m:=5) (by obtain⟨z,h⟩:=w1.well;exact⟨z,ak h⟩) (by omega) (by omega);have ll:lw<Y1.length:=by obtain⟨z,h⟩:=w1.well;exact(Q7.mp h).1
 have g2:Y2[Y1.length]?=some (.lst [.int v1,.int v2]):=w2.get (by rw[ga0];rfl) (by omega);have W:Wl lw Y Y2:=(w1.trans (.app w1.well _)).trans w2;by_cases h0:d2=0
 ·have h0':decide (d2=0)=true:=decide_eq_true h0;refine⟨v2,Y2,?_,W,m2⟩;unfold GN;rwa[rT,sg,kS,he,a1,hr,e1,hr1,a2,e2,h0',if_true,g2]
 ·have h0':decide (d2=0)=false:=decide_eq_false h0;refine⟨v1,Y2,?_,W,m1⟩;unfold GN;rwa[rT,sg,kS,he,a1,hr,e1,hr1,a2,e2,h0',Qx,if_false,g2]
end
section
variable{κ κ' α β:Type}[DecidableEq κ][DecidableEq κ']
theorem qX(kf:κ->κ')(vf:α->β)(inj:∀a b,kf a=kf b->a=b)(ps:List (κ×α))(k:κ)(v:α):i7 (ps.map fun p=>(kf p.1,vf p.2)) (kf k) (vf v)=(i7 ps k v).map fun p=>(kf p.1,vf p.2):=by
 have hd:∀a,decide (kf a=kf k)=decide (a=k):=fun a=>by
  rw[ZE,decide_eq_true_eq,decide_eq_true_eq];exact⟨inj a k,fun h=>by rw[h]⟩
 have ha:((ps.map fun p=>(kf p.1,vf p.2)).any fun kv=>decide (kv.1=kf k))=ps.any fun kv=>decide (kv.1=k):=by
  rw[List.any_map];congr 1;funext p;exact hd p.1
 unfold i7;rw[ha];by_cases h:(ps.any fun kv=>decide (kv.1=k))=true
 ·rw[if_pos h,if_pos h,Qa,Qa];refine List.map_congr_left fun p _=>?_;show(if kf p.1=kf k then(kf p.1,vf v)else(kf p.1,vf p.2))=_;by_cases e:p.1=k
  ·simp[e]
  ·have e':¬kf p.1=kf k:=fun z=>e (inj _ _ z);simp[e,e']
 ·rw[if_neg h,if_neg h,Qn];rfl
theorem vi{ps:List (κ×α)}{k:κ}{v:α}(h:(ps.map (·.1)).Nodup):((i7 ps k v).map (·.1)).Nodup:=by
 unfold i7;by_cases e:(ps.any fun kv=>decide (kv.1=k))=true
 ·rw[if_pos e,Qa];have:((fun x:κ×α=>x.1) ∘ fun kv=>if kv.1=k then(kv.1,v)else kv)=fun x=>x.1:=by
   funext p;show(if p.1=k then(p.1,v)else p).1=p.1;split<;>rfl
  rw[this];exact h
 ·rw[if_neg e,Qn,X6];refine⟨h,by simp,fun a ha b hb z=>?_⟩;rw[List.map_singleton,Qv]at hb;obtain⟨p,hp,hp2⟩:=Qu.mp ha;exact e (List.any_eq_true.mpr ⟨p,hp,decide_eq_true (by rw[hp2,z,hb])⟩)
theorem nR{ps:List (κ×α)}{k:κ}{v:α}{q:κ×α}(h:q∈i7 ps k v):q=(k,v)\/q∈ps:=by
 unfold i7 at h;split at h
 ·obtain⟨p,hp,e⟩:=Qu.mp h;by_cases z:p.1=k
  ·rw[if_pos z]at e;rw[<-e,z];exact .inl rfl
  ·rw[if_neg z]at e;rw[<-e];exact .inr hp
 ·rcases Qd.mp h with z|z
  ·exact .inr z
  ·rw[Qv.mp z];exact .inl rfl
theorem qG{ps:List (κ×α)}{p:κ×α}(nd:(ps.map (·.1)).Nodup)(h:p∈ps):kW ps p.1=some p.2:=by
 unfold kW;induction ps with
 |nil=>cases h
 |cons q r ih=>
  rw[QF,ZJ]at nd;rcases QH.mp h with z|z
  ·subst z;simp
  ·have:q.1≠p.1:=fun e=>nd.1 (Qu.mpr ⟨p,z,e.symm⟩);rw[Zy,decide_eq_false this];exact ih nd.2 z
end
def kT(p:Int×Int):List Key:=[.inl p.1,.inl p.2]
theorem wd:∀a b:Int×Int,kT a=kT b->a=b:=fun a b h=>by
 unfold kT at h;injection h with h1 h2;injection h2 with h3 _;exact Prod.ext (Sum.inl.inj h1) (Sum.inl.inj h3)
def iT(ps:List ((Int×Int)×Int)):List (List Key×U):=ps.map fun p=>(kT p.1,.int p.2)
def o9(ps:List ((Int×Int)×Unit)):List (List Key×U):=ps.map fun p=>(kT p.1,.bl true)
theorem yN(ps:List ((Int×Int)×Int))(k:Int×Int)(v:Int):i7 (iT ps) (kT k) (.int v)=iT (i7 ps k v):=qX kT U.int wd ps k v
theorem yM(ps:List ((Int×Int)×Unit))(k:Int×Int):i7 (o9 ps) (kT k) (.bl true)=o9 (i7 ps k ()):=qX kT (fun _=>U.bl true) wd ps k ()
theorem nh{ca cb:CS}{ρ ρ':Rho}{S S':Sto}(h:ca ρ S=some (.nx,ρ',S')):bq ca cb ρ S=cb ρ' S':=by rw[nr,h,Q8,iU]
section
variable{lw jw jh jk:Nat}{Y:Sto}{most many a b:Int}{os rf ef:List Int}{wr:List (List Int)}{r5 r6 r7 r8 r9 r10 r11 r12:Option U}
def InB(many:Int)(wr:List (List Int))(ps:List ((Int×Int)×Int)):Prop:=∀p∈ps,(0<=p.1.1/\p.1.1<many)/\0<=p.1.2/\p.1.2<wr.length/\(p.2=-1\/(p.2∈wr.getD p.1.2.toNat []/\p.2≠p.1.1))
theorem CZ{ps:List ((Int×Int)×Int)}(n1:jw≠lw)(n2:jh≠lw)(n3:jk≠lw)(n4:jw≠jk)(n5:jh≠jk)(m0:1<=many)(m1:many<=90)(w0:1<=wr.length)(wl1:wr.length<=90)
  (hh:Y[jh]?=some (.lst (os.map U.int))) (hw:Y[jw]?=some (.lst (wr.map rwU))) (hk:Y[jk]?=some (.dit (iT ps))) (wl:∃z,Y[lw]?=some (.lst [.int z])) (ho:os.length<=90) (hm:∀a,0<=a->a<many->a∈os) (hr:∀r∈wr,(∀z∈r,z∈os)/\r.length<=90/\r.Nodup) (hp:ps.length<=90) (ib:InB many wr ps) (nd:(ps.map (·.1)).Nodup) :
  ∃(ps':List ((Int×Int)×Int)) (Y':Sto) (r5' r6' r9' r10':Option U),cW dC dQ (rT lw most many jh jw r5 r6 (some (.ref jk)) r8 r9 r10 r11 r12) Y=some (.nx,rT lw most many jh jw r5' r6' (some (.ref jk)) r8 r9' r10' r11 r12,Y')/\Y'[jk]?=some (.dit (iT ps'))/\Fw lw jk Y Y'/\InB many wr ps'/\(ps'.map (·.1)).Nodup/\ps'.length<=ps.length+1:=by
 obtain⟨a,Y1,e1,w1,l1,a0,a1⟩:=c7 (m:=many) wl (by omega) (by omega);have hw1:Y1[jw]?=some (.lst (wr.map rwU)):=w1.get hw n1;obtain⟨b,Y2,e2,w2,l2,b0,b1⟩:=c7 (m:=(wr.length:Int)) w1.well (by omega) (by omega);have hw2:Y2[jw]?=some (.lst (wr.map rwU)):=w2.get hw1 n1;have hb:b.toNat<wr.length:=by omega
 have hrow:wr.getD b.toNat []∈wr:=by rw[QQ,Q6 hb];exact Z9 hb
 obtain⟨q1,q2,_⟩:=hr _ hrow;obtain⟨G3,k3,e3,g3⟩:=B6 (lw:=lw) (most:=most) (many:=many) (jh:=jh) (r6:=r6) (r7:=some (.ref jk)) (r8:=r8) (a:=a) (r10:=r10) (r11:=r11) (r12:=r12) hw2 b0 b1 (by omega);obtain⟨rf,hrf⟩:∃rf,rf=(wr.getD b.toNat []).filter (fun c=>!decide (c=a)):=⟨_,rfl⟩;rw[<-hrf]at g3;have lrf:rf.length<=90:=by rw[hrf];exact Qc (ZP ..) q2
 have hrm:∀c∈rf,c∈os:=fun c hc=>by rw[hrf]at hc;exact q1 c (Qi.mp hc).1
 have gr:(Y2++G3)[Y2.length+k3]?=some (.lst ((-1::rf).map U.int)):=by rw[ga];exact g3
 have hh2:(Y2++G3)[jh]?=some (.lst (os.map U.int)):=ak (w2.get (w1.get hh n2) n2);obtain⟨G4,k4,ef,e4,g4,hef⟩:=Dq (lw:=lw) (most:=most) (many:=many) (jw:=jw) (r5:=some (.int b)) (r7:=some (.ref jk)) (r8:=r8) (a:=a) (r10:=r10) (r11:=r11) (r12:=r12) gr hh2 (hm a a0 a1) hrm (by omega) (by omega);have ge:(Y2++G3++G4)[(Y2++G3).length+k4]?=some (.lst ((-1::ef).map U.int)):=by rw[ga];exact g4
 have ll:lw<Y2.length:=by obtain⟨z,h⟩:=w2.well;exact(Q7.mp h).1
 have wl4:∃z,(Y2++G3++G4)[lw]?=some (.lst [.int z]):=by obtain⟨z,h⟩:=w2.well;exact⟨z,ak (ak h)⟩
 obtain⟨v,Y5,e5,w5,hv⟩:=BN (most:=most) (many:=many) (jh:=jh) (jw:=jw) (r5:=some (.int b)) (r7:=some (.ref jk)) (r8:=r8) (r9:=some (.int a)) (r11:=r11) (r12:=r12) ge (ak gr) wl4 (by omega) (by omega) hef;have W:Wl lw Y Y5:=((w1.trans w2).trans ((Wl.app w2.well G3).trans (.app (by obtain⟨z,h⟩:=w2.well;exact⟨z,ak h⟩) G4))).trans w5;have hk5:Y5[jk]?=some (.dit (iT ps)):=W.get hk n3;have lk5:jk<Y5.length:=(Q7.mp hk5).1;have hlim:(iT ps).length<LIM/\[U.int a,U.int b].length<=LIM:=by unfold LIM iT;rw[Q9];exact⟨by omega,by simp⟩
 have htk:BU [U.int a,U.int b]=some (kT (a,b)):=rfl;refine⟨i7 ps (a,b) v,Y5.set jk (.dit (iT (i7 ps (a,b) v))),some (.int b),some (.ref (Y2.length+k3)),some (.int a),some (.ref ((Y2++G3).length+k4)),?_,by rw[ZZ,if_pos rfl,if_pos lk5],(Fw.of W).trans (.set W.well n3 _),fun p hp=>?_,vi nd,rA ..⟩
 ·unfold cW;refine(nh (ρ':=rT lw most many jh jw r5 r6 (some (.ref jk)) r8 (some (.int a)) r10 r11 r12) (S':=Y1) ?_).trans ?_
  ·rwa[rT,e1]
  refine(nh (ρ':=rT lw most many jh jw (some (.int b)) r6 (some (.ref jk)) r8 (some (.int a)) r10 r11 r12) (S':=Y2) ?_).trans ?_
  ·rwa[rT,hw1,Q9,e2]
  refine(nh (ρ':=rT lw most many jh jw (some (.int b)) (some (.ref (Y2.length+k3))) (some (.ref jk)) r8 (some (.int a)) r10 r11 r12) (S':=Y2++G3) ?_).trans ?_
  ·show cm 6 HL _ _=_;rw[ph,e3,Q8,jG];rfl
  refine(nh (ρ':=rT lw most many jh jw (some (.int b)) (some (.ref (Y2.length+k3))) (some (.ref jk)) r8 (some (.int a)) (some (.ref ((Y2++G3).length+k4))) r11 r12) (S':=Y2++G3++G4) ?_).trans ?_
  ·show cm 10 IW _ _=_;rw[ph,e4,Q8,jG];rfl
  ·show gv (ao 7) (ag (ao 9) (ag (ao 5) aB)) GN _ _=_;unfold gv;rw[e5,Q8];have hc7:ao 7 (rT lw most many jh jw (some (.int b)) (some (.ref (Y2.length+k3))) (some (.ref jk)) r8 (some (.int a)) (some (.ref ((Y2++G3).length+k4))) r11 r12) Y5=some (.ref jk,Y5):=rfl;have hca:ag (ao 9) (ag (ao 5) aB) (rT lw most many jh jw (some (.int b)) (some (.ref (Y2.length+k3))) (some (.ref jk)) r8 (some (.int a)) (some (.ref ((Y2++G3).length+k4))) r11 r12) Y5=some ([.int a,.int b],Y5):=rfl;dsimp only;rw[hc7,Q8];dsimp only;rw[hca,Q8];dsimp only;rw[hk5];dsimp only;rw[htk,Q8,if_pos hlim,yN]
 ·rcases nR hp with h|h
  ·rw[h];refine⟨⟨a0,a1⟩,b0,b1,hv.imp id fun z=>?_⟩;rw[hrf]at z;obtain⟨z1,z2⟩:=Qi.mp z;exact⟨z1,by simpa using z2⟩
  ·exact ib p h
theorem vY(n1:jw≠lw)(n2:jh≠lw)(n3:jk≠lw)(n4:jw≠jk)(n5:jh≠jk)(m0:1<=many)(m1:many<=90)(w0:1<=wr.length)(wl1:wr.length<=90)(ho:os.length<=90)(hm:∀a,0<=a->a<many->a∈os)(hr:∀r∈wr,(∀z∈r,z∈os)/\r.length<=90/\r.Nodup) :
  ∀(us:List U) (ps:List ((Int×Int)×Int)) (Y:Sto) (r5 r6 r8 r9 r10:Option U),Y[jh]?=some (.lst (os.map U.int))->Y[jw]?=some (.lst (wr.map rwU))->Y[jk]?=some (.dit (iT ps))->(∃z,Y[lw]?=some (.lst [.int z]))->ps.length+us.length<=90->InB many wr ps->(ps.map (·.1)).Nodup->
  ∃(ps':List ((Int×Int)×Int)) (Y':Sto) (r5' r6' r8' r9' r10':Option U),cD (fun _=>True) (gNm 8) (cW dC dQ) us (rT lw most many jh jw r5 r6 (some (.ref jk)) r8 r9 r10 r11 r12) Y=some (.nx,rT lw most many jh jw r5' r6' (some (.ref jk)) r8' r9' r10' r11 r12,Y')/\Y'[jk]?=some (.dit (iT ps'))/\Fw lw jk Y Y'/\InB many wr ps'/\(ps'.map (·.1)).Nodup/\ps'.length<=ps.length+us.length
 |[],ps,Y,r5,r6,r8,r9,r10,h1,h2,h3,h4,_,h6,h7=>⟨ps,Y,r5,r6,r8,r9,r10,dE trivial,h3,.of (.refl h4),h6,h7,by simp⟩
 |u::us,ps,Y,r5,r6,r8,r9,r10,h1,h2,h3,h4,h5,h6,h7=>by
  rw[QB]at h5;obtain⟨ps1,Y1,s5,s6,s9,s10,e,k1,k2,k3,k4,k5⟩:=CZ (most:=most) (r5:=r5) (r6:=r6) (r8:=some u) (r9:=r9) (r10:=r10) (r11:=r11) (r12:=r12) n1 n2 n3 n4 n5 m0 m1 w0 wl1 h1 h2 h3 h4 ho hm hr (by omega) h6 h7;obtain⟨ps',Y',t5,t6,t8,t9,t10,ih,i1,i2,i3,i4,i5⟩:=vY n1 n2 n3 n4 n5 m0 m1 w0 wl1 ho hm hr us ps1 Y1 s5 s6 (some u) s9 s10 (k2.get h1 n2 n5) (k2.get h2 n1 n4) k1 k2.well (by omega) k3 k4;exact⟨ps',Y',t5,t6,t8,t9,t10,(eD trivial rfl e).trans ih,i1,k2.trans i2,i3,i4,by rw[QB];omega⟩
end
section
variable{lw jw jh jk jt:Nat}{Y S:Sto}{most many a b:Int}{os:List Int}{wr:List (List Int)}{r5 r6 r7 r8 r9 r10 r11 r12:Option U}
def TmB(many:Int)(ts:List ((Int×Int)×Unit)):Prop:=∀p∈ts,(0<=p.1.1/\p.1.1<many)/\(0<=p.1.2/\p.1.2<many)/\p.1.1≠p.1.2
theorem BS{ts:List ((Int×Int)×Unit)}(n2:jh≠lw)(n3:jt≠lw)(m0:1<=many)(m1:many<=90)
  (hh:Y[jh]?=some (.lst (os.map U.int))) (hk:Y[jt]?=some (.dit (o9 ts))) (wl:∃z,Y[lw]?=some (.lst [.int z])) (ho:os.length<=90) (hm:∀a,0<=a->a<many->a∈os) (hp:ts.length<=90) (nd:(ts.map (·.1)).Nodup) (tb:TmB many ts) :
  ∃(ts':List ((Int×Int)×Unit)) (Y':Sto) (r9' r12':Option U),ck dC dQ (rT lw most many jh jw r5 r6 r7 r8 r9 r10 (some (.ref jt)) r12) Y=some (.nx,rT lw most many jh jw r5 r6 r7 r8 r9' r10 (some (.ref jt)) r12',Y')/\Y'[jt]?=some (.dit (o9 ts'))/\Fw lw jt Y Y'/\(ts'.map (·.1)).Nodup/\ts'.length<=ts.length+1/\TmB many ts':=by
 obtain⟨a,Y1,e1,w1,l1,a0,a1⟩:=c7 (m:=many) wl (by omega) (by omega);obtain⟨b,Y2,e2,w2,l2,b0,b1⟩:=c7 (m:=many) w1.well (by omega) (by omega);have W:=w1.trans w2;have hh2:Y2[jh]?=some (.lst (os.map U.int)):=W.get hh n2;have hk2:Y2[jt]?=some (.dit (o9 ts)):=W.get hk n3;have i1:aP (.ref jh) [.int a] Y2=some (.int (os.idxOf a:Nat),Y2):=bU hh2 (hm a a0 a1) (by omega);have i2:aP (.ref jh) [.int b] Y2=some (.int (os.idxOf b:Nat),Y2):=bU hh2 (hm b b0 b1) (by omega);have hput:a≠b->∀Y3,Wl lw Y Y3->∃(ts':List ((Int×Int)×Unit)) (Y':Sto),gv (ao 11) (ag (ao 9) (ag (ao 12) aB)) (cC (.bl true)) (rT lw most many jh jw r5 r6 r7 r8 (some (.int a)) r10 (some (.ref jt)) (some (.int b))) Y3=some (.nx,rT lw most many jh jw r5 r6 r7 r8 (some (.int a)) r10 (some (.ref jt)) (some (.int b)),Y')/\Y'[jt]?=some (.dit (o9 ts'))/\Fw lw jt Y Y'/\(ts'.map (·.1)).Nodup/\ts'.length<=ts.length+1/\TmB many ts':=fun nab Y3 W3=>by
  have hk3:Y3[jt]?=some (.dit (o9 ts)):=W3.get hk n3;have lk3:jt<Y3.length:=(Q7.mp hk3).1;have hlim:(o9 ts).length<LIM/\[U.int a,U.int b].length<=LIM:=by unfold LIM o9;rw[Q9];exact⟨by omega,by simp⟩
  have htk:BU [U.int a,U.int b]=some (kT (a,b)):=rfl;refine⟨i7 ts (a,b) (),Y3.set jt (.dit (o9 (i7 ts (a,b) ()))),?_,by rw[ZZ,if_pos rfl,if_pos lk3],(Fw.of W3).trans (.set W3.well n3 _),vi nd,rA ..,fun p hp=>(nR hp).elim (fun e=>by rw[e];exact⟨⟨a0,a1⟩,⟨b0,b1⟩,nab⟩) (tb p)⟩;unfold gv;have hcv:cC (.bl true) (rT lw most many jh jw r5 r6 r7 r8 (some (.int a)) r10 (some (.ref jt)) (some (.int b))) Y3=some (.bl true,Y3):=rfl;have hco:ao 11 (rT lw most many jh jw r5 r6 r7 r8 (some (.int a)) r10 (some (.ref jt)) (some (.int b))) Y3=some (.ref jt,Y3):=rfl;have hca:ag (ao 9) (ag (ao 12) aB) (rT lw most many jh jw r5 r6 r7 r8 (some (.int a)) r10 (some (.ref jt)) (some (.int b))) Y3=some ([.int a,.int b],Y3):=rfl;rw[hcv,Q8];dsimp only;rw[hco,Q8];dsimp only;rw[hca,Q8];dsimp only;rw[hk3];dsimp only;rw[htk,Q8,if_pos hlim,yM]
 have s1:cm 9 (cCB dC (ag (ao 0) (ag (ao 2) aB))) (rT lw most many jh jw r5 r6 r7 r8 r9 r10 (some (.ref jt)) r12) Y=some (.nx,rT lw most many jh jw r5 r6 r7 r8 (some (.int a)) r10 (some (.ref jt)) r12,Y1):=by
  rwa[rT,e1]
 have s2:cm 12 (cCB dC (ag (ao 0) (ag (ao 2) aB))) (rT lw most many jh jw r5 r6 r7 r8 (some (.int a)) r10 (some (.ref jt)) r12) Y1=some (.nx,rT lw most many jh jw r5 r6 r7 r8 (some (.int a)) r10 (some (.ref jt)) (some (.int b)),Y2):=by
  rwa[rT,e2]
 have fin:∀(bb:Bool) (Y3:Sto),(bb=true->a≠b)->Wl lw Y Y3->DG (aL (cOp fNe (ao 9) (ao 12))) (cOr (aL (cOp fLt (cBM aP (ao 3) (ag (ao 9) aB)) (cBM aP (ao 3) (ag (ao 12) aB)))) (aL (cOp fEq (cCB dC (ag (ao 0) (ag (cC (.int 6)) aB))) (cC (.int 0))))) (rT lw most many jh jw r5 r6 r7 r8 (some (.int a)) r10 (some (.ref jt)) (some (.int b))) Y2=some (bb,Y3)->
   ∃(ts':List ((Int×Int)×Unit)) (Y':Sto) (r9' r12':Option U),ck dC dQ (rT lw most many jh jw r5 r6 r7 r8 r9 r10 (some (.ref jt)) r12) Y=some (.nx,rT lw most many jh jw r5 r6 r7 r8 r9' r10 (some (.ref jt)) r12',Y')/\Y'[jt]?=some (.dit (o9 ts'))/\Fw lw jt Y Y'/\(ts'.map (·.1)).Nodup/\ts'.length<=ts.length+1/\TmB many ts':=fun bb Y3 nab W3 ht=>by
  unfold ck;cases bb with
  |true=>
   obtain⟨ts',Y',e,k⟩:=hput (nab rfl) Y3 W3;refine⟨ts',Y',some (.int a),some (.int b),?_,k⟩;rw[nh s1,nh s2,sh,ht,Q8,qx];exact e
  |false=>
   refine⟨ts,Y3,some (.int a),some (.int b),?_,W3.get hk n3,.of W3,nd,by omega,tb⟩;rw[nh s1,nh s2,sh,ht,Q8,qw];rfl
 by_cases h1:a=b
 ·have h1':decide (a=b)=true:=decide_eq_true h1;refine fin false Y2 (fun z=>by cases z) W ?_;rwa[rT,h1']
 ·have h1':decide (a=b)=false:=decide_eq_false h1;cases h2:decide (((os.idxOf a:Nat):Int)<((os.idxOf b:Nat):Int))with
  |true=>
   refine fin true Y2 (fun _=>h1) W ?_;rwa[rT,h1',hh2,i1,i2,h2]
  |false=>
   obtain⟨d,Y3,e3,w3,l3,_,_⟩:=c7 (m:=6) w2.well (by omega) (by omega);refine fin (decide (d=0)) Y3 (fun _=>h1) (W.trans w3) ?_;rwa[rT,h1',hh2,i1,i2,h2,e3]
theorem uE(n2:jh≠lw)(n3:jt≠lw)(n5:jh≠jt)(m0:1<=many)(m1:many<=90)(ho:os.length<=90)(hm:∀a,0<=a->a<many->a∈os) :
  ∀(us:List U) (ts:List ((Int×Int)×Unit)) (Y:Sto) (r8 r9 r12:Option U),Y[jh]?=some (.lst (os.map U.int))->Y[jt]?=some (.dit (o9 ts))->(∃z,Y[lw]?=some (.lst [.int z]))->ts.length+us.length<=90->(ts.map (·.1)).Nodup->TmB many ts->
  ∃(ts':List ((Int×Int)×Unit)) (Y':Sto) (r8' r9' r12':Option U),cD (fun _=>True) (gNm 8) (ck dC dQ) us (rT lw most many jh jw r5 r6 r7 r8 r9 r10 (some (.ref jt)) r12) Y=some (.nx,rT lw most many jh jw r5 r6 r7 r8' r9' r10 (some (.ref jt)) r12',Y')/\Y'[jt]?=some (.dit (o9 ts'))/\Fw lw jt Y Y'/\(ts'.map (·.1)).Nodup/\ts'.length<=ts.length+us.length/\TmB many ts'
 |[],ts,Y,r8,r9,r12,h1,h3,h4,_,h7,h8=>⟨ts,Y,r8,r9,r12,dE trivial,h3,.of (.refl h4),h7,by simp,h8⟩
 |u::us,ts,Y,r8,r9,r12,h1,h3,h4,h5,h7,h8=>by
  rw[QB]at h5;obtain⟨ts1,Y1,s9,s12,e,k1,k2,k4,k5,k6⟩:=BS (most:=most) (jw:=jw) (r5:=r5) (r6:=r6) (r7:=r7) (r8:=some u) (r9:=r9) (r10:=r10) (r12:=r12) n2 n3 m0 m1 h1 h3 h4 ho hm (by omega) h7 h8;obtain⟨ts',Y',t8,t9,t12,ih,i1,i2,i4,i5,i6⟩:=uE n2 n3 n5 m0 m1 ho hm us ts1 Y1 (some u) s9 s12 (k2.get h1 n2 n5) k1 k2.well (by omega) k4 k6;exact⟨ts',Y',t8,t9,t12,(eD trivial rfl e).trans ih,i1,k2.trans i2,i4,by rw[QB];omega,i6⟩
def pI(p:(Int×Int)×Int):List Int:=[p.1.1,p.1.2,p.2]
def DS(p:(Int×Int)×Unit):List Int:=[p.1.1,p.1.2]
theorem lq:∀ts:List ((Int×Int)×Unit),sG (o9 ts)=some (ts.map DS)
 |[]=>rfl
 |p::ts=>by
  have ih:=lq ts;unfold o9 at ih ⊢;rw[QF,sG,ih];rfl
theorem B8{ts:List ((Int×Int)×Unit)}(h:(ts.map (·.1)).Nodup):(ts.map DS).Nodup:=by
 rw[Zx,Zg]at h ⊢;refine h.imp fun{p q} hn e=>hn ?_;unfold DS at e;injection e with e1 e2;injection e2 with e3 _;exact Prod.ext e1 e3
theorem B7{ps:List ((Int×Int)×Int)}(h:(ps.map (·.1)).Nodup):(ps.map pI).Nodup:=by
 rw[Zx,Zg]at h ⊢;refine h.imp fun{p q} hn e=>hn ?_;unfold pI at e;injection e with e1 e2;injection e2 with e3 _;exact Prod.ext e1 e3
theorem hJ{ps:List (List Int)}{r:List Int}(h:r∈fQ ps):r∈ps:=by
 unfold fQ at h;split at h
 ·rename_i hx;exact(hx.choose_spec.2 r).mp h
 ·cases h
theorem nJ{ps:List (List Int)}:(fQ ps).length<=ps.length:=by
 have nd:(fQ ps).Nodup:=by
  unfold fQ;split
  ·rename_i hx;exact hx.choose_spec.1.imp fun{a b} h e=>by subst e;rw[jU]at h;cases h
  ·exact List.nodup_nil
 exact List.Nodup.length_le_of_subset nd fun r hr=>hJ hr
theorem sA{ts:List ((Int×Int)×Unit)}(h:S[jt]?=some (.dit (o9 ts)))(nd:(ts.map (·.1)).Nodup)(hl:ts.length<64):cw [.ref jt] S=some (.ref S.length,S++[.lst ((fQ (ts.map DS)).map rwU)]):=by
 simp only[cw,h,lq,Q8];rw[if_pos ⟨fun p hp=>by obtain⟨q,_,rfl⟩:=Qu.mp hp;exact List.cons_ne_nil _ _,B8 nd,by rw[Q9];exact hl⟩]
theorem sC{ps:List ((Int×Int)×Int)}{l:Nat}(h:S[l]?=some (.lst ((ps.map pI).map rwU)))(nd:(ps.map (·.1)).Nodup)(hl:ps.length<64):cw [.ref l] S=some (.ref S.length,S++[.lst ((fQ (ps.map pI)).map rwU)]):=by
 simp only[cw,h,nN,Q8];rw[if_pos ⟨fun p hp=>by obtain⟨q,_,rfl⟩:=Qu.mp hp;exact List.cons_ne_nil _ _,B7 nd,by rw[Q9];exact hl⟩]
def HF:CE:=rQ (ao 7) (gNm 0) (cOp dF (ao 0) (xm (ag (cOp Di (ao 1) (ao 0)) aB))) 1 [7]
theorem BP{ps:List ((Int×Int)×Int)}{ρ:Rho}(h7:ρ[7]?=some (some (.ref jk)))(hk:S[jk]?=some (.dit (iT ps)))(nd:(ps.map (·.1)).Nodup)(hl:ps.length<=900):HF ρ S=some (.ref S.length,S++[.lst ((ps.map pI).map rwU)]):=by
 have hv:ao 7 ρ S=some (.ref jk,S):=by unfold ao;rw[h7]
 have lk:jk<S.length:=(Q7.mp hk).1;unfold HF rQ xl;rw[hv,Q8];simp only[hk];refine EI fun ep=>?_;have ek:∀X:Sto,(S.set jk (.fdt ep (iT ps))++X)[jk]?=some (.fdt ep (iT ps)):=fun X=>ak (by rw[ZZ,if_pos rfl,if_pos lk]);have key:=oJ (S:=S.set jk (.fdt ep (iT ps))) (ok:=fun S'=>S'[jk]?=some (.fdt ep (iT ps))) (gg:=gNm 0) (ce:=cOp dF (ao 0) (xm (ag (cOp Di (ao 1) (ao 0)) aB))) (f:=fun p:(Int×Int)×Int=>.tup [.int p.1.1,.int p.1.2]) (v:=fun p=>rwU (pI p)) (Rel:=fun ρ=>∃r0,ρ=[r0,some (.ref jk)]) (fun ys G=>ek _) ps [] [] [none,some (.ref jk)] ⟨_,rfl⟩ (by simp;omega) (fun p hp ys G ρ hρ=>by
  obtain⟨r0,rfl⟩:=hρ;refine⟨[some (.tup [.int p.1.1,.int p.1.2]),some (.ref jk)],⟨_,rfl⟩,rfl,?_⟩;have hva:kW (iT ps) (kT p.1)=some (.int p.2):=by
   have nd':((iT ps).map (·.1)).Nodup:=by
    unfold iT;rw[Qa,Zx,Zg];rw[Zx,Zg]at nd;exact nd.imp fun{a b} hn e=>hn (wd _ _ e)
   exact qG (p:=(kT p.1,.int p.2)) nd' (Qu.mpr ⟨p,hp,rfl⟩)
  have hx:Di (.ref jk) (.tup [.int p.1.1,.int p.1.2]) (S.set jk (.fdt ep (iT ps))++(.lst ys::G))=some (.int p.2,S.set jk (.fdt ep (iT ps))++(.lst ys::G)):=by
   have ht:BU [U.int p.1.1,U.int p.1.2]=some (kT p.1):=rfl;simp only[Di,ht,Q8,ek,hva]
  have ha:dF (.tup [.int p.1.1,.int p.1.2]) (.tup [.int p.2]) (S.set jk (.fdt ep (iT ps))++(.lst ys::G))=some (rwU (pI p),S.set jk (.fdt ep (iT ps))++(.lst ys::G)):=by
   unfold dF;simp only;rw[if_pos (by unfold LIM;simp)];rfl
  rwa[hx,ha])
 rw[Zc]at key;have ef:(iT ps).map (fun q=>U.tup (q.1.map kU))=ps.map fun p:(Int×Int)×Int=>.tup [.int p.1.1,.int p.1.2]:=by unfold iT;rw[Qa];rfl
 have er:jM 1 [7] ρ=[none,some (.ref jk)]:=by simp only[jM,ZU,QF,Zj,h7,Ql,Qq,Qh]
 simp only[Qh]at key;rw[ef,er,key,Q8];have em:(ps.map fun p=>rwU (pI p))=(ps.map pI).map rwU:=by rw[Qa];rfl
 have e2:(S.set jk (.fdt ep (iT ps))++[O.lst (ps.map fun p=>rwU (pI p))]).set jk (.dit (iT ps))=S++[.lst ((ps.map pI).map rwU)]:=by
  rw[List.set_append_left _ _ (by rw[Zc];exact lk),yB hk,em]
 simp only[ek,e2]
theorem GX{cr:CA}{ρ:Rho}{S S1:Sto}{n:Int}{g:CG}{b:CS}(h:cr ρ S=some ([.int n],S1))(n0:0<=n)(n1:n<=1000):iH (bW cr) g b ρ S=cD (fun _=>True) g b (bz 0 n.toNat) ρ S1:=by
 have hb:-(2^62)<=n/\n<2^62:=by omega
 unfold iH bW;rw[h,Q8];simp only[hb,and_self,if_true,Q8]
def xN:Fn:=fnU 13 2 (dq dC dQ)
structure eF(many:Int)(tms:List (Int×Int))(wr lk:List (List Int)):Prop where
 htm:∀p∈tms,(0<=p.1/\p.1<many)/\(0<=p.2/\p.2<many)/\p.1≠p.2
 htl:tms.length<=60
 hwr:∀r∈wr,(∀x∈r,0<=x/\x<many)/\r.Nodup
 hwl:1<=wr.length/\wr.length<=6
 hlk:∀r∈lk,∃a b v,r=[a,b,v]/\(0<=a/\a<many)/\(0<=b/\b<wr.length)/\(v=-1\/(v∈wr.getD b.toNat []/\v≠a))
 hll:lk.length<=60
theorem k8:∀{rs:List (List Int)},(∀r∈rs,∃a b,r=[a,b])->∃ps:List (Int×Int),rs=ps.map fun p=>[p.1,p.2]
 |[],_=>⟨[],rfl⟩
 |r::rs,h=>by
  obtain⟨a,b,rfl⟩:=h r QK;obtain⟨ps,e⟩:=k8 (rs:=rs) fun x hx=>h x (QU _ hx);exact⟨(a,b)::ps,by rw[e];rfl⟩
theorem yw(wl:∃z,Y[lw]?=some (.lst [.int z]))(m0:1<=most)(m1:most<=30):∃(many:Int) (tms:List (Int×Int)) (wr lk:List (List Int)) (Y':Sto),xN [.ref lw,.int most] Y=some (aV many (.tup (tms.map pP)) wr lk,Y')/\Wl lw Y Y'/\(1<=many/\many<=most/\tms.length<=30)/\eF many tms wr lk:=by
 have hl0:lw<Y.length:=by obtain⟨z,h⟩:=wl;exact(Q7.mp h).1
 obtain⟨d,Y1,e1,w1,l1,d0,d1⟩:=c7 (m:=most) wl (by omega) (by omega);obtain⟨many,hmany⟩:∃many:Int,many=1+d:=⟨_,rfl⟩;obtain⟨os,Y2,jh,e2,h2,j2,w2,lo,on,mo⟩:=zl (many:=many) w1.well (by omega) (by omega);have ho:os.length<=90:=by omega
 have hm:∀a,0<=a->a<many->a∈os:=fun a a0 a1=>(mo a).mpr ⟨a0,a1⟩;have lh:jh<Y2.length:=(Q7.mp h2).1;have hl2:lw<Y2.length:=Qj (by omega) w2.len;obtain⟨d3,Y3,e3,w3,l3,d30,d31⟩:=c7 (T:=Y2++[.lst [],.lst [.int 3,.int 3,.int 6]]) (lw:=lw) (m:=3) (by obtain⟨z,h⟩:=w2.well;exact⟨z,ak h⟩) (by omega) (by omega);have g3:Y3[Y2.length+1]?=some (.lst [.int 3,.int 3,.int 6]):=w3.get (by rw[ga];rfl) (by omega);obtain⟨v,a3,v0,v1⟩:∃v:Int,atI [U.int 3,.int 3,.int 6] d3=some (.int v)/\0<v/\v<=6:=by
  have:d3=0\/d3=1\/d3=2:=by omega
  rcases this with rfl|rfl|rfl
  ·exact⟨3,rfl,by decide,by decide⟩
  ·exact⟨3,rfl,by decide,by decide⟩
  ·exact⟨6,rfl,by decide,by decide⟩
 obtain⟨d4,Y4,e4,w4,l4,d40,d41⟩:=c7 (m:=v) w3.well v0 (by omega);have W4:Wl lw (Y2++[.lst [],.lst [.int 3,.int 3,.int 6]]) Y4:=w3.trans w4;have h4:Y4[jh]?=some (.lst (os.map U.int)):=W4.get (ak h2) (by omega);have k4:Y4[Y2.length]?=some (.lst (([]:List (List Int)).map rwU)):=W4.get (by rw[ga0];rfl) (by omega);have nlen:(bz 0 (1+d4).toNat).length=(1+d4).toNat:=by simp[bz]
 obtain⟨wr,Y5,s5,s6,e5,k5,f5,c5,lw5⟩:=ud (lw:=lw) (jh:=jh) (jw:=Y2.length) (most:=most) (many:=many) (r7:=none) (r8:=none) (r9:=none) (r10:=none) (r11:=none) (r12:=none) (by omega) (by omega) (by omega) ho on (bz 0 (1+d4).toNat) [] Y4 none none h4 k4 W4.well (by rw[nlen];simp;omega) (fun r hr=>by cases hr);have wlen:wr.length=(1+d4).toNat:=by rw[lw5,nlen];simp
 have h5:Y5[jh]?=some (.lst (os.map U.int)):=f5.get h4 (by omega) (by omega);obtain⟨d6,Y6,e6,w6,l6,d60,d61⟩:=c7 (T:=Y5++[.dit []]) (lw:=lw) (m:=2*many+1) (by obtain⟨z,h⟩:=f5.well;exact⟨z,ak h⟩) (by omega) (by omega);have l5:Y2.length<Y5.length:=(Q7.mp k5).1;have l5h:jh<Y5.length:=(Q7.mp h5).1;have hl5:lw<Y5.length:=by obtain⟨z,h⟩:=f5.well;exact(Q7.mp h).1
 have nl6:(bz 0 d6.toNat).length=d6.toNat:=by simp[bz]
 obtain⟨ps,Y7,t5,t6,t8,t9,t10,e7,k7,f7,ib,nd7,lp⟩:=vY (lw:=lw) (jh:=jh) (jw:=Y2.length) (jk:=Y5.length) (most:=most) (many:=many) (wr:=wr) (r11:=none) (r12:=none) (by omega) (by omega) (by omega) (by omega) (by omega) (by omega) (by omega) (by omega) (by omega) ho hm c5 (bz 0 d6.toNat) [] Y6 s5 s6 none none none (w6.get (ak h5) (by omega)) (w6.get (ak k5) (by omega)) (w6.get (by rw[ga0];rfl) (by omega)) w6.well (by rw[nl6];simp;omega) (fun p hp=>by cases hp) List.nodup_nil;have hps:ps.length<64:=by rw[nl6]at lp;simp at lp;omega
 have h7:Y7[jh]?=some (.lst (os.map U.int)):=f7.get (w6.get (ak h5) (by omega)) (by omega) (by omega);have b7:Y7[Y2.length]?=some (.lst (wr.map rwU)):=f7.get (w6.get (ak k5) (by omega)) (by omega) (by omega);obtain⟨d8,Y8,e8,w8,l8,d80,d81⟩:=c7 (T:=Y7++[.dit []]) (lw:=lw) (m:=many+1) (by obtain⟨z,h⟩:=f7.well;exact⟨z,ak h⟩) (by omega) (by omega);have l7:Y5.length<Y7.length:=(Q7.mp k7).1;have nl8:(bz 0 d8.toNat).length=d8.toNat:=by simp[bz]
 obtain⟨ts,Y9,u8,u9,u12,e9,k9,f9,nd9,lt9,tb9⟩:=uE (lw:=lw) (jh:=jh) (jw:=Y2.length) (jt:=Y7.length) (most:=most) (many:=many) (r5:=t5) (r6:=t6) (r7:=some (.ref Y5.length)) (r10:=t10) (by omega) (by omega) (by omega) (by omega) (by omega) ho hm (bz 0 d8.toNat) [] Y8 t8 t9 none (w8.get (ak h7) (by omega)) (w8.get (by rw[ga0];rfl) (by omega)) w8.well (by rw[nl8];simp;omega) List.nodup_nil (fun p hp=>by cases hp);have hts:ts.length<64:=by rw[nl8]at lt9;simp at lt9;omega
 have b9:Y9[Y2.length]?=some (.lst (wr.map rwU)):=f9.get (w8.get (ak b7) (by omega)) (by omega) (by omega);have q9:Y9[Y5.length]?=some (.dit (iT ps)):=f9.get (w8.get (ak k7) (by omega)) (by omega) (by omega);obtain⟨tms,htms⟩:∃tms,tms=fQ (ts.map DS):=⟨_,rfl⟩;obtain⟨lk,hlk⟩:∃lk,lk=fQ (ps.map pI):=⟨_,rfl⟩;have x1:=sA (S:=Y9) k9 nd9 hts;have x2:=BP (S:=Y9++[.lst (tms.map rwU)]) (ρ:=rT lw most many jh Y2.length t5 t6 (some (.ref Y5.length)) u8 u9 t10 (some (.ref Y7.length)) u12) rfl (ak q9) nd7 (by omega);have x3:=sC (S:=Y9++[.lst (tms.map rwU)]++[.lst ((ps.map pI).map rwU)]) (l:=(Y9++[O.lst (tms.map rwU)]).length) (by rw[ga0];rfl) nd7 hps;rw[<-htms]at x1;rw[<-hlk]at x3;have W9:Wl lw Y Y9:=by
  have A:Wl lw Y Y4:=((w1.trans w2).trans (Wl.app w2.well _)).trans W4;have B:Wl lw Y Y5:=⟨Qc A.len f5.len,fun j hj n=>by rw[f5.keep j (Qj hj A.len) n (by have:=w1.len;have:=w2.len;omega),A.keep j hj n],f5.well⟩;have C:Wl lw Y Y6:=(B.trans (.app f5.well _)).trans w6;have D:Wl lw Y Y7:=⟨Qc C.len f7.len,fun j hj n=>by rw[f7.keep j (Qj hj C.len) n (by have:=B.len;omega),C.keep j hj n],f7.well⟩;have E:Wl lw Y Y8:=(D.trans (.app f7.well _)).trans w8;exact⟨Qc E.len f9.len,fun j hj n=>by rw[f9.keep j (Qj hj E.len) n (by have:=D.len;omega),E.keep j hj n],f9.well⟩
 obtain⟨pms,hpms⟩:=k8 (rs:=tms) fun r hr=>by
  rw[htms]at hr;obtain⟨p,_,rfl⟩:=Qu.mp (hJ hr);exact⟨_,_,rfl⟩
 have etm:tms.map rwU=pms.map pP:=by rw[hpms,Qa];rfl
 have hpl:pms.length<=30:=by
  have h1:tms.length=pms.length:=by rw[hpms,Q9]
  have h2:tms.length<=ts.length:=by rw[htms];exact Qc nJ (by rw[Q9];exact QJ _)
  rw[nl8]at lt9;simp at lt9;omega
 refine⟨many,pms,wr,lk,Y9++[.lst (tms.map rwU)]++[.lst ((ps.map pI).map rwU)]++[.lst (lk.map rwU)],?_,?_,⟨by omega,by omega,hpl⟩,⟨fun p hp=>?_,by omega,fun r hr=>?_,⟨by omega,by omega⟩,fun r hr=>?_,?_⟩⟩
 ·rw[<-etm];unfold xN;rw[p9];unfold dq;have L2n:(Y2++[O.lst []]).length=Y2.length+1:=by rw[QV];rfl
  have t2:∀S:Sto,ju (.int 2) (.int many) S=some (.int (2*many),S):=fun S=>lR (.inl (by decide));have nd0:X8 ([]:List U)=0:=rfl;rw[nh (ρ':=[some (.ref lw),some (.int most),some (.int many),none,none,none,none,none,none,none,none,none,none]) (S':=Y1) (by rw[hmany];rwa[e1])];rw[nh (ρ':=[some (.ref lw),some (.int most),some (.int many),some (.ref jh),none,none,none,none,none,none,none,none,none]) (S':=Y2) (by rwa[e2])];rw[nh (ρ':=rT lw most many jh Y2.length none none none none none none none none) (S':=Y2++[.lst []]) rfl];have a4:ag (cOp dF (cC (.int 1)) (cCB dC (ag (ao 0) (ag (cOp fIx (fN (ag (cC (.int 3)) (ag (cC (.int 3)) (ag (cC (.int 6)) aB)))) (cCB dC (ag (ao 0) (ag (cC (.int 3)) aB)))) aB)))) aB (rT lw most many jh Y2.length none none none none none none none none) (Y2++[.lst []])=some ([.int (1+d4)],Y4):=by
   rwa[rT,L2n,e3,g3,a3,e4]
  rw[nh ((GX a4 (by omega) (by omega)).trans e5)];rw[nh (ρ':=rT lw most many jh Y2.length s5 s6 (some (.ref Y5.length)) none none none none none) (S':=Y5++[.dit []]) rfl];have a6:ag (cCB dC (ag (ao 0) (ag (cOp dF (cOp ju (cC (.int 2)) (ao 2)) (cC (.int 1))) aB))) aB (rT lw most many jh Y2.length s5 s6 (some (.ref Y5.length)) none none none none none) (Y5++[.dit []])=some ([.int d6],Y6):=by
   rwa[rT,t2,e6]
  rw[nh ((GX a6 (by omega) (by omega)).trans e7)];rw[nh (ρ':=rT lw most many jh Y2.length t5 t6 (some (.ref Y5.length)) t8 t9 t10 (some (.ref Y7.length)) none) (S':=Y7++[.dit []]) rfl];have a8:ag (cCB dC (ag (ao 0) (ag (cOp dF (ao 2) (cC (.int 1))) aB))) aB (rT lw most many jh Y2.length t5 t6 (some (.ref Y5.length)) t8 t9 t10 (some (.ref Y7.length)) none) (Y7++[.dit []])=some ([.int d8],Y8):=by
   rwa[rT,e8]
  rw[nh ((GX a8 (by omega) (by omega)).trans e9)];show(fS (xm (ag (ao 2) (ag (cCB eR (ag (cCB cw (ag (ao 11) aB)) aB)) (ag (cCB eR (ag (ao 4) aB)) (ag (cCB eR (ag (cCB cw (ag HF aB)) aB)) aB))))) _ _).bind kFn=_;have b9':(Y9++[O.lst (tms.map rwU)])[Y2.length]?=some (.lst (wr.map rwU)):=ak b9;have c9:(Y9++[O.lst (tms.map rwU)])[Y9.length]?=some (.lst (tms.map rwU)):=by rw[ga0];rfl
  obtain⟨Z,hZ⟩:∃Z,Z=Y9++[O.lst (tms.map rwU)]++[.lst ((ps.map pI).map rwU)]:=⟨_,rfl⟩;rw[<-hZ]at x2 x3 ⊢;obtain⟨V,hV⟩:∃V,V=Z++[O.lst (lk.map rwU)]:=⟨_,rfl⟩;rw[<-hV]at x3 ⊢;have gV:V[Z.length]?=some (.lst (lk.map rwU)):=by rw[hV,ga0];rfl
  obtain⟨X,hX⟩:∃X,X=Y9++[O.lst (tms.map rwU)]:=⟨_,rfl⟩;rw[<-hX]at x1 x2 x3 b9' c9;simp only[rT]at x2;rwa[rT,x1,c9,b9',x2,x3,gV,aV]
 ·have A:=W9.well;refine((W9.trans (.app A _)).trans (.app ?_ _)).trans (.app ?_ _)
  ·obtain⟨z,h⟩:=A;exact⟨z,ak h⟩
  ·obtain⟨z,h⟩:=A;exact⟨z,ak (ak h)⟩
 ·have hm:[p.1,p.2]∈tms:=by rw[hpms];exact Qu.mpr ⟨p,hp,rfl⟩
  rw[htms]at hm;obtain⟨q,hq,e⟩:=Qu.mp (hJ hm);unfold DS at e;injection e with e1 e2;injection e2 with e3 _;have:=tb9 q hq;rw[e1,e3]at this;exact this
 ·obtain⟨q1,_,q3⟩:=c5 r hr;exact⟨fun x hx=>(mo x).mp (q1 x hx),q3⟩
 ·rw[hlk]at hr;obtain⟨p,hp,rfl⟩:=Qu.mp (hJ hr);obtain⟨p1,p2,p3,p4⟩:=ib p hp;exact⟨p.1.1,p.1.2,p.2,rfl,p1,⟨p2,p3⟩,p4⟩
 ·have h2:lk.length<=ps.length:=by rw[hlk];exact Qc nJ (by rw[Q9];exact QJ _)
  rw[nl6]at lp;simp at lp;omega
end
def Wp{α:Type}(x:Option α)(Q:α->Prop):Prop:=∃r,x=some r/\Q r
section
variable{α β:Type}{x:Option α}{Q P:α->Prop}
theorem ay{r:α}:Wp (some r) Q=Q r:=propext ⟨fun⟨_,e,h⟩=>by cases e;exact h,fun h=>⟨r,rfl,h⟩⟩
theorem Wp.bind{k:α->Option β}{Q:β->Prop}(h:Wp x fun r=>Wp (k r) Q):Wp (x.bind k) Q:=by
 obtain⟨r,rfl,s,e,q⟩:=h;exact⟨s,e,q⟩
theorem Wp.mono(h:Wp x P)(i:∀r,P r->Q r):Wp x Q:=let ⟨r,e,p⟩:=h;⟨r,e,i r p⟩
theorem Wp.of{r:α}(h:x=some r)(q:Q r):Wp x Q:=⟨r,h,q⟩
end
section
variable{α:Type}{ci:CI}{ca:CE}{gg:CG}{ct t:CT}{ce:CE}{cb:CS}{caps:List Nat}{ρ:Rho}{cs:Rho}{S S1:Sto}{ok:Sto->Prop}{xs:List α}{us:List U}{f v g:α->U}{p:α->Bool}{Q:U×Sto->Prop}{R:Out×Rho×Sto->Prop}{l:Nat}
theorem j8(h:ca ρ S=some (.ref l,S1))(hl:S1[l]?=some (.lst us)):iTp ca ρ S=some (us,fun S=>S[l]?=some (.lst us),S1):=by
 unfold iTp;rw[h,Q8];simp only[hl]
theorem sW(h:ca ρ S=some (.tup us,S1)):iTp ca ρ S=some (us,fun _=>True,S1):=by
 unfold iTp;rw[h,Q8]
theorem pT{cr:CA}{n:Int}(h:cr ρ S=some ([.int n],S1))(n0:0<=n)(n1:n<=1000):bW cr ρ S=some (bz 0 n.toNat,fun _=>True,S1):=by
 have hb:-(2^62)<=n/\n<2^62:=by omega
 unfold bW;rw[h,Q8];simp only[hb,and_self,if_true]
theorem nO(n:Nat):bz 0 n=(Qy n).map fun i:Nat=>U.int (i:Int):=by rw[jO,Qa];rfl
theorem lV(hi:ci ρ S=some (xs.map f,ok,S1))(hok:∀G,ok (S1++G))(hn:xs.length<=9000)(hr:jM 1 caps ρ=none::cs)
  (hb:∀x∈xs,∀G,Wp (ct (some (f x)::cs) (S1++G)) fun s=>s.1=p x/\∃G1,s.2=S1++G++G1/\(p x=true->Wp (ce (some (f x)::cs) (S1++G++G1)) fun t=>t.1=v x/\∃G2,t.2=S1++G++G1++G2))
  (hQ:∀G,Q (.ref S1.length,S1++(.lst ((xs.filter p).map v)::G))):Wp (aW ci (gNm 0) ct ce 1 caps ρ S) Q:=by
 obtain⟨G,e⟩:=cZ (S:=S1) (ok:=ok) (gg:=gNm 0) (ct:=ct) (ce:=ce) (f:=f) (p:=p) (v:=v) (Rel:=fun ρ=>∃r0,ρ=r0::cs) (fun ys G=>hok _) xs [] [] (none::cs) ⟨_,rfl⟩ (by simp;omega) (fun x hx ys G ρ hρ=>by
  obtain⟨r0,rfl⟩:=hρ;obtain⟨⟨b,S2⟩,e1,e2,G1,e3,h⟩:=hb x hx (.lst ys::G);dsimp only at e2 e3;subst e2 e3;refine⟨some (f x)::cs,G1,⟨_,rfl⟩,rfl,by rw[e1,QZ,Qq],fun hp=>?_⟩;obtain⟨⟨b,S2⟩,e4,e5,G2,e6⟩:=h hp;dsimp only at e5 e6;subst e5 e6;refine⟨G2,?_⟩;simp only[QZ,Qq]at e4 ⊢;exact e4)
 refine⟨_,?_,hQ G⟩;unfold aW;rw[hi,Q8,hr];dsimp only;rw[e];rfl
theorem uy(hi:ci ρ S=some (xs.map f,ok,S1))(hok:∀G,ok (S1++G))(hn:xs.length<=9000)(hr:jM 1 caps ρ=none::cs)
  (hb:∀x∈xs,∀G,Wp (ce (some (f x)::cs) (S1++G)) fun t=>t.1=v x/\∃G2,t.2=S1++G++G2)
  (hQ:∀G,Q (.ref S1.length,S1++(.lst (xs.map v)::G))):Wp (d7 ci (gNm 0) ce 1 caps ρ S) Q:=by
 obtain⟨G,e⟩:=jy (S:=S1) (ok:=ok) (gg:=gNm 0) (ce:=ce) (f:=f) (v:=v) (Rel:=fun ρ=>∃r0,ρ=r0::cs) (fun ys G=>hok _) xs [] [] (none::cs) ⟨_,rfl⟩ (by simp;omega) (fun x hx ys G ρ hρ=>by
  obtain⟨r0,rfl⟩:=hρ;obtain⟨⟨b,S2⟩,e1,e2,G1,e3⟩:=hb x hx (.lst ys::G);dsimp only at e2 e3;subst e2 e3;exact⟨some (f x)::cs,G1,⟨_,rfl⟩,rfl,by rw[e1,QZ,Qq]⟩)
 refine⟨_,?_,hQ G⟩;unfold d7;rw[hi,Q8,hr];dsimp only;rw[e];rfl
theorem EH(hf:∀x,f x=.tup [g x,v x]){w:α->U}(hi:ci ρ S=some (xs.map f,ok,S1))(hok:∀G,ok (S1++G))(hn:xs.length<=9000)(hr:jM 2 caps ρ=none::none::cs)
  (hb:∀x∈xs,∀G,Wp (ce (some (g x)::some (v x)::cs) (S1++G)) fun t=>t.1=w x/\∃G2,t.2=S1++G++G2)
  (hQ:∀G,Q (.ref S1.length,S1++(.lst (xs.map w)::G))):Wp (d7 ci (gTp [0,1]) ce 2 caps ρ S) Q:=by
 obtain⟨G,e⟩:=jy (S:=S1) (ok:=ok) (gg:=gTp [0,1]) (ce:=ce) (f:=f) (v:=w) (Rel:=fun ρ=>∃r0 r1,ρ=r0::r1::cs) (fun ys G=>hok _) xs [] [] (none::none::cs) ⟨_,_,rfl⟩ (by simp;omega) (fun x hx ys G ρ hρ=>by
  obtain⟨r0,r1,rfl⟩:=hρ;obtain⟨⟨b,S2⟩,e1,e2,G1,e3⟩:=hb x hx (.lst ys::G);dsimp only at e2 e3;subst e2 e3;exact⟨some (g x)::some (v x)::cs,G1,⟨_,_,rfl⟩,by rw[hf];rfl,by rw[e1,QZ,Qq]⟩)
 refine⟨_,?_,hQ G⟩;unfold d7;rw[hi,Q8,hr];dsimp only;rw[e];rfl
theorem JT{F:Fn}(h:Wp (ce ρ S) fun r=>Wp (F [r.1] r.2) Q):Wp (cCB F (ag ce aB) ρ S) Q:=by
 obtain⟨⟨u,S2⟩,e,r,e2,q⟩:=h;refine⟨r,?_,q⟩;rw[GL,qy,e];exact e2
theorem JU{bs:List Bool}(hl:S[l]?=some (.lst (bs.map U.bl)))(q:Q (.bl (bs.any id),S)):Wp (Gx [.ref l] S) Q:=
 .of (by simp only[Gx,hl,jE,Q8]) q
theorem yo(hi:ci ρ S=some (us,ok,S1))(h:Wp (cD ok gg cb us ρ S1) R):Wp (iH ci gg cb ρ S) R:=by
 unfold iH;rw[hi];exact h
theorem kJ(I:List α->Rho->Sto->Prop)(h0:∀ρ S,I [] ρ S->ok S/\R (.nx,ρ,S))
  (h1:∀x xs ρ S,I (x::xs) ρ S->ok S/\Wp (gg (f x) ρ S) fun r=>Wp (cb r.1 r.2) fun s=>(s.1=.nx/\I xs s.2.1 s.2.2)\/∃v,s.1=.rt v/\R s) :
  ∀(xs:List α) (ρ:Rho) (S:Sto),I xs ρ S->Wp (cD ok gg cb (xs.map f) ρ S) R
 |[],ρ,S,h=>by
  obtain⟨a,b⟩:=h0 ρ S h;exact .of (dE a) b
 |x::xs,ρ,S,h=>by
  obtain⟨a,⟨ρ0,S0⟩,e1,⟨o,ρ1,S1⟩,e2,c⟩:=h1 x xs ρ S h;rcases c with⟨c,i⟩|⟨v,c,q⟩
  ·cases c;obtain⟨r,e3,q⟩:=kJ I h0 h1 xs ρ1 S1 i;exact⟨r,(eD a e1 e2).trans e3,q⟩
  ·cases c;exact⟨_,CY a e1 e2,q⟩
theorem ux(I:Nat->Rho->Sto->Prop)(h:∀n ρ S,I n ρ S->Wp (t ρ S) fun p=>(p.1=false->R (.nx,ρ,p.2))/\(p.1=true->Wp (cb ρ p.2) fun s=>(s.1=.nx/\∃m,m<n/\I m s.2.1 s.2.2)\/∃v,s.1=.rt v/\R s)) :
  ∀(fuel n:Nat) (ρ:Rho) (S:Sto),n<fuel->I n ρ S->Wp (bZ t cb fuel ρ S) R
 |0,n,ρ,S,hn,_=>by omega
 |fuel+1,n,ρ,S,hn,i=>by
  obtain⟨⟨b,S0⟩,e1,h0,h1⟩:=h n ρ S i;cases b with
  |false=>exact⟨_,nB e1,h0 rfl⟩
  |true=>
   obtain⟨⟨o,ρ1,S1⟩,e2,c⟩:=h1 rfl;rcases c with⟨c,m,hm,j⟩|⟨v,c,q⟩
   ·cases c;obtain⟨r,e3,q⟩:=ux I h fuel m ρ1 S1 (by omega) j;exact⟨r,(qE e1 e2).trans e3,q⟩
   ·cases c;exact⟨_,ym e1 e2,q⟩
theorem Wp.gj{x:Option (U×Sto)}(h:Wp x fun r=>∃j G,r.1=.ref j/\r.2=S++G/\r.2[j]?=some (.lst us)/\S.length<=j):∃G j,x=some (.ref j,S++G)/\(S++G)[j]?=some (.lst us)/\S.length<=j:=by
 obtain⟨⟨u,Y⟩,e,j,G,e1,e2,g,l⟩:=h;dsimp only at e1 e2 g;subst e1 e2;exact⟨G,j,e,g,l⟩
end
def tN(row:List Int)(v:Int):List Int:=if inR row v then row.drop (row.idxOf v+1)else row
def hdP(a:Int):List Int->List (Int×Int)
 |[]=>[]
 |l::_=>if l=a then[]else[(a,l)]
def DR(row:List Int)(a v:Int):List (Int×Int):=if inR row v then[(v,a)]else[]
def ja(row:List Int)(a v:Int):List (Int×Int):=DR row a v++hdP a (tN row v)
def fR(row:List Int):List (Int×Int):=row.zip (row.drop 1)
def mlk(wr:List (List Int))(r:List Int):List (Int×Int):=ja (wr.getD (r.getD 1 0).toNat []) (r.getD 0 0) (r.getD 2 0)
def fj(tms:List (Int×Int))(wr lk:List (List Int)):List (Int×Int):=tms++wr.flatMap fR++lk.flatMap (mlk wr)
theorem C8(a:Int)(l:List Int):(hdP a l).length<=1:=by
 cases l with
 |nil=>exact ZQ _
 |cons x l=>
  show(if x=a then[]else[(a,x)]).length<=1;split
  ·exact ZQ _
  ·exact QJ _
theorem n8(row:List Int)(a v:Int):(ja row a v).length<=2:=by
 unfold ja DR;rw[QV];have:=C8 a (tN row v);split<;>simp<;>omega
theorem rp(row:List Int):(fR row).length<=row.length:=by unfold fR;rw[List.length_zip];omega
structure Fzz(l:Nat)(Y Y':Sto):Prop where
 len:Y.length<=Y'.length
 keep:∀i,i<Y.length->i≠l->Y'[i]?=Y[i]?
section
variable{l:Nat}{Y Y' Y'':Sto}
theorem Fzz.refl:Fzz l Y Y:=⟨QJ _,fun _ _ _=>rfl⟩
theorem Fzz.trans(a:Fzz l Y Y')(b:Fzz l Y' Y''):Fzz l Y Y'':=⟨Qc a.len b.len,fun i hi n=>by rw[b.keep i (Qj hi a.len) n,a.keep i hi n]⟩
theorem Fzz.app(G:Sto):Fzz l Y (Y++G):=⟨by simp,fun i hi _=>Qz hi⟩
theorem Fzz.set(o:O):Fzz l Y (Y.set l o):=⟨by simp,fun i _ n=>Qg n.symm⟩
theorem Fzz.get{i:Nat}{o:O}(a:Fzz l Y Y')(h:Y[i]?=some o)(n:i≠l):Y'[i]?=some o:=by rw[a.keep i (Q7.mp h).1 n];exact h
end
theorem AS{l b:Nat}{us vs:List U}{Y:Sto}(h1:Y[l]?=some (.lst us))(h2:Y[b]?=some (.lst vs))(hL:us.length+vs.length<=LIM):dM (.ref l) [.ref b] Y=some (.non,Y.set l (.lst (us++vs))):=by
 simp only[dM,h1,h2];rw[if_pos hL]
theorem uP{us:List U}{k l:Nat}{S:Sto}(hl:S[l]?=some (.lst us))(h:k<=us.length):fSl (.ref l) (some (k:Int)) none S=some (.ref S.length,S++[.lst (us.drop k)]):=by
 have e:HT.sIx us.length 0 (some (k:Int))=k:=by rw[HT.sIx_nat];omega
 simp only[fSl,hl,HT.sIx_none,e,oI];rw[ZD (by simp)]
theorem j7{row:List Int}{v:Int}(h:inR row v=true):v∈row:=by
 first|exact List.elem_iff.mp h|simpa [inR] using h
def DN:Fn:=fnU 5 3 bN
section
variable{S G:Sto}{row:List Int}{a v:Int}{us vs:List U}{j:Nat}
theorem Dm(h:(S++(.lst us::G))[j]?=some (.lst vs))(hL:us.length+vs.length<=LIM):dM (.ref S.length) [.ref j] (S++(.lst us::G))=some (.non,S++(.lst (us++vs)::G)):=by
 rw[AS (by rw[ga0];rfl) h hL,gs0];rfl
theorem FW(hl:row.length<=900):∃G j,DN [.tup (row.map U.int),.int a,.int v] S=some (.ref j,S++G)/\(S++G)[j]?=some (.lst ((ja row a v).map pP))/\S.length<=j:=by
 refine Wp.gj ?_;have hin:∀T:Sto,fIn false (.int v) (.tup (row.map U.int)) T=some (.bl (inR row v),T):=fun T=>sV;have ix:inR row v=true->∀T:Sto,T[S.length]?=some (.lst (row.map U.int))->aP (.ref S.length) [.int v] T=some (.int (row.idxOf v:Nat),T)/\fSl (.ref S.length) (some ((row.idxOf v:Nat)+1:Int)) none T=some (.ref T.length,T++[.lst ((tN row v).map U.int)]):=fun hb T h=>by
  refine⟨bU h (j7 hb) hl,?_⟩;have:=uP (k:=row.idxOf v+1) h (by rw[Q9];exact Qo (j7 hb));rw[<-List.map_drop]at this;unfold tN;rw[if_pos hb];exact this
 have lf:inR row v=false->tN row v=row:=fun hb=>by unfold tN;rw[if_neg (by rw[hb];decide)]
 unfold DN ja DR;rw[kq];unfold bN;obtain⟨ru,hru⟩:∃ru,ru=row.map U.int:=⟨_,rfl⟩;rw[<-hru]at hin ix ⊢;have h0:([]:List U).length<LIM:=by unfold LIM;simp
 have d0:decide ((0:Int)<((0:Nat):Int))=false:=by decide
 generalize tN row v=lt at ix lf ⊢;cases hb:inR row v with
 |true=>
  obtain⟨i1,i2⟩:=ix hb (S++[.lst ru,.lst []]) (by rw[ga0];rfl);cases lt with
  |nil=>
   rwa[hin,hb,i1,i2,cSl,gB,eX h0,d0,QV,ay];exact⟨S.length+1,_,rfl,rfl,by rw[ga];rfl,by omega⟩
  |cons x r=>
   obtain⟨lu,hlu⟩:∃lu,lu=(x::r).map U.int:=⟨_,rfl⟩;have a0:atI lu 0=some (.int x):=by rw[hlu,QF];exact at0
   have d1:decide ((lu.length:Int)>0)=true:=decide_eq_true (by rw[hlu];simp);have h1:[U.tup [.int v,.int a]].length<LIM:=by unfold LIM;simp
   rw[<-hlu]at i2;by_cases e:x=a
   ·have de:decide (x=a)=true:=decide_eq_true e;rwa[hin,hb,i1,i2,cSl,gB,eX h0,a0,d1,de,QV,ay];exact⟨S.length+1,_,rfl,rfl,by rw[ga,hdP,if_pos e];rfl,by omega⟩
   ·have de:decide (x=a)=false:=decide_eq_false e;rwa[hin,hb,i1,i2,cSl,gB,eX h0,eX h1,a0,d1,de,QV,ay];exact⟨S.length+1,_,rfl,rfl,by rw[ga,hdP,if_neg e];rfl,by omega⟩
 |false=>
  have:=lf hb;subst this;cases lt with
  |nil=>
   rw[hru];rw[hru]at hin;simp only[Zj]at hin;rwa[hin,hb,d0,QV,ay];exact⟨S.length+1,_,rfl,rfl,by rw[ga];rfl,by omega⟩
  |cons x r=>
   have a0:atI ru 0=some (.int x):=by rw[hru,QF];exact at0
   have d1:decide ((ru.length:Int)>0)=true:=decide_eq_true (by rw[hru];simp);by_cases e:x=a
   ·have de:decide (x=a)=true:=decide_eq_true e;rwa[hin,hb,a0,d1,de,QV,ay];exact⟨S.length+1,_,rfl,rfl,by rw[ga,hdP,if_pos e];rfl,by omega⟩
   ·have de:decide (x=a)=false:=decide_eq_false e;rwa[hin,hb,eX h0,a0,d1,de,QV,ay];exact⟨S.length+1,_,rfl,rfl,by rw[ga,hdP,if_neg e];rfl,by omega⟩
end
theorem zk{row:List Int}{a v:Int}{many:Int}(hr:∀x∈row,0<=x/\x<many)(ha:0<=a/\a<many):∀p∈ja row a v,(0<=p.1/\p.1<many)/\(0<=p.2/\p.2<many):=by
 intro p hp;unfold ja at hp;rcases Qd.mp hp with h|h
 ·unfold DR at h;split at h
  ·rename_i hv;rw[Qv.mp h];exact⟨hr v (j7 hv),ha⟩
  ·cases h
 ·have hs:∀x∈tN row v,x∈row:=fun x hx=>by
   unfold tN at hx;split at hx
   ·exact List.mem_of_mem_drop hx
   ·exact hx
  generalize tN row v=l at h hs;cases l with
  |nil=>cases h
  |cons x l=>
   have h':p∈(if x=a then[]else[(a,x)]):=h;split at h'
   ·cases h'
   ·rw[Qv.mp h'];exact⟨ha,hr x (hs x QK)⟩
theorem eF.all_in{many:Int}{tms:List (Int×Int)}{wr lk:List (List Int)}(T:eF many tms wr lk):∀p∈fj tms wr lk,(0<=p.1/\p.1<many)/\(0<=p.2/\p.2<many):=by
 intro p hp;unfold fj at hp;rcases Qd.mp hp with h|h
 ·rcases Qd.mp h with h|h
  ·have:=T.htm p h;exact⟨this.1,this.2.1⟩
  ·obtain⟨r,hr,hp⟩:=Zw.mp h;have z:=(T.hwr r hr).1;unfold fR at hp;obtain⟨p1,p2⟩:=p;have q:=List.of_mem_zip hp;exact⟨z _ q.1,z _ (List.mem_of_mem_drop q.2)⟩
 ·obtain⟨r,hr,hp⟩:=Zw.mp h;obtain⟨a,b,v,rfl,h1,h2,h3⟩:=T.hlk r hr;refine zk (fun x hx=>?_) h1 p hp;have hb:b.toNat<wr.length:=by omega
  have e:wr.getD ([a,b,v].getD 1 0).toNat []=wr[b.toNat]:=by
   show wr.getD b.toNat []=_;rw[QQ,Q6 hb];rfl
  rw[e]at hx;exact(T.hwr _ (Z9 hb)).1 x hx
theorem vO:∀{row:List Int},row.Nodup->∀p∈fR row,p.1≠p.2
 |[],_,p,hp=>by cases hp
 |[x],_,p,hp=>by cases hp
 |x::y::r,nd,p,hp=>by
  have e:fR (x::y::r)=(x,y)::fR (y::r):=rfl;rw[e]at hp;rcases QH.mp hp with rfl|h
  ·intro e;exact(ZJ.mp nd).1 (by show x∈y::r;rw[show x=y from e];exact QK)
  ·exact vO (ZJ.mp nd).2 p h
theorem zj{row:List Int}{a v:Int}(hv:v=-1\/v≠a)(hr:∀x∈row,0<=x):∀p∈ja row a v,p.1≠p.2:=by
 intro p hp;unfold ja at hp;rcases Qd.mp hp with h|h
 ·unfold DR at h;split at h
  ·rename_i hi;rw[Qv.mp h];rcases hv with rfl|hv
   ·have:=hr _ (j7 hi);omega
   ·exact hv
  ·cases h
 ·generalize tN row v=l at h;cases l with
  |nil=>cases h
  |cons x l=>
   have h':p∈(if x=a then[]else[(a,x)]):=h;split at h'
   ·cases h'
   ·rename_i hn;rw[Qv.mp h'];exact fun e=>hn e.symm
theorem eF.all_ne{many:Int}{tms:List (Int×Int)}{wr lk:List (List Int)}(T:eF many tms wr lk):∀p∈fj tms wr lk,p.1≠p.2:=by
 intro p hp;unfold fj at hp;rcases Qd.mp hp with h|h
 ·rcases Qd.mp h with h|h
  ·exact(T.htm p h).2.2
  ·obtain⟨r,hr,hp⟩:=Zw.mp h;exact vO (T.hwr r hr).2 p hp
 ·obtain⟨r,hr,hp⟩:=Zw.mp h;obtain⟨a,b,v,rfl,h1,h2,h3⟩:=T.hlk r hr;refine zj (row:=wr.getD ([a,b,v].getD 1 0).toNat []) (h3.imp id fun z=>z.2) (fun x hx=>?_) p hp;have hb:b.toNat<wr.length:=by omega
  have e:wr.getD ([a,b,v].getD 1 0).toNat []=wr[b.toNat]:=by
   show wr.getD b.toNat []=_;rw[QQ,Q6 hb];rfl
  rw[e]at hx;exact((T.hwr _ (Z9 hb)).1 x hx).1
def gE:Fn:=fnU 4 1 (kC DN)
theorem y0(row:List Int):i9 (row.map U.int) ((row.drop 1).map U.int)=(fR row).map pP:=by
 unfold i9 fR;rw[List.zip_map,Qa];rfl
theorem J8(us:List U):oI us (some 1) none=us.drop 1:=by
 unfold oI;have e:HT.sIx us.length 0 (some (1:Int))=min 1 us.length:=by
  have:=HT.sIx_nat (n:=us.length) (d:=0) (k:=1);rw[show((1:Nat):Int)=1 from rfl]at this;exact this
 rw[e,HT.sIx_none];cases us with
 |nil=>rfl
 |cons u us=>
  have:min 1 (u::us).length=1:=by simp
  rw[this,ZD (by simp)]
theorem rM:∀{wr:List (List Int)},(∀r∈wr,r.length<=30)->(wr.flatMap fR).length<=30*wr.length
 |[],_=>by simp
 |r::wr,h=>by
  rw[List.flatMap_cons,QV,QB];have:=rM (wr:=wr) fun x hx=>h x (QU _ hx);have:=h r QK;have:=rp r;omega
theorem eF.row_len{many:Int}{tms:List (Int×Int)}{wr lk:List (List Int)}(T:eF many tms wr lk)(hm:many<=30){r:List Int}(hr:r∈wr):r.length<=30:=by
 obtain⟨h1,h2⟩:=T.hwr r hr;have:=List.Nodup.length_le_of_subset h2 (l₂:=(Qy many.toNat).map fun i:Nat=>(i:Int)) fun b hb=>by
  obtain⟨z1,z2⟩:=h1 b hb;exact Qu.mpr ⟨b.toNat,Qb.mpr (by omega),by omega⟩
 simp at this;omega
theorem rq(wr:List (List Int)):∀lk:List (List Int),(lk.flatMap (mlk wr)).length<=2*lk.length
 |[]=>by simp
 |r::lk=>by
  rw[List.flatMap_cons,QV,QB];have:=n8 (wr.getD (r.getD 1 0).toNat []) (r.getD 0 0) (r.getD 2 0);have e:mlk wr r=ja (wr.getD (r.getD 1 0).toNat []) (r.getD 0 0) (r.getD 2 0):=rfl;rw[e];have:=rq wr lk;omega
theorem eF.all_len{many:Int}{tms:List (Int×Int)}{wr lk:List (List Int)}(T:eF many tms wr lk)(hm:many<=30):(fj tms wr lk).length<=1000:=by
 unfold fj;have h1:=rM fun r hr=>T.row_len hm (r:=r) hr;have h2:=rq wr lk;have htl:=T.htl;have hwl:=T.hwl;have hll:=T.hll;rw[QV,QV];omega
def B49:List (Int×Int):=(Qy 7).flatMap fun i:Nat=>(Qy 7).map fun j:Nat=>((i:Int),(j:Int))
theorem eF.few{many:Int}{tms:List (Int×Int)}{wr lk:List (List Int)}(T:eF many tms wr lk)(hm:many<=7):∃B:List (Int×Int),B.length<64/\∀x∈fj tms wr lk,x∈B:=
 ⟨B49,by decide,fun x hx=>by
  obtain⟨h1,h2⟩:=T.all_in x hx;refine Zw.mpr ⟨x.1.toNat,Qb.mpr (by omega),Qu.mpr ⟨x.2.toNat,Qb.mpr (by omega),?_⟩⟩;obtain⟨a,b⟩:=x;dsimp only at h1 h2 ⊢;rw[Int.toNat_of_nonneg h1.1,Int.toNat_of_nonneg h2.1]⟩
section
variable{Y:Sto}{lf:Nat}{x0 r2 r3:Option U}{wr lk:List (List Int)}{many:Int}
theorem Bc{row:List Int}(hl:row.length<=900):jB (ao 2) (GC (ao 2) (some (cC (.int 1))) none) [x0,some (.ref lf),some (.tup (row.map U.int)),r3] Y=some (.ref Y.length,Y++[.lst ((fR row).map pP)]):=by
 have hv:ao 2 [x0,some (.ref lf),some (.tup (row.map U.int)),r3] Y=some (.tup (row.map U.int),Y):=rfl;have hs:GC (ao 2) (some (cC (.int 1))) none [x0,some (.ref lf),some (.tup (row.map U.int)),r3] Y=some (.tup ((row.drop 1).map U.int),Y):=by
  have h1:cC (.int 1) [x0,some (.ref lf),some (.tup (row.map U.int)),r3] Y=some (.int 1,Y):=rfl;simp only[GC,gB,hv,h1,Q8,Gv,J8,List.map_drop]
 unfold jB;rw[hv,Q8];dsimp only;rw[hs,Q8];simp only[tL,Q8];rw[if_pos (by rw[Q9];omega),y0]
theorem yz{ce:CE}{ρ:Rho}{S:Sto}{l:Nat}{ps:List (Int×Int)}(h:ce ρ S=some (.ref l,S))(hl:S[l]?=some (.lst (ps.map pP)))(hn:ps.length<=1200/\∃B:List (Int×Int),B.length<64/\∀x∈ps,x∈B):fM ce ρ S=some (.ref S.length,S++[.lst ((bD ps).map pP)]):=by
 unfold fM;rw[h,Q8];simp only[hl,lE,Q8];rw[if_pos hn]
theorem E7{b:Int}(b0:0<=b)(b1:b<wr.length):wr.getD b.toNat []∈wr:=by
 have hb:b.toNat<wr.length:=by omega
 rw[QQ,Q6 hb];exact Z9 hb
theorem mI{tms:List (Int×Int)}{S:Sto}(T:eF many tms wr lk)(hm7:many<=7):∃G j,gE [aV many (.tup (tms.map pP)) wr lk] S=some (.ref j,S++G)/\(S++G)[j]?=some (.lst ((bD (fj tms wr lk)).map pP))/\S.length<=j:=by
 refine Wp.gj ?_;have hm:many<=30:=Int.le_trans hm7 (by decide);have rl:∀r∈wr,r.length<=30:=fun r hr=>T.row_len hm hr;have ml:=T.all_len hm;have fw:=T.few hm7;obtain⟨M,hM⟩:∃M,M=fj tms wr lk:=⟨_,rfl⟩;rw[<-hM]at ml fw ⊢;unfold fj at hM;have x1:∀Y,fIx (aV many (.tup (tms.map pP)) wr lk) (.int 1) Y=some (.tup (tms.map pP),Y):=fun _=>rfl;have x2:∀Y,fIx (aV many (.tup (tms.map pP)) wr lk) (.int 2) Y=some (.tup (wr.map rwU),Y):=fun _=>rfl;have x3:∀Y,fIx (aV many (.tup (tms.map pP)) wr lk) (.int 3) Y=some (.tup (lk.map rwU),Y):=fun _=>rfl;generalize aV many (.tup (tms.map pP)) wr lk=tu at x1 x2 x3 ⊢;unfold gE;rw[Dr];unfold kC;rwa[x1,ay];repeat with_reducible refine Wp.bind ?_
 refine yo (S1:=S++[.lst (tms.map pP)]) (sW (us:=wr.map rwU) (by rwa[x2])) (kJ (fun rest ρ Y=>∃dn r2 G,wr=dn++rest/\ρ=[some tu,some (.ref S.length),r2,none]/\Y=S++(.lst ((tms++dn.flatMap fR).map pP)::G)) (fun ρ Y h=>⟨trivial,?_⟩) (fun row rest ρ Y h=>⟨trivial,?_⟩) wr _ _ ⟨[],none,[],rfl,rfl,by simp⟩)
 ·obtain⟨dn,r2,G,hd,rfl,rfl⟩:=h;rw[Qe]at hd;subst hd;rwa[ay];repeat with_reducible refine Wp.bind ?_
  refine yo (sW (us:=lk.map rwU) (by rwa[x3];rfl)) (kJ (fun rest ρ Y=>∃dn r3 G,lk=dn++rest/\ρ=[some tu,some (.ref S.length),r2,r3]/\Y=S++(.lst ((tms++wr.flatMap fR++dn.flatMap (mlk wr)).map pP)::G)) (fun ρ Y h=>⟨trivial,?_⟩) (fun look rest ρ Y h=>⟨trivial,?_⟩) lk _ _ ⟨[],none,G,rfl,rfl,by simp⟩)
  ·obtain⟨dn,r3,G,hd,rfl,rfl⟩:=h;rw[Qe]at hd;subst hd;rw[<-hM];have hs:=yz (ce:=ao 1) (ρ:=[some tu,some (.ref S.length),r2,r3]) (S:=S++(.lst (M.map pP)::G)) (l:=S.length) rfl (by rw[ga0];rfl) ⟨by omega,fw⟩;rwa[hs,ay];exact⟨_,_,rfl,rfl,by rw[<-Qq,<-QZ,ga0];rfl,by simp⟩
  ·obtain⟨dn,r3,G,hd,rfl,rfl⟩:=h;obtain⟨a,b,v,rfl,_,h2,_⟩:=T.hlk look (by rw[hd];simp);obtain⟨G1,j,e,g,lj⟩:=FW (S:=S++(.lst ((tms++wr.flatMap fR++dn.flatMap (mlk wr)).map pP)::G)) (row:=wr.getD b.toNat []) (a:=a) (v:=v) (Qc (rl _ (E7 h2.1 h2.2)) (by omega));have ar:=rW (wr:=wr) h2.1 h2.2;have m2:=n8 (wr.getD b.toNat []) a v;have ml':(tms++wr.flatMap fR++dn.flatMap (mlk wr)).length<=1000:=by
    rw[hM,hd,Zs]at ml;simp only[QV]at ml ⊢;omega
   rw[QZ S,Qq]at e g;have ex:=Dm g (by unfold LIM;rw[Q9,Q9];omega);rw[<-Qn]at ex;refine .of (r:=([some tu,some (.ref S.length),r2,some (.tup [.int a,.int b,.int v])],_)) rfl ?_;unfold oX;generalize hN:(tms++wr.flatMap fR++dn.flatMap (mlk wr))=N at *;rwa[x2,ar,e,ex,ay];exact .inl ⟨trivial,dn++[[a,b,v]],_,_,by simp[hd],rfl,by rw[<-hN,Zs,List.flatMap_singleton];simp only[QZ];rfl⟩
 ·obtain⟨dn,r2,G,hd,rfl,rfl⟩:=h;have hr:row∈wr:=by rw[hd];simp
  have z:=Bc (x0:=some tu) (lf:=S.length) (r3:=none) (Y:=S++(.lst ((tms++dn.flatMap fR).map pP)::G)) (Qc (rl row hr) (by omega));have ml':(tms++dn.flatMap fR).length<=1000:=by
   rw[hM,hd,Zs]at ml;simp only[QV]at ml ⊢;omega
  have m2:=rp row;have:=rl row hr;have ex:=Dm (S:=S) (us:=(tms++dn.flatMap fR).map pP) (G:=G++[.lst ((fR row).map pP)]) (j:=(S++(.lst ((tms++dn.flatMap fR).map pP)::G)).length) (vs:=(fR row).map pP) (by rw[<-Qq,<-QZ,ga0];rfl) (by unfold LIM;rw[Q9,Q9];omega);rw[<-Qn]at ex;rw[QZ S,Qq]at z;refine .of (r:=([some tu,some (.ref S.length),some (.tup (row.map U.int)),none],_)) rfl ?_;unfold oY;generalize hN:(tms++dn.flatMap fR)=N at *;generalize row.map U.int=ru at *;rwa[z,ex,ay];exact .inl ⟨trivial,dn++[row],_,_,by simp[hd],rfl,by rw[Zs,List.flatMap_singleton,<-QZ,hN]⟩
end
def dkB(B k:Nat):List (Key×U):=(Qy k).map fun i:Nat=>(Sum.inl (i:Int),U.ref (B+i))
theorem Du(B k:Nat)(u:U):i7 (dkB B k) (Sum.inl (k:Int)) u=dkB B k++[(Sum.inl (k:Int),u)]:=yO fun h=>by
 unfold dkB at h;rw[Qa]at h;obtain⟨i,hi,e⟩:=Qu.mp h;have hi':=Qb.mp hi;have e':(Sum.inl (i:Int):Key)=Sum.inl (k:Int):=e;have:=Sum.inl.inj e';omega
theorem zS(B k:Nat):dkB B (k+1)=dkB B k++[(Sum.inl (k:Int),U.ref (B+k))]:=by
 unfold dkB;rw[List.range_succ,Qn];rfl
section
variable{S:Sto}{x0 r3 r4:Option U}{f:Fn}
def tbS(S:Sto)(k:Nat):Sto:=S++(.dic (dkB (S.length+1) k)::ZU k (.lst []))
theorem yv{k:Nat}(hk:k<=900):bV f [x0,some (.ref S.length),some (.int (k:Int)),r3,r4] (tbS S k)=some (.nx,[x0,some (.ref S.length),some (.int (k:Int)),r3,r4],tbS S (k+1)):=by
 have hl:(tbS S k).length=S.length+1+k:=by unfold tbS;simp;omega
 have g0:(tbS S k++[O.lst []])[S.length]?=some (.dic (dkB (S.length+1) k)):=by unfold tbS;rw[QZ,ga0];rfl
 have ld:(dkB (S.length+1) k).length<LIM:=by unfold dkB LIM;simp;omega
 have hs:(tbS S k++[O.lst []]).set S.length (.dic (dkB (S.length+1) (k+1)))=tbS S (k+1):=by
  unfold tbS;rw[QZ,gs0,List.replicate_succ'];rfl
 have h1:fN aB [x0,some (.ref S.length),some (.int (k:Int)),r3,r4] (tbS S k)=some (.ref (S.length+1+k),tbS S k++[.lst []]):=by rw[<-hl];rfl
 have hf:i8 (.ref S.length) (.int (k:Int)) (.ref (S.length+1+k)) (tbS S k++[O.lst []])=some (tbS S (k+1)):=by
  have kk:oj (.int (k:Int))=some (Sum.inl (k:Int)):=rfl;rw[D7,g0,Am,kk,Q8,if_pos ld,Du,<-zS,hs]
 unfold bV oR;rw[h1,Q8];have hv1:∀Y:Sto,ao 1 [x0,some (.ref S.length),some (.int (k:Int)),r3,r4] Y=some (.ref S.length,Y):=fun Y=>rfl;have hv2:∀Y:Sto,ao 2 [x0,some (.ref S.length),some (.int (k:Int)),r3,r4] Y=some (.int (k:Int),Y):=fun Y=>rfl;simp only[hv1,hv2,Q8,hf]
theorem qH:∀(m k:Nat) (r2:Option U),k+m<=900->
  ∃r2',cD (fun _=>True) (gNm 2) (bV f) ((List.range' k m).map fun i:Nat=>U.int (i:Int)) [x0,some (.ref S.length),r2,r3,r4] (tbS S k)=some (.nx,[x0,some (.ref S.length),r2',r3,r4],tbS S (k+m))
 |0,k,r2,_=>⟨r2,dE trivial⟩
 |m+1,k,r2,h=>by
  obtain⟨q,e⟩:=qH m (k+1) (some (.int (k:Int))) (by omega);refine⟨q,?_⟩;rw[List.range'_succ,QF,show k+(m+1)=k+1+m by omega];exact(eD trivial rfl (yv (by omega))).trans e
theorem wR{B k b:Nat}(h:b<k):kW (dkB B k) (Sum.inl (b:Int))=some (U.ref (B+b)):=by
 have nd:((dkB B k).map (·.1)).Nodup:=by
  unfold dkB;rw[Qa];exact List.Pairwise.map _ (fun a b h e=>h (by have:=Sum.inl.inj (show(Sum.inl (a:Int):Key)=Sum.inl (b:Int)from e);omega)) X0
 exact qG (p:=(Sum.inl (b:Int),U.ref (B+b))) nd (by unfold dkB;exact Qu.mpr ⟨b,Qb.mpr h,rfl⟩)
def tbL(S:Sto)(Ls:List (List Int))(G:Sto):Sto:=S++(.dic (dkB (S.length+1) Ls.length)::(Ls.map fun l=>O.lst (l.map U.int))++G)
theorem uF{Ls:List (List Int)}{G:Sto}{b:Nat}(h:b<Ls.length):(tbL S Ls G)[S.length+1+b]?=some (.lst ((Ls.getD b []).map U.int)):=by
 unfold tbL;rw[QN (by omega),show S.length+1+b-S.length=b+1 by omega,Qq,Qw,Qz (by simpa using h),Qr,Q6 h,QQ,Q6 h];rfl
theorem BV{Ls:List (List Int)}{G:Sto}{b:Nat}{l:List Int}(h:b<Ls.length):(tbL S Ls G).set (S.length+1+b) (.lst (l.map U.int))=tbL S (Ls.set b l) G:=by
 unfold tbL;rw[List.set_append_right _ _ (by omega),show S.length+1+b-S.length=b+1 by omega,Qq,List.set_cons_succ,List.set_append_left _ _ (by simpa using h),Zc,List.map_set];rfl
theorem yu{Ls:List (List Int)}{G:Sto}{r2:Option U}{a:Int}{b:Nat}(h:b<Ls.length)(hl:(Ls.getD b []).length<=2000) :
  cQ f [x0,some (.ref S.length),r2,some (.int a),some (.int (b:Int))] (tbL S Ls G)=some (.nx,[x0,some (.ref S.length),r2,some (.int a),some (.int (b:Int))],tbL S (Ls.set b (Ls.getD b []++[a])) G):=by
 have g0:(tbL S Ls G)[S.length]?=some (.dic (dkB (S.length+1) Ls.length)):=by unfold tbL;rw[ga0];rfl
 have kk:oj (.int (b:Int))=some (Sum.inl (b:Int)):=rfl;have g1:=uF (S:=S) (G:=G) h;have hv:kW (dkB (S.length+1) Ls.length) (Sum.inl (b:Int))=some (U.ref (S.length+1+b)):=wR h;obtain⟨wu,hwu⟩:∃wu,wu=(Ls.getD b []).map U.int:=⟨_,rfl⟩;have hA:wu.length<LIM:=by rw[hwu,Q9];unfold LIM;omega
 have e3:(Ls.getD b []++[a]).map U.int=wu++[.int a]:=by rw[hwu,Qn];rfl
 rw[<-BV h,e3];rw[<-hwu]at g1;unfold cQ;rwa[g0,g1,kk,hv,Bn,eX hA]
end
theorem rK{S:Sto}{l:Nat}{xs:List Int}{a:Int}(neg:Bool)(h:S[l]?=some (.lst (xs.map U.int))):fIn neg (.int a) (.ref l) S=some (.bl (if neg then !inR xs a else inR xs a),S):=by
 have t:=sV (b:=a) (row:=xs) (S:=S);simp only[fIn]at t;rw[if_pos flI]at t;have e:inU (.int a) (xs.map U.int)=inR xs a:=by
  have:=Option.some.inj t;simpa using this
 simp only[fIn,h];rw[if_pos flI,e]
theorem mf{ps:List (Int×Int)}:(bD ps).length<=ps.length:=by
 unfold bD;split
 ·rename_i hx;obtain⟨h1,h2⟩:=hx.choose_spec;exact List.Nodup.length_le_of_subset (h1.imp fun{a b} h e=>by subst e;rw[mK]at h;cases h) fun p hp=>(h2 p).mp hp
 ·exact ZQ _
def bfL(M:List (Int×Int))(m:Nat):List (List Int):=(Qy m).map fun b:Nat=>(M.filter fun p=>decide (p.2=(b:Int))).map (·.1)
theorem dN(M:List (Int×Int))(m:Nat):(bfL M m).length=m:=by simp[bfL]
theorem ql{M:List (Int×Int)}{m b:Nat}(h:b<m):(bfL M m).getD b []=(M.filter fun p=>decide (p.2=(b:Int))).map (·.1):=by
 unfold bfL;rw[QQ,Qr,List.getElem?_range h];rfl
theorem mZ{M:List (Int×Int)}{m:Nat}{a c:Int}(h0:0<=a)(h:a<m):c∈(bfL M m).getD a.toNat []↔(c,a)∈M:=by
 rw[ql (by omega),Qu];constructor
 ·rintro⟨⟨p,q⟩,hp,rfl⟩;obtain⟨h1,h2⟩:=Qi.mp hp;have:q=a:=by have:=of_decide_eq_true h2;dsimp only at this;omega
  rw[<-this];exact h1
 ·exact fun h=>⟨_,Qi.mpr ⟨h,decide_eq_true (by dsimp only;omega)⟩,rfl⟩
theorem xq{M:List (Int×Int)}{m b:Nat}:((bfL M m).getD b []).length<=M.length:=by
 by_cases h:b<m
 ·rw[ql h,Q9];exact ZP ..
 ·rw[QQ,ZK (by rw[dN];omega)];exact ZQ _
theorem Ac{M:List (Int×Int)}{m b:Nat}{p:Int×Int}(hp:p.2=(b:Int))(hb:b<m):bfL (M++[p]) m=(bfL M m).set b ((bfL M m).getD b []++[p.1]):=by
 refine Zt fun i=>?_;rw[ZZ];by_cases hi:i<m
 ·have e1:∀N,(bfL N m)[i]?=some ((N.filter fun p=>decide (p.2=(i:Int))).map (·.1)):=fun N=>by
   unfold bfL;rw[Qr,List.getElem?_range hi];rfl
  rw[e1];by_cases h:b=i
  ·subst h;rw[if_pos rfl,if_pos (by rw[dN];exact hb),ql hb,List.filter_append,Qn];simp[hp]
  ·rw[if_neg h,e1,List.filter_append];have:decide (p.2=(i:Int))=false:=decide_eq_false (by omega);simp[this]
 ·rw[ZK (by rw[dN];omega),if_neg (by omega),ZK (by rw[dN];omega)]
structure Bf(D:Nat)(Ls:List (List Int))(S:Sto):Prop where
 d:S[D]?=some (.dic (dkB (D+1) Ls.length))
 l:∀b,b<Ls.length->S[D+1+b]?=some (.lst ((Ls.getD b []).map U.int))
theorem Bf.app{D:Nat}{Ls:List (List Int)}{S:Sto}(h:Bf D Ls S)(G:Sto):Bf D Ls (S++G):=⟨ak h.d,fun b hb=>ak (h.l b hb)⟩
theorem Bf.set{D:Nat}{Ls:List (List Int)}{S:Sto}{j:Nat}{o:O}(h:Bf D Ls S)(hj:D+Ls.length<j):Bf D Ls (S.set j o):=⟨by rw[Qg (by omega)];exact h.d,fun b hb=>by rw[Qg (by omega)];exact h.l b hb⟩
theorem Bf.ix{D:Nat}{Ls:List (List Int)}{S:Sto}(h:Bf D Ls S){a:Int}(h0:0<=a)(h1:a.toNat<Ls.length):fIx (.ref D) (.int a) S=some (.ref (D+1+a.toNat),S):=by
 have kk:oj (.int a)=some (Sum.inl ((a.toNat:Nat):Int)):=by rw[Ek,Int.toNat_of_nonneg h0]
 rw[Bm,h.d,Bn,kk,Q8,wR h1,Q8]
theorem BW{S:Sto}{Ls:List (List Int)}{G:Sto}{j:Nat}(h:S.length+1+Ls.length<=j):(tbL S Ls G)[j]?=G[j-(S.length+1+Ls.length)]?:=by
 unfold tbL;rw[QN (by omega),QN (by simp;omega)];congr 1;simp;omega
theorem HH{S G:Sto}{m:Nat}:tbS S m++G=tbL S (bfL [] m) G:=by
 unfold tbS tbL;have:(bfL [] m).map (fun l=>O.lst (l.map U.int))=ZU m (O.lst []):=by
  unfold bfL;rw[Qa];refine List.eq_replicate_iff.mpr ⟨by simp,fun b hb=>?_⟩;obtain⟨i,_,rfl⟩:=Qu.mp hb;rfl
 rw[this,dN,QZ]
theorem EL{S G:Sto}{Ls:List (List Int)}:Bf S.length Ls (tbL S Ls G):=⟨by unfold tbL;rw[ga0];rfl,fun b hb=>uF hb⟩
def Jc:Fn:=fnU 5 1 (bQ gE)
section
variable{S:Sto}{tms:List (Int×Int)}{wr lk:List (List Int)}{many:Int}
theorem HG(T:eF many tms wr lk)(m0:0<=many)(hm:many<=7):Wp (Jc [aV many (.tup (tms.map pP)) wr lk] S) fun r=>r.1=.ref S.length/\(∃G,r.2=S++G)/\Bf S.length (bfL (bD (fj tms wr lk)) many.toNat) r.2/\S.length+1+many.toNat<=r.2.length:=by
 obtain⟨G1,j,e1,g1,lj⟩:=mI (S:=tbS S many.toNat) T hm;have hin:∀p∈bD (fj tms wr lk),0<=p.2/\p.2<many:=fun p hp=>(T.all_in p (dX.mp hp)).2;have hml:(bD (fj tms wr lk)).length<=1000:=Qc mf (T.all_len (by omega));generalize bD (fj tms wr lk)=M at g1 hin hml ⊢;have hix:∀Y,fIx (aV many (.tup (tms.map pP)) wr lk) (.int 0) Y=some (.int many,Y):=fun Y=>rfl;generalize aV many (.tup (tms.map pP)) wr lk=tu at e1 hix ⊢;have lt:(tbS S many.toNat).length=S.length+1+many.toNat:=by unfold tbS;simp;omega
 rw[lt]at lj;rw[HH]at e1 g1;have far:∀N,(tbL S (bfL N many.toNat) G1)[j]?=some (.lst (M.map pP)):=fun N=>by
  rw[BW (by rw[dN];exact lj),dN]at g1 ⊢;exact g1
 obtain⟨r2',h1⟩:=qH (S:=S) (x0:=some tu) (r3:=none) (r4:=none) (f:=gE) many.toNat 0 none (by omega);unfold Jc;rw[kQ];unfold bQ;rwa[];refine Wp.bind (Wp.bind (yo (S1:=S++[.dic []]) (pT (n:=many) (by rwa[hix]) m0 (by omega)) (.of (r:=(.nx,[some tu,some (.ref S.length),r2',none,none],tbS S many.toNat)) ?_ ?_)))
 ·rw[nO,List.range_eq_range'];rw[Nat.zero_add]at h1;exact h1
 rwa[];refine Wp.bind (yo (S1:=tbL S (bfL [] many.toNat) G1) (j8 (l:=j) (us:=M.map pP) (by rwa[e1]) (far [])) (kJ (fun rest ρ Y=>∃dn r2 r3 r4,M=dn++rest/\ρ=[some tu,some (.ref S.length),r2,r3,r4]/\Y=tbL S (bfL dn many.toNat) G1) (fun ρ Y h=>?_) (fun p rest ρ Y h=>?_) M _ _ ⟨[],_,_,_,rfl,rfl,rfl⟩))
 ·obtain⟨dn,r2,r3,r4,rfl,rfl,rfl⟩:=h;rw[Qe]at far ⊢;refine⟨far dn,?_⟩;rwa[ay];refine⟨trivial,⟨_,rfl⟩,EL,?_⟩;unfold tbL;simp[dN];omega
 ·obtain⟨dn,r2,r3,r4,rfl,rfl,rfl⟩:=h;refine⟨far dn,?_⟩;have hp:=hin p (by simp);have e2:p.2=((p.2.toNat:Nat):Int):=by omega
  have hb:p.2.toNat<many.toNat:=by omega
  have tt:=yu (S:=S) (x0:=some tu) (f:=gE) (Ls:=bfL dn many.toNat) (G:=G1) (r2:=r2) (a:=p.1) (b:=p.2.toNat) (by rw[dN];exact hb) (by have:=xq (M:=dn) (m:=many.toNat) (b:=p.2.toNat);rw[QV]at hml;omega);rw[<-e2,<-Ac e2 hb]at tt;refine .of (r:=([some tu,some (.ref S.length),r2,some (.int p.1),some (.int p.2)],tbL S (bfL dn many.toNat) G1)) rfl (.of tt (.inl ⟨rfl,dn++[p],r2,_,_,by simp,rfl,rfl⟩))
end
theorem JS{ca:CE}{ρ:Rho}{S:Sto}{l:Nat}{Q:U×Sto->Prop}{us:List U}(h:ca ρ S=some (.ref l,S))(hl:S[l]?=some (.lst us))(q:Q (.ref S.length,S++[.lst us.reverse])):Wp (jC ca ρ S) Q:=by
 refine .of (r:=(.ref S.length,S++[.lst us.reverse])) ?_ q;unfold jC;rw[h,Q8];simp only[hl]
structure xG(Ls:List (List Int))(rs:List Int):Prop where
 nd:rs.Nodup
 two:2<=rs.length
 cyc:∀k,k<rs.length->rs.getD (if k=0 then rs.length-1 else k-1) 0∈Ls.getD (rs.getD k 0).toNat []
theorem wG{xs ys:List Int}{i:Nat}(h:i<xs.length):(xs++ys).getD i 0=xs.getD i 0:=by
 rw[QQ,Qz h,QQ]
theorem wD{xs:List Int}{i:Nat}(h:i<xs.length):xs.getD i 0∈xs:=by
 rw[QQ,Q6 h];exact Z9 h
theorem wF{xs:List Int}{a:Int}:(xs++[a]).getD xs.length 0=a:=by
 rw[QQ,QN (QJ _),Nat.sub_self];rfl
theorem Ca{Ls:List (List Int)}{tr:List Int}{c:Int}(nd:tr.Nodup)(hn:∀i,i+1<tr.length->tr.getD (i+1) 0∈Ls.getD (tr.getD i 0).toNat [])(hc:c∈tr)(hl:c∈Ls.getD (tr.getD (tr.length-1) 0).toNat [])(hne:c≠tr.getD (tr.length-1) 0):xG Ls (tr.drop (tr.idxOf c)).reverse:=by
 have hi:tr.idxOf c<tr.length:=Qo hc;have gi:tr.getD (tr.idxOf c) 0=c:=by
  rw[QQ,Q6 hi];exact List.getElem_idxOf hi
 generalize tr.idxOf c=i at hi gi;have h1:i+1<tr.length:=by
  refine Nat.lt_of_not_le fun z=>hne ?_;rw[show tr.length-1=i by omega,gi]
 have len:(tr.drop i).reverse.length=tr.length-i:=by simp
 have gd:∀k,k<tr.length-i->(tr.drop i).reverse.getD k 0=tr.getD (tr.length-1-k) 0:=fun k hk=>by
  rw[QQ,List.getElem?_reverse (by simpa using hk),List.getElem?_drop,QQ];congr 2;simp;omega
 refine⟨(List.reverse_perm _).nodup_iff.mpr (nd.sublist (List.drop_sublist ..)),by rw[len];omega,fun k hk=>?_⟩;rw[len]at hk;rw[len,gd k hk];by_cases h0:k=0
 ·subst h0;rw[if_pos rfl,gd _ (by omega),show tr.length-1-(tr.length-i-1)=i by omega,gi];exact hl
 ·rw[if_neg h0,gd _ (by omega),show tr.length-1-(k-1)=tr.length-1-k+1 by omega];exact hn _ (by omega)
def Jd:Fn:=fnU 5 2 (cI 100)
section
variable{S:Sto}{D jl:Nat}{Ls:List (List Int)}{left:List Int}
theorem HM (hB : Bf D Ls S) (hl : S[jl]? = some (.lst (left.map U.int))) (h1 : left ≠ []) (hin : ∀ a ∈ left, 0 <= a /\ a.toNat < Ls.length) (hpre : ∀ a ∈ left, ∃ c ∈ Ls.getD a.toNat [], c ∈ left) (hLs : ∀ b, (Ls.getD b []).length <= 1000) (hll : left.length <= 90) (hne : ∀ a ∈ left, a ∉ Ls.getD a.toNat []) :
    Wp (Jd [.ref D,.ref jl] S) fun r=>∃j rs,r.1=.ref j/\(∃G,r.2=S++G)/\S.length<=j/\r.2[j]?=some (.lst (rs.map U.int))/\xG Ls rs/\∀a∈rs,a∈left:=by
  obtain⟨a0,lr,rfl⟩:=List.exists_cons_of_ne_nil h1;unfold Jd;rw[oF];unfold cI;rwa[hl,ay];generalize hleft:a0::lr=left at *;refine Wp.bind (ux (fun n ρ Y=>∃tr r3 r4 G,ρ=[some (.ref D),some (.ref jl),some (.ref S.length),r3,r4]/\Y=S++(.lst (tr.map U.int)::G)/\tr≠[]/\tr.Nodup/\(∀a∈tr,a∈left)/\(∀i,i+1<tr.length->tr.getD (i+1) 0∈Ls.getD (tr.getD i 0).toNat [])/\n+tr.length=left.length) (fun n ρ Y h=>?_) 100 (left.length-1) _ _ (by omega) ⟨[a0],none,none,[],rfl,rfl,by simp,by simp,fun a ha=>by rw[Qv.mp ha,<-hleft];exact QK,fun i hi=>by simp at hi,by rw[<-hleft];simp⟩);obtain⟨tr,r3,r4,G,rfl,hY,hne',nd,hs,hnx,hn⟩:=h;obtain⟨t0,c,rfl⟩:∃t0 c,tr=t0++[c]:=⟨_,_,(List.dropLast_concat_getLast hne').symm⟩;have hc:c∈left:=hs c (by simp);have gt:Y[S.length]?=some (.lst ((t0++[c]).map U.int)):=by rw[hY,ga0];rfl
  have hBY:Bf D Ls Y:=by rw[hY];exact hB.app _
  have hlY:Y[jl]?=some (.lst (left.map U.int)):=by rw[hY];exact ak hl
  have hat:atI ((t0++[c]).map U.int) (-1)=some (.int c):=by rw[Qn];exact xv
  obtain⟨tu,htu⟩:∃tu,tu=(t0++[c]).map U.int:=⟨_,rfl⟩;rw[<-htu]at gt hat;have hix:=hBY.ix (hin c hc).1 (hin c hc).2;unfold fW;rwa[ay];refine⟨fun z=>(nomatch z),fun _=>?_⟩;refine Wp.bind (Wp.bind (Wp.bind (lV (S1:=Y) (cs:=[some (.ref jl)]) (xs:=Ls.getD c.toNat []) (f:=U.int) (v:=U.int) (p:=inR left) (j8 (l:=D+1+c.toNat) (by rwa[sg,kS,gt,hat,hix,ay]) (hBY.l _ (hin c hc).2)) (fun G=>ak (hBY.l _ (hin c hc).2)) (by have:=hLs c.toNat;omega) rfl (fun x hx G=>?_) fun G2=>?_)))
  · have i1:=rK (S:=Y++G) (a:=x) false (ak hlY)
    rwa[i1,if_false,Qx,ay];exact⟨trivial,[],by simp,fun _=>⟨trivial,[],by simp⟩⟩
  obtain⟨b,hbm,hbl⟩:=hpre c hc;obtain⟨e,es,hes⟩:∃e es,(Ls.getD c.toNat []).filter (inR left)=e::es:=by
    cases h:(Ls.getD c.toNat []).filter (inR left)with
    | nil => have : b ∈ (Ls.getD c.toNat []).filter (inR left) := Qi.mpr ⟨hbm, decide_eq_true hbl⟩
             rw[h]at this;cases this
    |cons e es=>exact⟨e,es,rfl⟩
  have hem:e∈Ls.getD c.toNat []/\e∈left:=by
    have:e∈(Ls.getD c.toNat []).filter (inR left):=by rw[hes];exact QK
    exact⟨(Qi.mp this).1,j7 (Qi.mp this).2⟩
  rw[hes,QF];obtain⟨Y1,hY1⟩:∃Y1,Y1=Y++(.lst (.int e::es.map U.int)::G2):=⟨_,rfl⟩;rw[<-hY1];have g1:Y1[Y.length]?=some (.lst (.int e::es.map U.int)):=by rw[hY1,ga0];rfl
  have gt1:Y1[S.length]?=some (.lst tu):=by rw[hY1];exact ak gt
  have gt2:=gt1;rw[htu]at gt2;have i2:=rK (S:=Y1) (a:=e) false gt2;rwa[g1,i2,if_false,Qx,ay];have hY1S:Y1=S++(.lst tu::(G++(.lst (.int e::es.map U.int)::G2))):=by rw[hY1,hY,htu];simp
  have hlen:(t0++[c]).length<=left.length:=List.Nodup.length_le_of_subset nd hs;have lastc:(t0++[c]).getD ((t0++[c]).length-1) 0=c:=by
    rw[show(t0++[c]).length-1=t0.length by simp];exact wF
  by_cases he:e∈t0++[c]
  · have:inR (t0++[c]) e=true:=decide_eq_true he
    have ix:=bU (S:=Y1) gt2 he (by omega);have sl:=uP (S:=Y1) (k:=(t0++[c]).idxOf e) gt2 (by rw[Q9];exact Zb (Qo he));rw[this];rwa[cSl,gB,gt1,ix,sl,ay];refine Wp.bind (Wp.bind (JS (l:=Y1.length) (us:=((t0++[c]).map U.int).drop ((t0++[c]).idxOf e)) rfl (by rw[ga0];rfl) ?_));rwa[ay];refine .inr ⟨_,rfl,Y1.length+1,((t0++[c]).drop ((t0++[c]).idxOf e)).reverse,?_,?_,?_,?_,Ca nd hnx he (by rw[lastc];exact hem.1) (by rw[lastc];intro z;rw[z]at hem;exact hne c hc hem.1),fun a ha=>hs a (List.mem_of_mem_drop (List.mem_reverse.mp ha))⟩
    · simp
    · rw[hY1S];exact⟨_,by rw[QZ]⟩
    · rw[hY1S];simp;omega
    · rw[ga];simp[List.map_reverse,List.map_drop]
  · have:inR (t0++[c]) e=false:=decide_eq_false he
    have hA:tu.length<LIM:=by rw[htu,Q9];unfold LIM;omega
    rw[this];rwa[gt1,eX hA,ay];have nd2:(t0++[c]++[e]).Nodup:=X6.mpr ⟨nd,by simp,fun x hx y hy z=>by rw[Qv.mp hy]at z;exact he (z▸hx)⟩;have hs2:∀a∈t0++[c]++[e],a∈left:=fun a ha=>by
      rcases Qd.mp ha with z|z
      · exact hs a z
      · rw[Qv.mp z];exact hem.2
    have hlen2:=List.Nodup.length_le_of_subset nd2 hs2;rw[QV,Qs]at hlen2;refine .inl ⟨trivial,n-1,by omega,t0++[c]++[e],some (.int e),r4,G++(.lst (.int e::es.map U.int)::G2),rfl,?_,by simp,nd2,hs2,fun i hi=>?_,by rw[QV (bs:=[e]),Qs];omega⟩
    · rw[hY1S,gs0,Qn (l₂:=[e]),<-htu];rfl
    · rw[QV (bs:=[e]),Qs]at hi
      by_cases h2:i+1<(t0++[c]).length
      · rw[wG h2,wG (by omega)];exact hnx i h2
      · have:i+1=(t0++[c]).length:=by omega
        rw[this,wF,wG (by omega),show i=(t0++[c]).length-1 by omega,lastc];exact hem.1
end
def rgI(m:Nat):List Int:=(Qy m).map fun i:Nat=>(i:Int)
theorem bF{m:Nat}{a:Int}:a∈rgI m↔0<=a/\a<m:=by
 unfold rgI;constructor
 ·intro h;obtain⟨i,hi,rfl⟩:=Qu.mp h;have:=Qb.mp hi;omega
 ·exact fun h=>Qu.mpr ⟨a.toNat,Qb.mpr (by omega),by omega⟩
theorem u0(m:Nat):(rgI m).Nodup:=List.Pairwise.map _ (fun a b h e=>h (by omega)) X0
structure Kc(Ls:List (List Int))(m:Nat)(os:List Int):Prop where
 nd:os.Nodup
 mem:∀a,a∈os↔a∈rgI m
 lt:∀a∈os,∀c∈Ls.getD a.toNat [],os.idxOf c<os.idxOf a
structure OL(Ls:List (List Int))(m:Nat)(os ls:List Int):Prop where
 nd:os.Nodup
 ndl:ls.Nodup
 mem:∀a,a∈rgI m↔a∈os\/a∈ls
 dis:∀a∈os,a∉ls
 lt:∀a∈os,∀c∈Ls.getD a.toNat [],c∈os/\os.idxOf c<os.idxOf a
def frO(Ls:List (List Int))(ls:List Int):List Int:=ls.filter fun a=>!((Ls.getD a.toNat []).any (inR ls))
theorem kh{Ls:List (List Int)}{ls:List Int}{a:Int}:a∈frO Ls ls↔a∈ls/\∀c∈Ls.getD a.toNat [],c∉ls:=by
 unfold frO inR;rw[Qi];simp
theorem OL.step{Ls:List (List Int)}{m:Nat}{os ls:List Int}(h:OL Ls m os ls)(hL:∀a∈rgI m,∀c∈Ls.getD a.toNat [],c∈rgI m):OL Ls m (os++frO Ls ls) (ls.filter fun a=>!inR (frO Ls ls) a):=by
 have ml:∀a,a∈ls.filter (fun a=>!inR (frO Ls ls) a)↔a∈ls/\a∉frO Ls ls:=fun a=>by
  rw[Qi];unfold inR;simp
 refine⟨X6.mpr ⟨h.nd,h.ndl.sublist List.filter_sublist,fun x hx y hy e=>h.dis x hx (e▸(kh.mp hy).1)⟩,h.ndl.sublist List.filter_sublist,fun a=>?_,fun a ha hb=>?_,fun a ha c hc=>?_⟩
 ·rw[h.mem,Qd,ml];constructor
  ·rintro(z|z)
   ·exact .inl (.inl z)
   ·by_cases hf:a∈frO Ls ls
    ·exact .inl (.inr hf)
    ·exact .inr ⟨z,hf⟩
  ·rintro((z|z)|z)
   ·exact .inl z
   ·exact .inr (kh.mp z).1
   ·exact .inr z.1
 ·obtain⟨z1,z2⟩:=(ml a).mp hb;rcases Qd.mp ha with z|z
  ·exact h.dis a z z1
  ·exact z2 z
 ·rcases Qd.mp ha with z|z
  ·obtain⟨h1,h2⟩:=h.lt a z c hc;exact⟨Zn _ h1,by rw[List.idxOf_append,if_pos h1,List.idxOf_append,if_pos z];exact h2⟩
  ·obtain⟨z1,z2⟩:=kh.mp z;have hc1:c∈os:=((h.mem c).mp (hL a ((h.mem a).mpr (.inr z1)) c hc)).resolve_right (z2 c hc);have na:a∉os:=fun q=>h.dis a q z1;refine⟨Zn _ hc1,?_⟩;rw[List.idxOf_append,if_pos hc1,List.idxOf_append,if_neg na];have:=Qo hc1;omega
def DM:Fn:=fnU 5 1 (bM Jc Jd 100)
def Jf(Ls:List (List Int))(m:Nat)(S:Sto)(r:U×Sto):Prop:=(∃G,r.2=S++G)/\∃j xs,S.length<=j/\r.2[j]?=some (.lst (xs.map U.int))/\xs.length<=m/\((r.1=.tup [.str "order",.ref j]/\Kc Ls m xs)\/(r.1=.tup [.str "ring",.ref j]/\xG Ls xs/\∀a∈xs,a∈rgI m))
section
variable{S:Sto}{tms:List (Int×Int)}{wr lk:List (List Int)}{many:Int}
theorem FR(T:eF many tms wr lk)(m0:0<=many)(hm:many<=7):Wp (DM [aV many (.tup (tms.map pP)) wr lk] S) (Jf (bfL (bD (fj tms wr lk)) many.toNat) many.toNat S):=by
 obtain⟨⟨u,S1⟩,e1,h1,⟨G1,hG1⟩,hB,hS1⟩:=HG (S:=S) T m0 hm;dsimp only at h1 hG1 hB hS1;subst h1;have hin:∀p∈bD (fj tms wr lk),p.1∈rgI many.toNat/\p.1≠p.2:=fun p hp=>⟨bF.mpr (by have:=(T.all_in p (dX.mp hp)).1;omega),T.all_ne p (dX.mp hp)⟩;have hml:(bD (fj tms wr lk)).length<=1000:=Qc mf (T.all_len (by omega));generalize bD (fj tms wr lk)=M at hB hin hml ⊢;generalize aV many (.tup (tms.map pP)) wr lk=tu at e1 ⊢;obtain⟨m,hm'⟩:∃m,m=many.toNat:=⟨_,rfl⟩;rw[<-hm']at hB hS1 hin ⊢;have hm30:m<=7:=by omega
 have bm:∀{a c:Int},a∈rgI m->(c∈(bfL M m).getD a.toNat []↔(c,a)∈M):=fun{a c} ha=>mZ (bF.mp ha).1 (bF.mp ha).2;have few:∀b,((bfL M m).getD b []).length<=1000:=fun b=>Qc xq hml;have hL:∀a∈rgI m,∀c∈(bfL M m).getD a.toNat [],c∈rgI m:=fun a ha c hc=>(hin _ ((bm ha).mp hc)).1;have hne:∀a∈rgI m,a∉(bfL M m).getD a.toNat []:=fun a ha hc=>(hin _ ((bm ha).mp hc)).2 rfl;have blen:=dN M m;generalize bfL M m=Ls at hB few hL hne blen ⊢;have hlist:oD [.ref S.length] (S1++[.lst []])=some (.ref (S1.length+1),S1++[.lst [],.lst ((rgI m).map U.int)]):=by
  have g:(S1++[O.lst []])[S.length]?=some (.dic (dkB (S.length+1) m)):=by have:=hB.d;rw[blen]at this;exact ak this
  have ek:(dkB (S.length+1) m).map (fun p=>kU p.1)=(rgI m).map U.int:=by
   unfold dkB rgI;rw[Qa,Qa];rfl
  simp only[oD,g,ek];simp
 unfold DM;rw[ko];unfold bM;rwa[e1,hlist,ay];refine Wp.bind (Wp.bind (ux (fun n ρ Y=>∃os ls jl r4 G,ρ=[some tu,some (.ref S.length),some (.ref S1.length),some (.ref jl),r4]/\Y[S1.length]?=some (.lst (os.map U.int))/\Y[jl]?=some (.lst (ls.map U.int))/\jl≠S1.length/\Bf S.length Ls Y/\Y=S++G/\OL Ls m os ls/\ls.length=n) (fun n ρ Y h=>?_) 100 m _ _ (by omega) ⟨[],rgI m,S1.length+1,none,G1++[.lst [],.lst ((rgI m).map U.int)],rfl,by rw[ga0];rfl,by rw[ga];rfl,by omega,hB.app _,by rw[hG1];simp,⟨by simp,u0 m,fun a=>by simp,fun a ha=>(by cases ha),fun a ha=>(by cases ha)⟩,by simp[rgI]⟩));obtain⟨os,ls,jl,r4,G,rfl,go,gl,nj,hBY,hYG,ol,hn⟩:=h;have lY:S1.length<Y.length:=(Q7.mp go).1;have lls:ls.length<=m:=by
  have:=List.Nodup.length_le_of_subset ol.ndl (fun a ha=>(ol.mem a).mpr (.inr ha));simpa [rgI] using this
 have los:os.length<=m:=by
  have:=List.Nodup.length_le_of_subset ol.nd (fun a ha=>(ol.mem a).mpr (.inl ha));simpa [rgI] using this
 obtain⟨lu,hlu⟩:∃lu,lu=ls.map U.int:=⟨_,rfl⟩;have glu:=gl;rw[<-hlu]at glu;have ll:lu.length=n:=by rw[hlu,Q9,hn]
 have t1:aL (cOp fGt (cCB lK (ag (ao 3) aB)) (cC (.int 0))) [some tu,some (.ref S.length),some (.ref S1.length),some (.ref jl),r4] Y=some (decide ((n:Int)>0),Y):=by
  rwa[glu,ll]
 rw[t1];simp only[ay];refine⟨fun hz=>?_,fun hz=>?_⟩
 ·have:ls=[]:=by have:=of_decide_eq_false hz;exact List.length_eq_zero_iff.mp (by omega)
  subst this;rwa[ay];refine⟨⟨G,hYG⟩,S1.length,os,by rw[hG1];simp,go,los,.inl ⟨rfl,ol.nd,fun a=>by rw[ol.mem];simp,fun a ha c hc=>(ol.lt a ha c hc).2⟩⟩
 have hnz:=of_decide_eq_true hz;have hrg:∀a∈ls,a∈rgI m:=fun a ha=>(ol.mem a).mpr (.inr ha);have hlt:∀a∈ls,0<=a/\a.toNat<Ls.length:=fun a ha=>by have:=bF.mp (hrg a ha);omega
 unfold d9;rwa[ay];refine Wp.bind (Wp.bind (lV (S1:=Y) (cs:=[some (.ref jl),some (.ref S.length)]) (xs:=ls) (f:=U.int) (v:=U.int) (p:=fun a=>!((Ls.getD a.toNat []).any (inR ls))) (j8 (l:=jl) rfl gl) (fun G=>ak gl) (by omega) rfl (fun a ha X=>?_) fun G2=>?_))
 ·have hBX:=hBY.app X;have hix:=hBX.ix (hlt a ha).1 (hlt a ha).2;simp only[Ef,nq];refine Wp.bind (Wp.bind (JT (uy (S1:=Y++X) (cs:=[some (.ref jl)]) (xs:=Ls.getD a.toNat []) (f:=U.int) (v:=fun b=>.bl (inR ls b)) (j8 (l:=S.length+1+a.toNat) (by rwa[hix]) (hBX.l _ (hlt a ha).2)) (fun G=>ak (hBX.l _ (hlt a ha).2)) (by have:=few a.toNat;omega) rfl (fun b hb X2=>?_) fun X2=>?_)))
  ·have i1:=rK (S:=Y++(X++X2)) (a:=b) false (ak gl);rwa[i1,if_false,Qx,ay];exact⟨trivial,[],by simp⟩
  ·refine JU (bs:=(Ls.getD a.toNat []).map (inR ls)) (by rw[ga0,Qa];rfl) ?_;rwa[ay];refine⟨by rw[List.any_map];rfl,_,rfl,fun _=>⟨trivial,[],by simp⟩⟩
 change _ at G2;have efr:(ls.filter fun a=>!((Ls.getD a.toNat []).any (inR ls)))=frO Ls ls:=rfl;rw[efr];obtain⟨fu,hfu⟩:∃fu,fu=(frO Ls ls).map U.int:=⟨_,rfl⟩;have lfu:fu.length=(frO Ls ls).length:=by rw[hfu,Q9]
 rw[<-hfu];obtain⟨Y1,hY1⟩:∃Y1,Y1=Y++(.lst fu::G2):=⟨_,rfl⟩;rw[<-hY1];have gf:Y1[Y.length]?=some (.lst fu):=by rw[hY1,ga0];rfl
 have gl1:Y1[jl]?=some (.lst (ls.map U.int)):=by rw[hY1];exact ak gl
 have go1:Y1[S1.length]?=some (.lst (os.map U.int)):=by rw[hY1];exact ak go
 have hB1:Bf S.length Ls Y1:=by rw[hY1];exact hBY.app _
 have frl:(frO Ls ls).length<=ls.length:=ZP ..;by_cases h0:frO Ls ls=[]
 ·have t2:decide (((frO Ls ls).length:Int)=0)=true:=by rw[h0];rfl
  obtain⟨⟨v,Y2⟩,e2,j,rs,z1,⟨G3,hG3⟩,lj,gj,rb,rin⟩:=HM (S:=Y1) hB1 gl1 (by intro z;rw[z]at hn;simp at hn;omega) hlt (fun a ha=>by
   have:a∉frO Ls ls:=by rw[h0];simp
   by_cases hx:∃c∈Ls.getD a.toNat [],c∈ls
   ·exact hx
   ·exact absurd (kh.mpr ⟨ha,fun c hc hcl=>hx ⟨c,hc,hcl⟩⟩) this) few (by omega) (fun a ha=>hne a (hrg a ha))
  dsimp only at z1 hG3 gj;subst z1;rwa[gf,lfu,t2,e2,ay];refine .inr ⟨_,rfl,⟨_,by rw[hG3,hY1,hYG,QZ,QZ]⟩,j,rs,?_,gj,?_,.inr ⟨rfl,rb,fun a ha=>hrg a (rin a ha)⟩⟩
  ·rw[hY1,hYG]at lj;simp at lj;omega
  ·have:=List.Nodup.length_le_of_subset rb.nd rin;omega
 ·have t2:decide (((frO Ls ls).length:Int)=0)=false:=decide_eq_false (by have:=List.length_pos_iff.mpr h0;omega);obtain⟨ou,hou⟩:∃ou,ou=os.map U.int:=⟨_,rfl⟩;rw[<-hou]at go1;have x1:=AS (l:=S1.length) (b:=Y.length) (us:=ou) (vs:=fu) (Y:=Y1) go1 gf (by rw[lfu,hou,Q9];unfold LIM;omega);rwa[gf,lfu,t2,go1,x1,ay];obtain⟨Y2,hY2⟩:∃Y2,Y2=Y1.set S1.length (.lst (ou++fu)):=⟨_,rfl⟩;rw[<-hY2];have l12:S1.length<Y1.length:=(Q7.mp go1).1;have lY1:Y.length<Y1.length:=(Q7.mp gf).1;have gl2:Y2[jl]?=some (.lst (ls.map U.int)):=by rw[hY2,Qg (by omega)];exact gl1
  have gf2:Y2[Y.length]?=some (.lst ((frO Ls ls).map U.int)):=by rw[hY2,Qg (by omega),<-hfu];exact gf
  have go2:Y2[S1.length]?=some (.lst ((os++frO Ls ls).map U.int)):=by rw[hY2,ZZ,if_pos rfl,if_pos l12,hou,hfu,Qn]
  have hB2:Bf S.length Ls Y2:=by rw[hY2];exact hB1.set (by rw[blen];omega)
  refine Wp.bind (lV (S1:=Y2) (cs:=[some (.ref Y.length)]) (xs:=ls) (f:=U.int) (v:=U.int) (p:=fun a=>!inR (frO Ls ls) a) (j8 (l:=jl) rfl gl2) (fun G=>ak gl2) (by omega) rfl (fun a ha X=>?_) fun G3=>?_)
  ·have i1:=rK (S:=Y2++X) (a:=a) true (ak gf2);rwa[i1,if_true,ay];exact⟨trivial,[],by simp,fun _=>⟨trivial,[],by simp⟩⟩
  ·rwa[ay];have hlt2:(ls.filter fun a=>!inR (frO Ls ls) a).length<n:=by
    rw[<-hn];refine Nat.lt_of_le_of_ne (ZP ..) fun e=>?_;obtain⟨x,xs,hx⟩:=List.exists_cons_of_ne_nil h0;have hx':x∈frO Ls ls:=by rw[hx];exact QK
    have:=List.length_filter_eq_length_iff.mp e x (kh.mp hx').1;rw[show inR (frO Ls ls) x=true from decide_eq_true hx']at this;cases this
   refine .inl ⟨trivial,_,hlt2,os++frO Ls ls,_,Y2.length,_,?_,rfl,ak go2,by rw[ga0];rfl,?_,hB2.app _,?_,ol.step hL,rfl⟩
   ·exact(G++(.lst fu::G2)).set (S1.length-S.length) (.lst (ou++fu))++(.lst ((ls.filter fun a=>!inR (frO Ls ls) a).map U.int)::G3)
   ·rw[hY2,Zc];omega
   ·have lS:S.length<=S1.length:=by rw[hG1];simp
    rw[hY2,hY1,hYG,QZ,List.set_append_right _ _ lS,QZ]
end
section
variable{S:Sto}
def pDt(p:Int×Int):PyData:=.tuple [.int p.1,.int p.2]
theorem AB(p:Int×Int):(pDt p).canLay0=true:=by simp[pDt,PyData.canLay0,PyData.canLayAll0]
theorem vD:∀ts:List (Int×Int),PyData.canLayAll0 (ts.map pDt)=true
 |[]=>by simp[PyData.canLayAll0]
 |p::ts=>by rw[QF];unfold PyData.canLayAll0;rw[AB,vD ts];rfl
theorem AD{S:Sto}:∀ts:List (Int×Int),DtL S (ts.map pP) (ts.map pDt)
 |[]=>.nil
 |p::ts=>.cons (.tup (.cons (.int _) (.cons (.int _) .nil))) (AD ts)
theorem CO(p q:Int×Int):(pDt q).eqv (pDt p)=decide (q=p):=by
 have e:(pDt q).eqv (pDt p)=((q.1 == p.1)&&((q.2 == p.2)&&true)):=rfl;rw[e,ZE];obtain⟨a,b⟩:=p;obtain⟨c,d⟩:=q;simp
theorem Gk{l:Nat}{ts:List (Int×Int)}{p:Int×Int}(h:S[l]?=some (.lst (ts.map pP))):AQ false (pP p) (.ref l) S=some (.bl (decide (p∈ts)),S):=by
 have e:((ts.map pDt).any fun z=>z.eqv (pDt p))=decide (p∈ts):=by
  rw[ZE,List.any_map,List.any_eq_true];simp only[Function.comp,CO,decide_eq_true_eq];exact⟨fun⟨x,h1,h2⟩=>h2▸h1,fun h=>⟨p,h,rfl⟩⟩
 have:=wL (x:=pP p) (y:=.ref l) (S:=S) (b:=(ts.map pDt).any fun z=>z.eqv (pDt p)) false ⟨pDt p,ts.map pDt,.tup (.cons (.int _) (.cons (.int _) .nil)),.inl (.lst h (AD ts)),⟨AB p,by simp[pDt,PyData.depth,PyData.depthAll]⟩,vD ts,rfl⟩;rw[e]at this;exact this
end
theorem Dv{xs:List Int}(nd:xs.Nodup):Dx xs=xs.length:=by
 have:∀i,i<=xs.length->(firstMet (fun i=>xs.getD i 0) i).length=i:=by
  intro i;induction i with
  |zero=>intro _;rfl
  |succ i ih=>
   intro hi;rw[firstMet_succ];unfold step_dedup;have:(firstMet (fun i=>xs.getD i 0) i).any (· == xs.getD i 0)=false:=by
    rw[firstMet_any,List.any_map,List.any_eq_false];intro j hj e;have hj':=Qb.mp hj;have e':xs.getD j 0=xs.getD i 0:=by simpa using e
    rw[QQ,Q6 (by omega),QQ,Q6 (by omega)]at e';have:=(Zx.mp nd);exact(Z8.mp this) j i (by omega) (by omega) hj' e'
   try dsimp only
   rw[this,if_neg (by decide),QV,ih (by omega)];rfl
 exact this _ (QJ _)
theorem yy{xs:List Int}{m:Nat}(nd:xs.Nodup)(mem:∀a,a∈xs↔a∈rgI m):sE xs=rgI m:=by
 refine(mi ((List.perm_ext_iff_of_nodup (u0 m) nd).mpr fun a=>(mem a).symm) ?_).symm;unfold rgI;exact List.Pairwise.map _ (fun a b h=>by omega) (List.pairwise_lt_range.imp fun h=>Zb h)
def rj(M:List (Int×Int))(xs:List Int):Bool:=M.all fun p=>decide (((xs.idxOf p.1:Nat):Int)<((xs.idxOf p.2:Nat):Int))
def xK:Fn:=fnU 2 2 (bO m9 gE)
def xO:Fn:=fnU 3 2 (fA m9 gE)
theorem DK{α:Type}{xs:List α}{l:Nat}{S:Sto}(h:S[l]?=some (.lst (xs.map fun _=>U.bl true))):xS [.ref l] S=some (.bl true,S):=by
 have em:(xs.map fun _=>U.bl true)=(xs.map fun _=>true).map U.bl:=by rw[Qa];rfl
 have ea:((xs.map fun _=>true).all id)=true:=by simp
 simp only[xS,h,em,jE,Q8,ea]
theorem Dz(us:List U)(k:Nat):oI us (some (k:Int)) none=us.drop k:=by
 unfold oI;rw[HT.sIx_nat,HT.sIx_none];by_cases h:k<=us.length
 ·rw[Nat.min_eq_left h,ZD (by simp)]
 ·rw[Nat.min_eq_right (by omega),List.drop_eq_nil_of_le (by omega),List.drop_eq_nil_of_le (by omega),List.take_nil]
theorem IZ(us:List U)(k:Nat):oI us none (some (k:Int))=us.take k:=by
 unfold oI;rw[HT.sIx_nat,HT.sIx_none,List.drop_zero,Nat.sub_zero];by_cases h:k<=us.length
 ·rw[Nat.min_eq_left h]
 ·rw[Nat.min_eq_right (by omega),ZD (by omega),ZD (by omega)]
theorem slF{xs:List Int}{l:Nat}{S:Sto}(k:Nat)(hl:S[l]?=some (.lst (xs.map U.int))):fSl (.ref l) (some (k:Int)) none S=some (.ref S.length,S++[.lst ((xs.drop k).map U.int)]):=by
 simp only[fSl,hl,Dz,List.map_drop]
theorem slT{xs:List Int}{l:Nat}{S:Sto}(k:Nat)(hl:S[l]?=some (.lst (xs.map U.int))):fSl (.ref l) none (some (k:Int)) S=some (.ref S.length,S++[.lst ((xs.take k).map U.int)]):=by
 simp only[fSl,hl,IZ,List.map_take]
theorem qg{xs ys:List Int}{l k:Nat}{S:Sto}(hl:S[l]?=some (.lst (xs.map U.int)))(hk:S[k]?=some (.lst (ys.map U.int)))(hn:xs.length+ys.length<=1000):dF (.ref l) (.ref k) S=some (.ref S.length,S++[.lst ((xs++ys).map U.int)]):=by
 have ec:dF (.ref l) (.ref k) S=iS (.ref l) (.ref k) S:=by simp only[dF]
 rw[ec];simp only[iS,hl,hk];rw[if_pos (by unfold LIM;simp;omega),Qn]
theorem IP{ca cb:CE}{ρ:Rho}{S S1 S2:Sto}{l k:Nat}{us vs:List U}(h1:ca ρ S=some (.ref l,S1))(h2:cb ρ S1=some (.ref k,S2))(g1:S2[l]?=some (.lst us))(g2:S2[k]?=some (.lst vs)):GW ca cb ρ S=some (i9 us vs,fun S=>S[l]?=some (.lst us)/\S[k]?=some (.lst vs),S2):=by
 unfold GW;rw[h1,Q8];dsimp only;rw[h2,Q8];simp only[tL,g1,g2,Q8]
section
variable{S:Sto}{tms:List (Int×Int)}{wr lk:List (List Int)}{many:Int}{xs:List Int}{j:Nat}
theorem BQ(T:eF many tms wr lk)(m0:0<=many)(hm:many<=7)(hj:S[j]?=some (.lst (xs.map U.int)))(nd:xs.Nodup)(mem:∀a,a∈xs↔a∈rgI many.toNat)(hl:xs.length<=30) :
  Wp (xK [aV many (.tup (tms.map pP)) wr lk,.ref j] S) fun r=>r.1=.bl (rj (bD (fj tms wr lk)) xs)/\∃G,r.2=S++G:=by
 have hinM:∀p∈bD (fj tms wr lk),p.1∈rgI many.toNat/\p.2∈rgI many.toNat:=fun p hp=>by
  have:=T.all_in p (dX.mp hp);exact⟨bF.mpr (by omega),bF.mpr (by omega)⟩
 have hml:(bD (fj tms wr lk)).length<=1000:=Qc mf (T.all_len (by omega));have lm:=fun Y=>mI (S:=Y) T hm;have hix:∀Y,fIx (aV many (.tup (tms.map pP)) wr lk) (.int 0) Y=some (.int many,Y):=fun Y=>rfl;generalize bD (fj tms wr lk)=M at *;generalize aV many (.tup (tms.map pP)) wr lk=tu at *;unfold xK;rw[kr];unfold bO;rwa[ay];repeat with_reducible refine Wp.bind ?_
 refine uy (S1:=S) (cs:=[]) (xs:=xs) (f:=U.int) (v:=fun _=>.bl true) (j8 (l:=j) rfl hj) (fun G=>ak hj) (by omega) rfl (fun a ha G=>?_) fun G1=>?_
 ·rwa[qD,ay];exact⟨trivial,[],by simp⟩
 obtain⟨Y,hY⟩:∃Y,Y=S++(.lst (xs.map fun _=>U.bl true)::G1):=⟨_,rfl⟩;rw[<-hY];have fa:=DK (S:=Y) (l:=S.length) (xs:=xs) (by rw[hY,ga0];rfl);have hjY:Y[j]?=some (.lst (xs.map U.int)):=by rw[hY];exact ak hj
 obtain⟨ru,hru⟩:∃ru,ru=(rgI many.toNat).map U.int:=⟨_,rfl⟩;have hs:ki [.ref j] Y=some (.ref Y.length,Y++[.lst ru]):=by
  simp only[ki,hjY,ft,Q8];rw[if_pos (by omega),yy nd mem,hru]
 obtain⟨Z1,hZ1⟩:∃Z1,Z1=Y++[O.lst ru]:=⟨_,rfl⟩;obtain⟨Z2,hZ2⟩:∃Z2,Z2=Z1++[O.lst ru]:=⟨_,rfl⟩;have hr:c0 (ag (cOp fIx (ao 0) (cC (.int 0))) aB) [some tu,some (.ref j)] Z1=some (.ref Z1.length,Z2):=by
  have ha:ag (cOp fIx (ao 0) (cC (.int 0))) aB [some tu,some (.ref j)] Z1=some ([.int many],Z1):=by rwa[hix]
  unfold c0;rw[ha,Q8];have m1:many<=1000:=by omega
  simp only[m0,m1,and_self,if_true,nO];rw[hZ2,hru];unfold rgI;rw[Qa];rfl
 rw[<-hZ1]at hs;have he:nk true (.ref Y.length) (.ref Z1.length) Z2=some (.bl false,Z2):=by
  have:=jq true (S:=Z2) (l:=Y.length) (l':=Z1.length) (ns:=rgI many.toNat) (ms:=rgI many.toNat) (by rw[hZ2,<-hru];exact ak (by rw[hZ1,ga0];rfl)) (by rw[hZ2,ga0,hru];rfl);rw[this];simp
 obtain⟨G2,jm,e2,gm,_⟩:=lm Z2;obtain⟨Z,hZ⟩:∃Z,Z=Z2++G2:=⟨_,rfl⟩;rw[<-hZ]at e2 gm;have hjZ:Z[j]?=some (.lst (xs.map U.int)):=by rw[hZ,hZ2,hZ1];exact ak (ak (ak hjY))
 rwa[fa,hs,hr,he,ay];repeat with_reducible refine Wp.bind ?_
 refine EH (S1:=Z) (cs:=[some (.ref j)]) (xs:=M) (f:=pP) (g:=fun p=>.int p.1) (v:=fun p=>.int p.2) (w:=fun p=>.bl (decide (((xs.idxOf p.1:Nat):Int)<((xs.idxOf p.2:Nat):Int)))) (fun _=>rfl) (j8 (l:=jm) (by rwa[e2]) gm) (fun G=>ak gm) (by omega) rfl (fun p hp G=>?_) fun G3=>?_
 ·have h1:=hinM p hp;have i1:=bU (S:=Z++G) (ak hjZ) ((mem _).mpr h1.1) (by omega);have i2:=bU (S:=Z++G) (ak hjZ) ((mem _).mpr h1.2) (by omega);have gx:(Z++G)[j]?=some (.lst (xs.map U.int)):=ak hjZ;generalize xs.map U.int=xu at gx;rwa[gx,i1,i2,ay];exact⟨trivial,[],by simp⟩
 ·have fa2:xS [.ref Z.length] (Z++(.lst (M.map fun p=>U.bl (decide (((xs.idxOf p.1:Nat):Int)<((xs.idxOf p.2:Nat):Int))))::G3))=some (.bl (rj M xs),Z++(.lst (M.map fun p=>U.bl (decide (((xs.idxOf p.1:Nat):Int)<((xs.idxOf p.2:Nat):Int))))::G3)):=by
   have em:(M.map fun p=>U.bl (decide (((xs.idxOf p.1:Nat):Int)<((xs.idxOf p.2:Nat):Int))))=(M.map fun p=>decide (((xs.idxOf p.1:Nat):Int)<((xs.idxOf p.2:Nat):Int))).map U.bl:=by rw[Qa];rfl
   have ea:(M.map fun p=>decide (((xs.idxOf p.1:Nat):Int)<((xs.idxOf p.2:Nat):Int))).all id=rj M xs:=by unfold rj;rw[List.all_map];rfl
   simp only[xS,ga0,Z7,em,jE,Q8,ea]
  rwa[fa2,ay];exact⟨trivial,by rw[hZ,hZ2,hZ1,hY];simp only[QZ];exact⟨_,rfl⟩⟩
theorem B9(T:eF many tms wr lk)(m0:0<=many)(hm:many<=7)(hj:S[j]?=some (.lst (xs.map U.int)))(rb:xG (bfL (bD (fj tms wr lk)) many.toNat) xs)(rin:∀a∈xs,a∈rgI many.toNat)(hl:xs.length<=30) :
  Wp (xO [aV many (.tup (tms.map pP)) wr lk,.ref j] S) fun r=>r.1=.bl true:=by
 have bm:∀{a c:Int},a∈rgI many.toNat->(c∈(bfL (bD (fj tms wr lk)) many.toNat).getD a.toNat []↔(c,a)∈bD (fj tms wr lk)):=fun{a c} ha=>mZ (bF.mp ha).1 (bF.mp ha).2;have lm:=fun Y=>mI (S:=Y) T hm;generalize bD (fj tms wr lk)=M at *;generalize aV many (.tup (tms.map pP)) wr lk=tu at *;have two:=rb.two;have d2:decide ((xs.length:Int)<2)=false:=decide_eq_false (by omega);have dd:decide ((xs.length:Int)=(xs.length:Int))=true:=decide_eq_true rfl;unfold xO;rw[wQ];unfold fA;rwa[ay];repeat with_reducible refine Wp.bind ?_
 refine uy (S1:=S) (cs:=[]) (xs:=xs) (f:=U.int) (v:=fun _=>.bl true) (j8 (l:=j) rfl hj) (fun G=>ak hj) (by omega) rfl (fun a ha G=>?_) fun G1=>?_
 ·rwa[qD,ay];exact⟨trivial,[],by simp⟩
 obtain⟨Y,hY⟩:∃Y,Y=S++(.lst (xs.map fun _=>U.bl true)::G1):=⟨_,rfl⟩;rw[<-hY];have fa:=DK (S:=Y) (l:=S.length) (xs:=xs) (by rw[hY,ga0];rfl);have hjY:Y[j]?=some (.lst (xs.map U.int)):=by rw[hY];exact ak hj
 have hset:mW (ao 1) [some tu,some (.ref j),none] Y=some (.int (xs.length:Nat),Y):=by
  have hv:ao 1 [some tu,some (.ref j),none] Y=some (.ref j,Y):=rfl;unfold mW;rw[hv,Q8];simp only[hjY,ft,Q8];rw[if_pos (by omega),Dv rb.nd]
 obtain⟨G2,jm,e2,gm,_⟩:=lm Y;obtain⟨Z,hZ⟩:∃Z,Z=Y++G2:=⟨_,rfl⟩;rw[<-hZ]at e2 gm;have hjZ:Z[j]?=some (.lst (xs.map U.int)):=by rw[hZ];exact ak hjY
 obtain⟨xu,hxu⟩:∃xu,xu=xs.map U.int:=⟨_,rfl⟩;have lx:xu.length=xs.length:=by rw[hxu,Q9]
 have gY:=hjY;rw[<-hxu]at gY;rwa[fa,hset,gY,lx,d2,dd,e2,ay];have s1:=slF 1 hjZ;have s2:=slT (S:=Z++[O.lst ((xs.drop 1).map U.int)]) 1 (ak hjZ);have s3:=qg (S:=Z++[O.lst ((xs.drop 1).map U.int)]++[.lst ((xs.take 1).map U.int)]) (l:=Z.length) (k:=(Z++[O.lst ((xs.drop 1).map U.int)]).length) (xs:=xs.drop 1) (ys:=xs.take 1) (ak (by rw[ga0];rfl)) (by rw[ga0];rfl) (by simp;omega);have e1:((1:Nat):Int)=1:=rfl;rw[e1]at s1 s2;have hcyc:∀p∈xs.zip (xs.drop 1++xs.take 1),p∈M:=fun p hp=>by
  obtain⟨i,hi⟩:=ZH hp;obtain⟨h1,h2⟩:=ZF.mp hi;have hix:i<xs.length:=(Q7.mp h1).1;have gd:∀i (h:i<xs.length),xs[i]?=some (xs.getD i 0):=fun i h=>by rw[QQ,Q6 h];rfl
  obtain⟨a,b⟩:=p;dsimp only at h1 h2;rw[gd i hix]at h1;have ea:=Option.some.inj h1;by_cases he:i+1<xs.length
  ·rw[Qz (by simp;omega),List.getElem?_drop,gd _ (by omega)]at h2;have eb:=Option.some.inj h2;have:=(bm (rin _ (wD he))).mp (rb.cyc (i+1) he);rw[if_neg (by omega),Nat.add_sub_cancel,ea,Nat.add_comm i 1,eb]at this;exact this
  ·rw[QN (by simp;omega),List.getElem?_take]at h2;simp only[List.length_drop]at h2;rw[show i-(xs.length-1)=0 by omega,if_pos (by omega),gd 0 (by omega)]at h2;have eb:=Option.some.inj h2;have:=(bm (rin _ (wD (i:=0) (by omega)))).mp (rb.cyc 0 (by omega));rw[if_pos rfl,show xs.length-1=i by omega,ea,eb]at this;exact this
 have hp:i9 (xs.map U.int) ((xs.drop 1++xs.take 1).map U.int)=(xs.zip (xs.drop 1++xs.take 1)).map pP:=by
  unfold i9;rw[List.zip_map,Qa];rfl
 obtain⟨Z3,hZ3⟩:∃Z3,Z3=Z++[O.lst ((xs.drop 1).map U.int)]++[.lst ((xs.take 1).map U.int)]++[.lst ((xs.drop 1++xs.take 1).map U.int)]:=⟨_,rfl⟩;have hj3:Z3[j]?=some (.lst (xs.map U.int)):=by rw[hZ3];exact ak (ak (ak hjZ))
 have gm3:Z3[jm]?=some (.lst (M.map pP)):=by rw[hZ3];exact ak (ak (ak gm))
 have gc:Z3[(Z++[O.lst ((xs.drop 1).map U.int)]++[O.lst ((xs.take 1).map U.int)]).length]?=some (.lst ((xs.drop 1++xs.take 1).map U.int)):=by rw[hZ3,ga0];rfl
 rw[<-hZ3]at s3;have hz:=IP (ca:=ao 1) (cb:=cOp dF (cSl (ao 1) (some (cC (.int 1))) none) (cSl (ao 1) none (some (cC (.int 1))))) (ρ:=[some tu,some (.ref j),some (.ref jm)]) (S:=Z) (S1:=Z) (S2:=Z3) (l:=j) rfl (by
  have hv:∀Y,ao 1 [some tu,some (.ref j),some (.ref jm)] Y=some (.ref j,Y):=fun _=>rfl;have h1:∀Y,cC (.int 1) [some tu,some (.ref j),some (.ref jm)] Y=some (.int 1,Y):=fun _=>rfl;rw[DQ];simp only[cSl,gB,hv,h1,Q8,s1,ub,s2,ua,s3]) hj3 gc
 rw[hp]at hz;repeat with_reducible refine Wp.bind ?_
 refine uy (S1:=Z3) (cs:=[some (.ref jm)]) (xs:=xs.zip (xs.drop 1++xs.take 1)) (f:=pP) (v:=fun _=>.bl true) hz (fun G=>⟨ak hj3,ak gc⟩) (by rw[List.length_zip];omega) rfl (fun p hpm G=>?_) fun G3=>?_
 ·have i1:=Gk (S:=Z3++G) (p:=p) (ak gm3);rw[decide_eq_true (hcyc p hpm)]at i1;rwa[i1,ay];exact⟨trivial,[],by simp⟩
 ·have fa2:=DK (S:=Z3++(.lst ((xs.zip (xs.drop 1++xs.take 1)).map fun _=>U.bl true)::G3)) (l:=Z3.length) (xs:=xs.zip (xs.drop 1++xs.take 1)) (by rw[ga0];rfl);rwa[fa2,ay]
end
section
variable{os row:List Int}{a b v:Int}
theorem wC(h:a∈os):os[os.idxOf a]?=some a:=by
 have hi:=Qo h;rw[Q6 hi,List.getElem_idxOf hi]
theorem wz(ha:a∈os)(hb:b∈os)(h:os.idxOf a=os.idxOf b):a=b:=by
 have h1:=wC ha;rw[h,wC hb]at h1;exact(Option.some.inj h1).symm
theorem mN(nd:os.Nodup){i:Nat}(hi:i<os.length):os.idxOf os[i]=i:=by
 have hm:=Z9 hi;have h1:=Qo hm;have h2:=List.getElem_idxOf h1;have pw:=Z8.mp (Zx.mp nd);rcases Nat.lt_trichotomy (os.idxOf os[i]) i with c|c|c
 ·exact absurd h2 (pw _ _ h1 hi c)
 ·exact c
 ·exact absurd h2.symm (pw _ _ hi h1 c)
abbrev UpI(os:List Int)(l:List Int):Prop:=l.Pairwise fun a b=>os.idxOf a<os.idxOf b
theorem BO(nd:os.Nodup):UpI os os:=Z8.mpr fun i j hi hj hij=>by rw[mN nd hi,mN nd hj];exact hij
theorem uB:∀{row:List Int},UpI os row->∀p∈fR row,os.idxOf p.1<os.idxOf p.2
 |[],_,p,hp=>by cases hp
 |[x],_,p,hp=>by cases hp
 |x::y::r,h,p,hp=>by
  have e:fR (x::y::r)=(x,y)::fR (y::r):=rfl;rw[e]at hp;rcases QH.mp hp with rfl|z
  ·exact(Z0.mp h).1 y QK
  ·exact uB (Z0.mp h).2 p z
theorem vN:∀{row:List Int},(∀p∈fR row,os.idxOf p.1<os.idxOf p.2)->UpI os row
 |[],_=>.nil
 |[x],_=>List.pairwise_singleton _ _
 |x::y::r,h=>by
  have e:fR (x::y::r)=(x,y)::fR (y::r):=rfl;rw[e]at h;have t:=vN (row:=y::r) fun p hp=>h p (QU _ hp);have h0:=h (x,y) QK;refine Z0.mpr ⟨fun z hz=>?_,t⟩;rcases QH.mp hz with rfl|z'
  ·exact h0
  ·exact Nat.lt_trans h0 ((Z0.mp t).1 z z')
theorem uA:∀{l l':List Int},UpI os l->UpI os l'->(∀x,x∈l↔x∈l')->l=l'
 |[],[],_,_,_=>rfl
 |[],y::l',_,_,h=>absurd ((h y).mpr QK) (by simp)
 |x::l,[],_,_,h=>absurd ((h x).mp QK) (by simp)
 |x::l,y::l',h1,h2,h=>by
  obtain⟨a1,b1⟩:=Z0.mp h1;obtain⟨a2,b2⟩:=Z0.mp h2;have e:x=y:=by
   rcases QH.mp ((h x).mp QK)with e|e
   ·exact e
   ·rcases QH.mp ((h y).mpr QK)with e'|e'
    ·exact e'.symm
    ·have:=a2 x e;have:=a1 y e';omega
  subst e;congr 1;refine uA b1 b2 fun z=>⟨fun hz=>?_,fun hz=>?_⟩
  ·rcases QH.mp ((h z).mp (QU _ hz))with e|e
   ·subst e;have:=a1 z hz;omega
   ·exact e
  ·rcases QH.mp ((h z).mpr (QU _ hz))with e|e
   ·subst e;have:=a2 z hz;omega
   ·exact e
theorem pH(nd:os.Nodup)(hr:∀x∈row,x∈os):row=os.filter (inR row)↔∀p∈fR row,os.idxOf p.1<os.idxOf p.2:=by
 have uf:UpI os (os.filter (inR row)):=(BO nd).sublist List.filter_sublist;constructor
 ·intro e;rw[<-e]at uf;exact uB uf
 ·intro h;refine uA (vN h) uf fun x=>?_;rw[Qi];exact⟨fun hx=>⟨hr x hx,decide_eq_true hx⟩,fun h=>of_decide_eq_true h.2⟩
theorem wy{l r:List Int}(h:(l++v::r).Nodup):(l++v::r).idxOf v=l.length:=by
 have:v∉l:=fun z=>(X6.mp h).2.2 v z v QK rfl;rw[List.idxOf_append,if_neg this];simp
theorem zq(nd:os.Nodup)(ha:a∈os)(hr:row=os.filter (inR row))(h0:∀x∈row,0<=x)(hv:v=-1\/(v∈row/\v≠a)):v=kM row os a↔∀p∈ja row a v,os.idxOf p.1<os.idxOf p.2:=by
 obtain⟨P,hP⟩:∃P,P=(os.take (os.idxOf a)).filter (inR row):=⟨_,rfl⟩;obtain⟨R,hR⟩:∃R,R=(os.drop (os.idxOf a)).filter (inR row):=⟨_,rfl⟩;have er:row=P++R:=by rw[hP,hR,<-List.filter_append,List.take_append_drop];exact hr
 have hi:=Qo ha;have inP:∀x∈P,os.idxOf x<os.idxOf a:=fun x hx=>by
  rw[hP]at hx;obtain⟨i,hi',e⟩:=List.getElem_of_mem (Qi.mp hx).1;rw[Zr]at hi';rw[List.getElem_take]at e;rw[<-e,mN nd (by omega)];omega
 have inR':∀x∈R,os.idxOf a<=os.idxOf x:=fun x hx=>by
  rw[hR]at hx;obtain⟨i,hi',e⟩:=List.getElem_of_mem (Qi.mp hx).1;rw[List.length_drop]at hi';rw[List.getElem_drop]at e;rw[<-e,mN nd (by omega)];omega
 have xo:∀x∈row,x∈os:=fun x hx=>by rw[hr]at hx;exact(Qi.mp hx).1
 have ndr:row.Nodup:=by rw[hr];exact nd.sublist List.filter_sublist
 have hdR:∀p∈hdP a R,os.idxOf p.1<os.idxOf p.2:=fun p hp=>by
  cases hc:R with
  |nil=>rw[hc]at hp;cases hp
  |cons x r=>
   rw[hc]at hp;have hp':p∈(if x=a then[]else[(a,x)]):=hp;split at hp'
   ·cases hp'
   ·rename_i hn;rw[Qv.mp hp'];have hx:x∈R:=by rw[hc];exact QK
    refine Nat.lt_of_le_of_ne (inR' x hx) fun e=>hn (wz (xo x (by rw[er];exact Qm _ hx)) ha e.symm)
 have hl:kM row os a=P.getLast?.getD (-1):=by rw[hP];rfl
 rw[hl];unfold ja DR tN;constructor
 ·intro e p hp;rcases List.eq_nil_or_concat P with hn|⟨P0,w,hn⟩
  ·rw[hn]at e er;rw[Qh]at er;have e1:v=-1:=e;have nv:v∉row:=fun z=>by have:=h0 v z;omega
   have ni:inR row v=false:=decide_eq_false nv;rw[ni,if_neg (by decide),if_neg (by decide),Qh,er]at hp;exact hdR p hp
  ·rw[hn,List.concat_eq_append]at e er inP;rw[List.getLast?_append]at e;have e1:v=w:=e;subst e1;rw[QZ,List.singleton_append]at er;have hv':inR row v=true:=decide_eq_true (by rw[er];simp);have ei:row.idxOf v=P0.length:=by rw[er];exact wy (by rw[<-er];exact ndr)
   have ed:row.drop (row.idxOf v+1)=R:=by rw[ei,er,List.drop_append];simp
   rw[hv',if_pos rfl,if_pos rfl,ed]at hp;rcases Qd.mp hp with z|z
   ·rw[Qv.mp z];exact inP v (by simp)
   ·exact hdR p z
 ·intro h;by_cases hv':v∈row
  ·have iv:inR row v=true:=decide_eq_true hv';rw[iv,if_pos rfl,if_pos rfl]at h;have h1:=h (v,a) (Zn _ (Qv.mpr rfl));have hvP:v∈P:=by
    rw[er]at hv';rcases Qd.mp hv' with z|z
    ·exact z
    ·have:=inR' v z;dsimp only at h1;omega
   obtain⟨P1,P2,hP12⟩:=List.append_of_mem hvP;rw[hP12]at er inP ⊢;rw[QZ,Qq]at er;have ei:row.idxOf v=P1.length:=by rw[er];exact wy (by rw[<-er];exact ndr)
   have ed:row.drop (row.idxOf v+1)=P2++R:=by rw[ei,er,List.drop_append];simp
   rw[ed]at h;cases P2 with
   |nil=>rw[List.getLast?_append];rfl
   |cons x r=>
    have hx:=inP x (by simp);have hne:x≠a:=fun e=>by rw[e]at hx;omega
    have:=h (a,x) (Qm _ (by
     show(a,x)∈(if x=a then[]else[(a,x)]);rw[if_neg hne];exact Qv.mpr rfl))
    dsimp only at this;omega
  ·have e1:v=-1:=hv.resolve_right fun z=>hv' z.1;have iv:inR row v=false:=decide_eq_false hv';rw[iv,if_neg (by decide),if_neg (by decide),Qh]at h;cases P with
   |nil=>exact e1
   |cons x r=>
    have hx:=inP x QK;have hne:x≠a:=fun e=>by rw[e]at hx;omega
    rw[er]at h;have:=h (a,x) (by
     show(a,x)∈(if x=a then[]else[(a,x)]);rw[if_neg hne];exact Qv.mpr rfl)
    dsimp only at this;omega
end
def Gu(tms:List (Int×Int))(wr lk:List (List Int))(os:List Int):Bool:=(tms.all fun p=>!decide (((os.idxOf p.1:Nat):Int)>((os.idxOf p.2:Nat):Int)))&&((wr.all fun row=>decide (row=os.filter (inR row)))&&decide ((lk.map fun r=>r.getD 2 0)=eS wr lk os))
theorem mG{M:List (Int×Int)}{os:List Int}:rj M os=true↔∀p∈M,os.idxOf p.1<os.idxOf p.2:=by
 unfold rj;rw[List.all_eq_true];constructor
 ·intro h p hp;have:=of_decide_eq_true (h p hp);omega
 ·intro h p hp;exact decide_eq_true (by have:=h p hp;omega)
theorem Dg{many:Int}{tms:List (Int×Int)}{wr lk:List (List Int)}{os:List Int}(T:eF many tms wr lk)(nd:os.Nodup)(mem:∀a,a∈os↔0<=a/\a<many):Gu tms wr lk os=rj (bD (fj tms wr lk)) os:=by
 rw[ZE,mG];unfold Gu;rw[ZI,ZI,List.all_eq_true,List.all_eq_true,decide_eq_true_eq];have A:(∀p∈tms,(!decide (((os.idxOf p.1:Nat):Int)>((os.idxOf p.2:Nat):Int)))=true)↔∀p∈tms,os.idxOf p.1<os.idxOf p.2:=by
  refine forall_congr' fun p=>forall_congr' fun hp=>?_;rw[Bool.not_eq_true',decide_eq_false_iff_not];obtain⟨h1,h2,h3⟩:=T.htm p hp;constructor
  ·intro h;refine Nat.lt_of_le_of_ne (by omega) fun e=>h3 (wz ((mem _).mpr h1) ((mem _).mpr h2) e)
  ·intro h;omega
 have B:(∀row∈wr,decide (row=os.filter (inR row))=true)↔∀row∈wr,∀p∈fR row,os.idxOf p.1<os.idxOf p.2:=by
  refine forall_congr' fun row=>forall_congr' fun hr=>?_;rw[decide_eq_true_eq];exact pH nd fun x hx=>(mem x).mpr ((T.hwr row hr).1 x hx)
 have C:(∀row∈wr,row=os.filter (inR row))->(((lk.map fun r=>r.getD 2 0)=eS wr lk os)↔∀r∈lk,∀p∈mlk wr r,os.idxOf p.1<os.idxOf p.2):=fun hB=>by
  unfold eS;rw[List.map_inj_left];refine forall_congr' fun r=>forall_congr' fun hr=>?_;obtain⟨a,b,v,rfl,h1,h2,h3⟩:=T.hlk r hr;have hrow:wr.getD b.toNat []∈wr:=by
   have hb:b.toNat<wr.length:=by omega
   rw[QQ,Q6 hb];exact Z9 hb
  exact zq nd ((mem a).mpr h1) (hB _ hrow) (fun x hx=>((T.hwr _ hrow).1 x hx).1) h3
 have D:∀p,p∈bD (fj tms wr lk)↔(p∈tms\/∃row∈wr,p∈fR row)\/∃r∈lk,p∈mlk wr r:=fun p=>by
  rw[dX];unfold fj;rw[Qd,Qd,Zw,Zw]
 rw[A,B];constructor
 ·rintro⟨hA,hB,hC⟩ p hp;rcases(D p).mp hp with(z|⟨row,hr,z⟩)|⟨r,hr,z⟩
  ·exact hA p z
  ·exact hB row hr p z
  ·exact(C fun row hr=>(pH nd fun x hx=>(mem x).mpr ((T.hwr row hr).1 x hx)).mpr (hB row hr)).mp hC r hr p z
 ·intro h;have hB:∀row∈wr,∀p∈fR row,os.idxOf p.1<os.idxOf p.2:=fun row hr p hp=>h p ((D p).mpr (.inl (.inr ⟨row,hr,hp⟩)));refine⟨fun p hp=>h p ((D p).mpr (.inl (.inl hp))),hB,?_⟩;exact(C fun row hr=>(pH nd fun x hx=>(mem x).mpr ((T.hwr row hr).1 x hx)).mpr (hB row hr)).mpr fun r hr p hp=>h p ((D p).mpr (.inr ⟨r,hr,hp⟩))
def kL:Nat->List (List Int)
 |0=>[[]]
 |a+1=>(kL a).flatMap fun o=>(Qy (o.length+1)).map fun k=>o.take k++[(a:Int)]++o.drop k
theorem jg{m:Nat}{x:Int}:x∈rgI (m+1)↔x∈rgI m\/x=m:=by rw[bF,bF];omega
theorem mE:∀(m:Nat) {o:List Int},o∈kL m->o.Nodup/\(∀x,x∈o↔x∈rgI m)/\o.length=m
 |0,o,h=>by rw[Qv.mp h];simp[rgI]
 |m+1,o,h=>by
  obtain⟨q,hq,hk⟩:=Zw.mp h;obtain⟨k,hk,rfl⟩:=Qu.mp hk;obtain⟨nd,mem,len⟩:=mE m hq;have pm:(q.take k++[(m:Int)]++q.drop k).Perm ((m:Int)::q):=by
   have h1:(q.take k++[(m:Int)]++q.drop k).Perm ((m:Int)::(q.take k++q.drop k)):=by
    rw[QZ];exact List.perm_middle
   rwa[List.take_append_drop]at h1
  refine⟨pm.nodup_iff.mpr (ZJ.mpr ⟨fun z=>by have:=bF.mp ((mem _).mp z);omega,nd⟩),fun x=>?_,by rw[pm.length_eq,QB,len]⟩;rw[pm.mem_iff,QH,mem,jg];exact Or.comm
theorem jR:∀(m:Nat) {o:List Int},o.Nodup->(∀x,x∈o↔x∈rgI m)->o∈kL m
 |0,o,_,h=>by
  cases o with
  |nil=>exact Qv.mpr rfl
  |cons x r=>exact absurd ((h x).mp QK) (by simp[rgI])
 |m+1,o,nd,h=>by
  obtain⟨l,r,rfl⟩:=List.append_of_mem ((h (m:Int)).mpr (jg.mpr (.inr rfl)));have pm:(l++(m:Int)::r).Perm ((m:Int)::(l++r)):=List.perm_middle;obtain⟨n1,n2⟩:=ZJ.mp (pm.nodup_iff.mp nd);refine Zw.mpr ⟨l++r,jR m n2 fun x=>?_,Qu.mpr ⟨l.length,Qb.mpr (by simp;omega),by simp⟩⟩;constructor
  ·intro hx;rcases jg.mp ((h x).mp (pm.mem_iff.mpr (QU _ hx)))with z|z
   ·exact z
   ·rw[z]at hx;exact absurd hx n1
  ·intro hx;rcases QH.mp (pm.mem_iff.mp ((h x).mpr (jg.mpr (.inl hx))))with z|z
   ·have:=bF.mp hx;omega
   ·exact z
theorem nX{m:Nat}(h:m<=5):(kL m).length<=120:=by
 have:∀k:Fin 6,(kL k).length<=120:=by decide +kernel
 exact this ⟨m,by omega⟩
abbrev rfs(ys:List (Nat×List Int)):List U:=ys.map fun p=>U.ref p.1
abbrev G7(S:Sto)(ys:List (Nat×List Int)):Prop:=∀p∈ys,S[p.1]?=some (.lst (p.2.map U.int))
section
variable{α:Type}{ci:CI}{ce:CE}{caps:List Nat}{ρ cs:Rho}{S S1:Sto}{ok:Sto->Prop}{f:α->U}{c:α->List Int}{Q:U×Sto->Prop}
theorem js{o o':O}{G G':Sto}{k:Nat}{x:O}(hk:S1.length<k)(h:(S1++(o::G))[k]?=some x):(S1++(o'::(G++G')))[k]?=some x:=by
 rw[QN (by omega)]at h ⊢;rw[show k-S1.length=(k-S1.length-1)+1 by omega,Qw]at h ⊢;exact ak h
theorem oN(hok:∀G,ok (S1++G)):∀(xs:List α) (ys:List (Nat×List Int)) (G:Sto) (r0:Option U),ys.length+xs.length<=9999->(∀p∈ys,S1.length<p.1/\(S1++(.lst (rfs ys)::G))[p.1]?=some (.lst (p.2.map U.int)))->
  (∀x∈xs,∀G,Wp (ce (some (f x)::cs) (S1++G)) fun t=>∃r G2,t.1=.ref r/\t.2=S1++G++G2/\(S1++G).length<=r/\t.2[r]?=some (.lst ((c x).map U.int)))->
  ∃ys' G',gq ok (gNm 0) ce S1.length (xs.map f) (r0::cs) (S1++(.lst (rfs ys)::G))=some (S1++(.lst (rfs (ys++ys'))::G'))/\ys'.map (·.2)=xs.map c/\∀p∈ys++ys',S1.length<p.1/\(S1++(.lst (rfs (ys++ys'))::G'))[p.1]?=some (.lst (p.2.map U.int))
 |[],ys,G,r0,_,hy,_=>⟨[],G,by rw[Qe];exact mV (hok _),rfl,by rw[Qe];exact hy⟩
 |x::xs,ys,G,r0,hl,hy,hb=>by
  rw[QB]at hl;obtain⟨⟨u,S2⟩,e,r,G2,e1,e2,lr,gr⟩:=hb x QK (.lst (rfs ys)::G);dsimp only at e1 e2 gr;subst e1 e2;rw[QZ,Qq]at e gr;have lr':S1.length<r:=by simp at lr;omega
  have er:rfs ys++[U.ref r]=rfs (ys++[(r,c x)]):=by unfold rfs;rw[Qn];rfl
  obtain⟨ys',G',e3,m3,a3⟩:=oN hok xs (ys++[(r,c x)]) (G++G2) (some (f x)) (by simp;omega) (fun p hp=>by
   rcases Qd.mp hp with z|z
   ·obtain⟨h1,h2⟩:=hy p z;exact⟨h1,js h1 h2⟩
   ·rw[Qv.mp z];refine⟨lr',?_⟩;have:=js (o':=.lst (rfs (ys++[(r,c x)]))) (G':=[]) lr' gr;rwa[Qe]at this) (fun y hy=>hb y (QU _ hy))
  rw[QZ,List.singleton_append]at e3 a3;refine⟨(r,c x)::ys',G',?_,by rw[QF,QF,m3],a3⟩;rw[QF];refine(kB (hok _) rfl e (by rw[ga0];rfl) (by unfold LIM;simp;omega)).trans ?_;rw[gs0,Zf,er,e3]
theorem EG{xs:List α}(hi:ci ρ S=some (xs.map f,ok,S1))(hok:∀G,ok (S1++G))(hn:xs.length<=9000)(hr:jM 1 caps ρ=none::cs)
  (hb:∀x∈xs,∀G,Wp (ce (some (f x)::cs) (S1++G)) fun t=>∃r G2,t.1=.ref r/\t.2=S1++G++G2/\(S1++G).length<=r/\t.2[r]?=some (.lst ((c x).map U.int)))
  (hQ:∀ys G,ys.map (·.2)=xs.map c->(∀p∈ys,S1.length<p.1/\(S1++(.lst (rfs ys)::G))[p.1]?=some (.lst (p.2.map U.int)))->Q (.ref S1.length,S1++(.lst (rfs ys)::G))):Wp (d7 ci (gNm 0) ce 1 caps ρ S) Q:=by
 obtain⟨ys,G,e,m,a⟩:=oN (ce:=ce) (f:=f) (c:=c) (cs:=cs) hok xs [] [] none (by simp;omega) (fun p hp=>(by cases hp)) hb;rw[Qh]at e a;refine⟨_,?_,hQ ys G m a⟩;unfold d7;rw[hi,Q8,hr];dsimp only;have e0:S1++[O.lst []]=S1++(.lst (rfs [])::[]):=rfl;rw[e0,e];rfl
end
def nc:Fn:=fnU 5 1 cf
structure JJ(S:Sto)(j:Nat)(os:List (List Int))(ys:List (Nat×List Int)):Prop where
 at_:S[j]?=some (.lst (rfs ys))
 all:G7 S ys
 eq:ys.map (·.2)=os
theorem vE{S:Sto}{m:Nat}{many:Int}(hmm:many=m)(hm:m<=5):Wp (nc [.int many] S) fun r=>∃j ys G,r.1=.ref j/\r.2=S++G/\JJ r.2 j (kL m) ys:=by
 unfold nc;rw[mU];unfold cf;rwa[ay];repeat with_reducible refine Wp.bind ?_
 refine yo (pT (n:=many) (by rwa[];rfl) (by omega) (by omega)) ?_;rw[nO,show many.toNat=m by omega,List.range_eq_range'];refine kJ (fun rest ρ Y=>∃a j ys G r2 r3 r4,rest=List.range' a (m-a)/\a<=m/\ρ=[some (.int many),some (.ref j),r2,r3,r4]/\Y=S++G/\JJ Y j (kL a) ys) (fun ρ Y h=>⟨trivial,?_⟩) (fun x rest ρ Y h=>⟨trivial,?_⟩) (List.range' 0 m) _ _ ⟨0,_,[(S.length,[])],_,_,_,_,by simp,by omega,rfl,rfl,by
  have:(S++[O.lst []]).length=S.length+1:=by simp
  rw[this];exact⟨by rw[ga];rfl,fun p hp=>by rw[Qv.mp hp,ga0];rfl,rfl⟩⟩
 ·obtain⟨a,j,ys,G,r2,r3,r4,hr,ha,rfl,rfl,os⟩:=h;have:a=m:=by
   have:=congrArg X8 hr;simp at this;omega
  subst this;rwa[ay];exact⟨j,ys,G,rfl,rfl,os⟩
 ·obtain⟨a,j,ys,G,r2,r3,r4,hr,ha,rfl,rfl,os⟩:=h;have hlt:a<m:=by
   have:=congrArg X8 hr;simp at this;omega
  rw[show m-a=(m-a-1)+1 by omega,List.range'_succ]at hr;obtain⟨rfl,hr'⟩:=List.cons.inj hr;refine .of (r:=([some (.int many),some (.ref j),some (.int (x:Int)),r3,r4],S++G)) rfl ?_;obtain⟨Y,hY⟩:∃Y,Y=S++G:=⟨_,rfl⟩;rw[<-hY]at os ⊢;dsimp only;have oin:=fun(p:Nat×List Int) (hp:p∈ys)=>mE x (show p.2∈kL x by rw[<-os.eq];exact Qu.mpr ⟨p,hp,rfl⟩);have few:(kL (x+1)).length<=120:=nX (by omega);unfold fB;rwa[ay];repeat with_reducible refine Wp.bind ?_
  refine yo (j8 (l:=j) rfl (ak os.at_)) ?_;refine kJ (f:=fun p:Nat×List Int=>U.ref p.1) (fun rest ρ Z=>∃dn zs X r4,ys=dn++rest/\ρ=[some (.int many),some (.ref j),some (.int (x:Int)),some (.ref Y.length),r4]/\Z=Y++(.lst (rfs zs)::X)/\(∀p∈zs,Y.length<p.1/\Z[p.1]?=some (.lst (p.2.map U.int)))/\zs.map (·.2)=(dn.map (·.2)).flatMap fun o=>(Qy (o.length+1)).map fun k=>o.take k++[(x:Int)]++o.drop k) (fun ρ Z h=>?_) (fun p rest ρ Z h=>?_) ys _ _ ⟨[],[],[],r4,rfl,rfl,rfl,fun p hp=>(by cases hp),rfl⟩
  ·obtain⟨dn,zs,X,r4,hd,rfl,rfl,hz,hm'⟩:=h;rw[Qe]at hd;subst hd;refine⟨ak os.at_,?_⟩;rwa[ay];refine .inl ⟨trivial,x+1,Y.length,zs,G++(.lst (rfs zs)::X),_,_,_,by rw[hr'];congr 1,by omega,rfl,by rw[hY,QZ],⟨by rw[ga0];rfl,fun p hp=>(hz p hp).2,?_⟩⟩;rw[hm',os.eq];rfl
  ·obtain⟨dn,zs,X,r4,hd,rfl,rfl,hz,hm'⟩:=h;refine⟨ak os.at_,?_⟩;have hp:p∈ys:=by rw[hd];simp
   obtain⟨_,_,lp⟩:=oin p hp;refine .of (r:=([some (.int many),some (.ref j),some (.int (x:Int)),some (.ref Y.length),some (.ref p.1)],Y++(.lst (rfs zs)::X))) rfl ?_;have gp:(Y++(O.lst (rfs zs)::X))[p.1]?=some (.lst (p.2.map U.int)):=ak (os.all p hp);have gp':=gp;obtain⟨pu,hpu⟩:∃pu,pu=p.2.map U.int:=⟨_,rfl⟩;have lpu:pu.length=p.2.length:=by rw[hpu,Q9]
   rw[<-hpu]at gp';obtain⟨W,hW⟩:∃W,W=Y++(O.lst (rfs zs)::X):=⟨_,rfl⟩;have gW:W[Y.length]?=some (.lst (rfs zs)):=by rw[hW,ga0];rfl
   have lW:Y.length<W.length:=(Q7.mp gW).1;rw[<-hW]at gp gp' hz ⊢;dsimp only;unfold fC;obtain⟨zu,hzu⟩:∃zu,zu=rfs zs:=⟨_,rfl⟩;have gW':=gW;rw[<-hzu]at gW';rwa[gW',ay];repeat with_reducible refine Wp.bind ?_
   refine EG (S1:=W) (cs:=[some (.ref p.1),some (.int (x:Int))]) (xs:=Qy (p.2.length+1)) (f:=fun k:Nat=>U.int (k:Int)) (c:=fun k=>p.2.take k++[(x:Int)]++p.2.drop k) ((pT (n:=(p.2.length:Int)+1) (S1:=W) (by rwa[gp',lpu]) (by omega) (by omega)).trans (by rw[nO,show((p.2.length:Int)+1).toNat=p.2.length+1 by omega])) (fun _=>trivial) (by simp;omega) rfl (fun k hk V=>?_) fun vs V hv hva=>?_
   ·have hk':=Qb.mp hk;have gV:(W++V)[p.1]?=some (.lst (p.2.map U.int)):=ak gp;obtain⟨N,hN⟩:∃N,N=W++V:=⟨_,rfl⟩;rw[<-hN]at gV ⊢;have s1:=slT k gV;obtain⟨N1,hN1⟩:∃N1,N1=N++[O.lst ((p.2.take k).map U.int)]:=⟨_,rfl⟩;rw[<-hN1]at s1;obtain⟨N2,hN2⟩:∃N2,N2=N1++[O.lst [U.int (x:Int)]]:=⟨_,rfl⟩;have c1:=qg (S:=N2) (l:=N.length) (k:=N1.length) (xs:=p.2.take k) (ys:=[(x:Int)]) (by rw[hN2,hN1];exact ak (by rw[ga0];rfl)) (by rw[hN2,ga0];rfl) (by simp;omega);obtain⟨N3,hN3⟩:∃N3,N3=N2++[O.lst ((p.2.take k++[(x:Int)]).map U.int)]:=⟨_,rfl⟩;rw[<-hN3]at c1;have s2:=slF (S:=N3) k (show N3[p.1]?=_ by rw[hN3,hN2,hN1];exact ak (ak (ak gV)));obtain⟨N4,hN4⟩:∃N4,N4=N3++[O.lst ((p.2.drop k).map U.int)]:=⟨_,rfl⟩;rw[<-hN4]at s2;have c2:=qg (S:=N4) (l:=N2.length) (k:=N3.length) (xs:=p.2.take k++[(x:Int)]) (ys:=p.2.drop k) (by rw[hN4,hN3];exact ak (by rw[ga0];rfl)) (by rw[hN4,ga0];rfl) (by simp;omega);have hl:fN (ag (ao 2) aB) [some (.int (k:Int)),some (.ref p.1),some (.int (x:Int))] N1=some (.ref N1.length,N2):=by rw[hN2];rfl
    rwa[cSl,gB,s1,hl,c1,s2,c2,ay];refine⟨N4.length,_,rfl,by rw[hN4,hN3,hN2,hN1];simp only[QZ];rfl,by rw[hN4,hN3,hN2,hN1];simp,by rw[ga0];rfl⟩
   ·have la:(rfs zs).length+(rfs vs).length<=1000:=by
     have h1:=congrArg X8 hm';have h2:=congrArg X8 hv;have h3:(kL (x+1)).length=(((dn++p::rest).map (·.2)).flatMap fun o=>(Qy (o.length+1)).map fun k=>o.take k++[(x:Int)]++o.drop k).length:=by rw[<-hd,os.eq];rfl
     rw[Qn,Zs,QF,List.flatMap_cons,QV,QV,<-h1]at h3;simp only[Q9,Zp,rfs]at h2 h3 ⊢;omega
    have ex:=Dm (S:=Y) (us:=rfs zs) (G:=X++(.lst (rfs vs)::V)) (vs:=rfs vs) (j:=W.length) (by rw[<-Qq,<-QZ,<-hW,ga0];rfl) (by unfold LIM;omega);rw[<-Qq,<-QZ,<-hW]at ex;have er:rfs zs++rfs vs=rfs (zs++vs):=by unfold rfs;rw[Qn]
    rw[er]at ex;obtain⟨vu,hvu⟩:∃vu,vu=rfs vs:=⟨_,rfl⟩;rw[<-hvu]at ex ⊢;rwa[ex,ay];refine .inl ⟨trivial,dn++[p],zs++vs,X++(.lst vu::V),_,by simp[hd],rfl,rfl,fun q hq=>?_,?_⟩
    ·rcases Qd.mp hq with z|z
     ·obtain⟨h1,h2⟩:=hz q z;rw[hW]at h2;exact⟨h1,js h1 h2⟩
     ·obtain⟨h1,h2⟩:=hva q z;rw[<-hvu,hW,QZ,Qq]at h2;have h3:Y.length<q.1:=by omega
      have:=js (o':=.lst (rfs (zs++vs))) (G':=[]) h3 h2;rw[Qe]at this;exact⟨h3,this⟩
    ·rw[Qn,hm',hv,Qn,Zs];simp
def xP:Fn:=fnU 9 2 (du xM)
theorem uJ{lk:List (List Int)}{S:Sto}{Q:U×Sto->Prop}{ci:CI}{ρ:Rho}{S1:Sto}(h:∀r∈lk,∃a b v,r=[a,b,v])(hi:ci ρ S=some (lk.map rwU,fun _=>True,S1))(hr:jM 1 [] ρ=[none])(hn:lk.length<=900)(hQ:∀G,Q (.ref S1.length,S1++(.lst ((lk.map fun r=>r.getD 2 0).map U.int)::G))):Wp (d7 ci (gNm 0) (cOp fIx (ao 0) (cC (.int 2))) 1 [] ρ S) Q:=by
 refine uy (S1:=S1) (cs:=[]) (xs:=lk) (f:=rwU) (v:=fun r=>.int (r.getD 2 0)) hi (fun _=>trivial) (by omega) hr (fun r hr' G=>?_) fun G=>?_
 ·obtain⟨a,b,v,rfl⟩:=h r hr';have e:rwU [a,b,v]=.tup [.int a,.int b,.int v]:=rfl;rw[e];rwa[ay];exact⟨rfl,[],by simp⟩
 ·have:=hQ G;rw[Qa]at this;exact this
section
variable{S:Sto}{tms:List (Int×Int)}{wr lk:List (List Int)}{many:Int}{os:List Int}{j:Nat}
theorem Dh(T:eF many tms wr lk)(hj:S[j]?=some (.lst (os.map U.int)))(mem:∀a,a∈os↔0<=a/\a<many)(hl:os.length<=30) :
  Wp (xP [aV many (.tup (tms.map pP)) wr lk,.ref j] S) fun r=>r.1=.bl (Gu tms wr lk os)/\∃G,r.2=S++G:=by
 have tl:=fun Z=>BR (S:=Z) (tm:=.tup (tms.map pP)) (os:=os) (many:=many) (wr:=wr) (lk:=lk) (jo:=j);have hll:=T.hll;have ti:Ag many wr lk:=⟨fun r hr=>by obtain⟨a,b,v,e,h1,h2,_⟩:=T.hlk r hr;exact⟨a,b,v,e,h1,h2⟩⟩;have x2:∀(ρ':Rho) (Y:Sto) (r1:Option U),DW (ao 0) (gTp [2,3,4,5]) [some (aV many (.tup (tms.map pP)) wr lk),r1,none,none,none,none,none,none,none] Y=some (.nx,[some (aV many (.tup (tms.map pP)) wr lk),r1,some (.int many),some (.tup (tms.map pP)),some (.tup (wr.map rwU)),some (.tup (lk.map rwU)),none,none,none],Y):=fun _ _ _=>rfl;generalize aV many (.tup (tms.map pP)) wr lk=tu at *;have x2':=x2 [] S (some (.ref j));unfold xP;rw[qb];unfold du;rw[nh x2'];obtain⟨ρ0,hρ0⟩:∃ρ0:List (Option U),ρ0=[some tu,some (.ref j),some (.int many),some (.tup (tms.map pP)),some (.tup (wr.map rwU)),some (.tup (lk.map rwU))]:=⟨_,rfl⟩;simp only[nr];repeat with_reducible refine Wp.bind ?_
 unfold Gu;refine yo (sW (us:=tms.map pP) rfl) (kJ (fun rest ρ Y=>∃dn r6 r7,tms=dn++rest/\ρ=ρ0++[r6,r7,none]/\Y=S/\(dn.all fun p=>!decide (((os.idxOf p.1:Nat):Int)>((os.idxOf p.2:Nat):Int)))=true) (fun ρ Y h=>⟨trivial,?_⟩) (fun p rest ρ Y h=>⟨trivial,?_⟩) tms _ _ ⟨[],none,none,rfl,by rw[hρ0];rfl,rfl,rfl⟩)
 ·obtain⟨dn,r6,r7,hd,rfl,rfl,hall⟩:=h;rw[Qe]at hd;subst hd;rw[hall,Bool.true_and];rw[hρ0];simp only[nr,iU,Qq,Qh];repeat with_reducible refine Wp.bind ?_
  refine yo (sW (us:=wr.map rwU) rfl) (kJ (fun rest ρ Z=>∃dn r8 G,wr=dn++rest/\ρ=ρ0++[r6,r7,r8]/\Z=Y++G/\(dn.all fun row=>decide (row=os.filter (inR row)))=true) (fun ρ Z h=>⟨trivial,?_⟩) (fun row rest ρ Z h=>⟨trivial,?_⟩) wr _ _ ⟨[],none,[],rfl,by rw[hρ0];rfl,by simp,rfl⟩)
  ·obtain⟨dn,r8,G,hd,rfl,rfl,hall⟩:=h;rw[Qe]at hd;subst hd;rw[hall,Bool.true_and,hρ0];simp only[iU,Qq,Qh,Ec,DQ];repeat with_reducible refine Wp.bind ?_
   refine uJ (lk:=lk) (S1:=Y++G) (fun r hr=>by obtain⟨a,b,v,e,_⟩:=T.hlk r hr;exact⟨a,b,v,e⟩) (sW (us:=lk.map rwU) rfl) rfl (by omega) fun G2=>?_;obtain⟨Z,hZ⟩:∃Z,Z=Y++G++(O.lst ((lk.map fun r=>r.getD 2 0).map U.int)::G2):=⟨_,rfl⟩;rw[<-hZ];obtain⟨G3,e3⟩:=tl Z (by rw[hZ];exact ak (ak hj)) (by omega) (by omega) ti fun a h0 h1=>(mem a).mpr ⟨h0,h1⟩;have eq:=jq false (S:=Z++(O.lst ((eS wr lk os).map U.int)::G3)) (l:=(Y++G).length) (l':=Z.length) (ns:=lk.map fun r=>r.getD 2 0) (ms:=eS wr lk os) (ak (by rw[hZ,ga0];rfl)) (by rw[ga0];rfl);rw[if_neg (by decide)]at eq;obtain⟨tu',htu⟩:∃tu',tu'=(eS wr lk os).map U.int:=⟨_,rfl⟩;rw[<-htu]at e3 eq;rwa[e3,eq,ay];refine⟨trivial,?_⟩;rw[hZ];simp only[QZ];exact⟨_,rfl⟩
  ·obtain⟨dn,r8,G,hd,rfl,rfl,hall⟩:=h;refine .of (r:=(ρ0++[r6,r7,some (.tup (row.map U.int))],Y++G)) (by rw[hρ0];rfl) ?_;have hjG:(Y++G)[j]?=some (.lst (os.map U.int)):=ak hj;obtain⟨Z,hZ⟩:∃Z,Z=Y++G:=⟨_,rfl⟩;rw[<-hZ]at hjG ⊢;have hl1:cCB kj (ag (ao 8) aB) (ρ0++[r6,r7,some (.tup (row.map U.int))]) Z=some (.ref Z.length,Z++[.lst (row.map U.int)]):=by rw[hρ0];rfl
   dsimp only;unfold iD;rw[sh,nq,DQ,hl1,Q8,ub];repeat with_reducible refine Wp.bind ?_
   refine lV (S1:=Z++[O.lst (row.map U.int)]) (cs:=[some (.tup (row.map U.int))]) (xs:=os) (f:=U.int) (v:=U.int) (p:=inR row) (j8 (l:=j) (by rw[hρ0];rfl) (ak hjG)) (fun G=>ak (ak hjG)) (by omega) (by rw[hρ0];rfl) (fun a ha V=>?_) fun V=>?_
   ·have i1:=sV (b:=a) (row:=row) (S:=Z++[O.lst (row.map U.int)]++V);rw[QZ]at i1 ⊢;generalize row.map U.int=ru at i1 ⊢;simp only[List.singleton_append]at i1 ⊢;rwa[i1,ay];exact⟨trivial,[],by simp,fun _=>⟨trivial,[],by simp⟩⟩
   ·have eq:=jq true (S:=Z++[O.lst (row.map U.int)]++(O.lst ((os.filter (inR row)).map U.int)::V)) (l:=Z.length) (l':=(Z++[O.lst (row.map U.int)]).length) (ns:=row) (ms:=os.filter (inR row)) (ak (by rw[ga0];rfl)) (by rw[ga0];rfl);rw[if_pos rfl]at eq;obtain⟨W,hW⟩:∃W,W=Z++[O.lst (row.map U.int)]++(O.lst ((os.filter (inR row)).map U.int)::V):=⟨_,rfl⟩;rw[<-hW]at eq ⊢;have eW:∃G',W=Y++G':=⟨_,by rw[hW,hZ,QZ,QZ]⟩;rw[ua,eq];by_cases he:row=os.filter (inR row)
    ·have de:decide (row=os.filter (inR row))=true:=decide_eq_true he;rw[de];rwa[ay];obtain⟨G',hG'⟩:=eW;exact .inl ⟨trivial,dn++[row],_,G',by simp[hd],rfl,hG',by rw[List.all_append,hall,Zo,de];rfl⟩
    ·have de:decide (row=os.filter (inR row))=false:=decide_eq_false he;rw[de];rwa[ay];refine .inr ⟨_,rfl,?_,eW⟩;rw[hd,List.all_append,Zo,de,Bool.false_and,Bool.and_false,Bool.false_and]
 ·obtain⟨dn,r6,r7,hd,rfl,rfl,hall⟩:=h;have hp:=T.htm p (by rw[hd];simp);refine .of (r:=(ρ0++[some (.int p.1),some (.int p.2),none],Y)) (by rw[hρ0];rfl) ?_;have i1:=bU hj ((mem _).mpr hp.1) (by omega);have i2:=bU hj ((mem _).mpr hp.2.1) (by omega);unfold iE;rw[hρ0];generalize os.map U.int=ou at hj;cases hc:decide (((os.idxOf p.1:Nat):Int)>((os.idxOf p.2:Nat):Int))with
  |true=>
   rwa[hj,i1,i2,hc,ay];refine .inr ⟨_,rfl,?_,[],by simp⟩;rw[hd,List.all_append,Zo,hc,Bool.not_true,Bool.false_and,Bool.and_false,Bool.false_and]
  |false=>
   rwa[hj,i1,i2,hc,ay];exact .inl ⟨trivial,dn++[p],_,_,by simp[hd],rfl,trivial,by rw[List.all_append,hall,Zo,hc];rfl⟩
end
end OQ
namespace OL
open PySem PySem.Spec PyProof.Rows L2 OG OP OQ
abbrev fL(f:Fn->Fn->Fn->Fn->Fn->Fn->Fn->Fn->CS):CS:=f xN xJ nc xP xK qr DM xO
theorem C7{S:Sto}{jx jr:Nat}{xs:List Int}{zs:List (Nat×List Int)}(hx:S[jx]?=some (.lst (xs.map U.int)))(hr:S[jr]?=some (.lst (rfs zs)))(hz:G7 S zs):AQ true (.ref jx) (.ref jr) S=some (.bl (!decide (xs∈zs.map (·.2))),S):=by
 obtain⟨d,hd⟩:∃d:Nat×List Int->PyData,d=fun p=>.list (p.2.map PyData.int):=⟨_,rfl⟩;have dt:∀zs:List (Nat×List Int),G7 S zs->DtL S (rfs zs) (zs.map d):=fun zs=>by
  induction zs with
  |nil=>intro _;exact .nil
  |cons p r ih=>
   intro h;refine .cons ?_ (ih fun q hq=>h q (QU _ hq));rw[hd];exact .lst (h p QK) (iB _)
 have ly:∀zs:List (Nat×List Int),PyData.canLayAll0 (zs.map d)=true:=fun zs=>by
  induction zs with
  |nil=>rfl
  |cons p r ih=>
   rw[QF];unfold PyData.canLayAll0;rw[ih,hd];have:=(jn p.2).1;rw[this];rfl
 have e:((zs.map d).any fun z=>z.eqv (.list (xs.map PyData.int)))=decide (xs∈zs.map (·.2)):=by
  rw[ZE,List.any_map,List.any_eq_true,decide_eq_true_eq,Qu];constructor
  ·rintro⟨p,hp,h⟩;rw[hd]at h;have h':PyData.eqv (.list (p.2.map PyData.int)) (.list (xs.map PyData.int))=true:=h;rw[jv]at h';exact⟨p,hp,of_decide_eq_true h'⟩
  ·rintro⟨p,hp,h⟩;refine⟨p,hp,?_⟩;rw[hd];show PyData.eqv (.list (p.2.map PyData.int)) (.list (xs.map PyData.int))=true;rw[jv];exact decide_eq_true h
 have:=wL (x:=.ref jx) (y:=.ref jr) (S:=S) (b:=(zs.map d).any fun z=>z.eqv (.list (xs.map PyData.int))) true ⟨_,_,.lst hx (iB xs),.inl (.lst hr (dt zs hz)),jn xs,ly zs,rfl⟩;rw[e]at this;exact this
theorem Cb{M:List (Int×Int)}{m:Nat}{xs os:List Int}(h:xG (bfL M m) xs)(hin:∀a∈xs,a∈rgI m)(ho:rj M os=true):False:=by
 have two:=h.two;have hp:∀k,k<xs.length->os.idxOf (xs.getD (if k=0 then xs.length-1 else k-1) 0)<os.idxOf (xs.getD k 0):=fun k hk=>by
  have:=bF.mp (hin _ (wD hk));exact mG.mp ho _ ((mZ this.1 this.2).mp (h.cyc k hk))
 have e:∀k,k<xs.length->os.idxOf (xs.getD 0 0)+k<=os.idxOf (xs.getD k 0):=fun k=>by
  induction k with
  |zero=>intro _;exact QJ _
  |succ k ih=>
   intro hk;have h1:=hp (k+1) hk;rw[if_neg (by omega),Nat.add_sub_cancel]at h1;have:=ih (by omega);omega
 have h0:=hp 0 (by omega);rw[if_pos rfl]at h0;have:=e (xs.length-1) (by omega);omega
section
variable{ns:List Int}{many:Int}{tms:List (Int×Int)}{wr lk:List (List Int)}{r1:Option U}{jr:Nat}
theorem ze(T:eF many tms wr lk)(m0:0<=many)(hm:many<=5){tu:U}(htu:tu=aV many (.tup (tms.map pP)) wr lk){p:Nat×List Int}{zs:List (Nat×List Int)}{Y:Sto}{r5 r6 r7 r8:Option U}(nd:p.2.Nodup)(mem:∀a,a∈p.2↔a∈rgI many.toNat)(hl:p.2.length<=30)(hp:Y[p.1]?=some (.lst (p.2.map U.int)))(nj:p.1≠jr)(hz:Y[jr]?=some (.lst (rfs zs)))(lz:zs.length<=900) :
  Wp (fL qo [some (.kl ns),r1,some tu,some (.ref jr),some (.ref p.1),r5,r6,r7,r8] Y) fun s=>s.1=.nx/\∃r5 r6,s.2.1=[some (.kl ns),r1,some tu,some (.ref jr),some (.ref p.1),r5,r6,r7,r8]/\Fzz jr Y s.2.2/\s.2.2[jr]?=some (.lst (rfs (if rj (bD (fj tms wr lk)) p.2=true then zs++[p]else zs))):=by
 have mem':∀a,a∈p.2↔0<=a/\a<many:=fun a=>by rw[mem,bF];omega
 have hll:=T.hll;have ti:Ag many wr lk:=⟨fun r hr=>by obtain⟨a,b,v,e,h1,h2,_⟩:=T.hlk r hr;exact⟨a,b,v,e,h1,h2⟩⟩;obtain⟨⟨u,Y1⟩,e1,rfl,G1,hG1⟩:=Dh (S:=Y) T hp mem' hl;dsimp only at hG1;have hp1:Y1[p.1]?=some (.lst (p.2.map U.int)):=by rw[hG1];exact ak hp
 obtain⟨pu,hpu⟩:∃pu,pu=p.2.map U.int:=⟨_,rfl⟩;obtain⟨⟨u,Y2⟩,e2,rfl,G2,hG2⟩:=BQ (S:=Y1++[.lst pu]) (j:=Y1.length) (xs:=p.2) T m0 (by omega) (by rw[ga0,hpu];rfl) nd mem hl;dsimp only at hG2;have fi:=Dg T nd mem';rw[fi]at e1;have f2:Fzz jr Y Y2:=by rw[hG2,hG1];exact((Fzz.app _).trans (.app _)).trans (.app _)
 have hp2:Y2[p.1]?=some (.lst (p.2.map U.int)):=by rw[hG2];exact ak (ak hp1)
 have hz2:Y2[jr]?=some (.lst (rfs zs)):=by rw[hG2,hG1];exact ak (ak (ak hz))
 have lj:jr<Y2.length:=(Q7.mp hz2).1;rw[<-htu]at e1 e2;have t0:∀b Y,tyU (.bl b) Y=some .bool:=fun _ _=>rfl;have t1:Ap .bool .bool=true:=rfl;rw[<-hpu]at hp1;have hA:(rfs zs).length<LIM:=by unfold LIM rfs;rw[Q9];omega
 have w3:=fun Z hZ=>yj (S:=Z) (jo:=Z.length-1) (tm:=.tup (tms.map pP)) (os:=p.2) (many:=many) (wr:=wr) (lk:=lk) hZ (by omega) (by omega) ti fun a h0 h1=>(mem' a).mpr ⟨h0,h1⟩;have x3:∀Z,fIx tu (.int 3) Z=some (.tup (lk.map rwU),Z):=fun Z=>by rw[htu];rfl
 rw[<-htu]at w3;unfold fL qo;cases ho:rj (bD (fj tms wr lk)) p.2 with
 |false=>
  rw[ho]at e1 e2;have db:decide (false=false)=true:=rfl;rwa[hp1,e1,e2,t0,t1,db,ay];refine⟨trivial,_,_,rfl,f2,?_⟩;rw[if_neg (by decide)];exact hz2
 |true=>
  rw[ho]at e1 e2 fi;have db:decide (true=true)=true:=rfl;obtain⟨zu,hzu⟩:∃zu,zu=rfs zs:=⟨_,rfl⟩;have hz3:=hz2;rw[<-hzu]at hz3 hA;obtain⟨Y3,hY3⟩:∃Y3,Y3=Y2.set jr (.lst (zu++[.ref p.1])):=⟨_,rfl⟩;have f3:Fzz jr Y2 Y3:=by rw[hY3];exact .set _
  have hp3:Y3[p.1]?=some (.lst pu):=by rw[hpu];exact f3.get hp2 nj
  have hz3':Y3[jr]?=some (.lst (rfs (zs++[p]))):=by
   rw[hY3,ZZ,if_pos rfl,if_pos lj,hzu];unfold rfs;rw[Qn];rfl
  obtain⟨Y4,hY4⟩:∃Y4,Y4=Y3++[O.lst pu]:=⟨_,rfl⟩;have l4:Y4.length-1=Y3.length:=by rw[hY4];simp
  obtain⟨G4,e4⟩:=w3 Y4 (by rw[l4,hY4,ga0,hpu];rfl);rw[l4]at e4;obtain⟨tl,htl⟩:∃tl,tl=eS wr lk p.2:=⟨_,rfl⟩;rw[<-htl]at e4;obtain⟨Y5,hY5⟩:∃Y5,Y5=Y4++(O.lst (tl.map U.int)::G4):=⟨_,rfl⟩;rw[<-hY5]at e4;rwa[hp1,e1,e2,t0,t1,db,hz3,eX hA,ay];rw[<-hY3];rwa[hp3,ay];rw[<-hY4];rwa[e4,ay];repeat with_reducible refine Wp.bind ?_
  refine uJ (lk:=lk) (S1:=Y5) (fun r hr=>by obtain⟨a,b,v,e,_⟩:=T.hlk r hr;exact⟨a,b,v,e⟩) (sW (us:=lk.map rwU) (by rwa[x3])) rfl (by omega) fun G5=>?_;have es:(lk.map fun r=>r.getD 2 0)=tl:=by
   have:=fi;unfold Gu at this;rw[ZI,ZI,decide_eq_true_eq]at this;rw[htl];exact this.2.2
  rw[es];have eq:=jq true (S:=Y5++(O.lst (tl.map U.int)::G5)) (l:=Y4.length) (l':=Y5.length) (ns:=tl) (ms:=tl) (ak (by rw[hY5,ga0];rfl)) (by rw[ga0];rfl);rw[if_pos rfl,decide_eq_true rfl]at eq;generalize tl.map U.int=lu at eq hY5 ⊢;rwa[eq,ay];refine⟨trivial,_,_,rfl,?_,?_⟩
  ·have f5:Fzz jr Y3 Y5:=by rw[hY5,hY4];exact(Fzz.app _).trans (.app _)
   exact((f2.trans f3).trans f5).trans (.app _)
  ·rw[if_pos trivial,hY5,hY4];exact ak (ak (ak hz3'))
theorem J5(is:List Nat)(ρ:Rho)(Y:Sto)(h:∃q1 q2 q3 q4 q5 q6 q7 q8,ρ=[some (.kl ns),q1,q2,q3,q4,q5,q6,q7,q8]) :
  Wp (cD (fun _=>True) (gNm 1) (fL qm) (is.map fun i:Nat=>U.int (i:Int)) ρ Y) fun s=>s.1=.nx/\∃q1 q2 q3 q4 q5 q6 q7 q8,s.2.1=[some (.kl ns),q1,q2,q3,q4,q5,q6,q7,q8]:=
 kJ (fun _ ρ _=>∃q1 q2 q3 q4 q5 q6 q7 q8,ρ=[some (.kl ns),q1,q2,q3,q4,q5,q6,q7,q8]) (fun ρ S h=>⟨trivial,rfl,h⟩) (fun i rest ρ S h=>⟨trivial,by
  obtain⟨q1,q2,q3,q4,q5,q6,q7,q8,rfl⟩:=h;refine .of (r:=([some (.kl ns),some (.int (i:Int)),q2,q3,q4,q5,q6,q7,q8],S)) rfl ?_;obtain⟨z,e1⟩:=BL (S:=S) ns (k:=(i:Int)) (by omega);obtain⟨many,tms,wr,lk,T3,e3,w3,m,T⟩:=yw (Y:=S++[.lst [.int z]]) (lw:=S.length) (most:=5) ⟨z,by rw[ga0];rfl⟩ (by omega) (by omega);obtain⟨⟨u,Y1⟩,e4,j,ys,G4,rfl,hG4,oa⟩:=vE (S:=T3++[.lst []]) (m:=many.toNat) (many:=many) (by omega) (by omega);dsimp only at hG4 oa;have x0:∀Y,fIx (aV many (.tup (tms.map pP)) wr lk) (.int 0) Y=some (.int many,Y):=fun Y=>rfl;have oor:=fun Y=>FR (S:=Y) T (by omega) (by omega);have rok:=fun Y j xs hj rb rin hl=>B9 (S:=Y) (j:=j) (xs:=xs) T (by omega) (by omega) hj rb rin hl;obtain⟨tu,htu⟩:∃tu,tu=aV many (.tup (tms.map pP)) wr lk:=⟨_,rfl⟩;rw[<-htu]at e3 x0 oor rok;have oin:∀p∈ys,p.2.Nodup/\(∀x,x∈p.2↔x∈rgI many.toNat)/\p.2.length=many.toNat:=fun p hp=>mE _ (by rw[<-oa.eq];exact Qu.mpr ⟨p,hp,rfl⟩);have ly:ys.length<=120:=by
   have:=nX (m:=many.toNat) (by omega);rw[<-oa.eq,Q9]at this;exact this
  have gj:Y1[T3.length]?=some (.lst []):=by rw[hG4,QZ,ga0];rfl
  have nj:∀p∈ys,p.1≠T3.length:=fun p hp e=>by
   have h1:=oa.all p hp;rw[e,gj]at h1;have:=(oin p hp).2.2;have h2:([]:List U)=p.2.map U.int:=by injection h1 with h1;injection h1
   have:=congrArg X8 h2;simp at this;omega
  have njj:j≠T3.length:=fun e=>by
   have h1:=oa.at_;rw[e,gj]at h1;have h2:([]:List U)=rfs ys:=by injection h1 with h1;injection h1
   have h3:ys=[]:=by unfold rfs at h2;exact List.map_eq_nil_iff.mp h2.symm
   have h4:=jR many.toNat (u0 many.toNat) fun x=>Iff.rfl;rw[<-oa.eq,h3]at h4;cases h4
  unfold fL qm;have ln:(S++[O.lst [.int z]]).length=S.length+1:=by simp
  rwa[e1,e3,x0,ay];repeat with_reducible refine Wp.bind ?_
  refine yo (j8 (l:=j) (us:=rfs ys) (by rwa[x0,e4]) oa.at_) (kJ (f:=fun p:Nat×List Int=>U.ref p.1) (fun rest ρ Y=>∃dn q4 q5 q6,ys=dn++rest/\ρ=[some (.kl ns),some (.int (i:Int)),some tu,some (.ref T3.length),q4,q5,q6,q7,q8]/\Fzz T3.length Y1 Y/\Y[T3.length]?=some (.lst (rfs (dn.filter fun p=>rj (bD (fj tms wr lk)) p.2)))) (fun ρ Y h=>?_) (fun p rest ρ Y h=>?_) ys _ _ ⟨[],q4,q5,q6,rfl,rfl,.refl,gj⟩)
  ·obtain⟨dn,q4,q5,q6,hd,rfl,fz,hz⟩:=h;rw[Qe]at hd;subst hd;refine⟨fz.get oa.at_ njj,?_⟩;obtain⟨⟨u,Yo⟩,eo,⟨Go,hGo⟩,jx,xs,ljx,gx,lx,hc⟩:=oor Y;dsimp only at hGo gx hc;obtain⟨zs,hzs⟩:∃zs,zs=ys.filter fun p=>rj (bD (fj tms wr lk)) p.2:=⟨_,rfl⟩;have hzY:Yo[T3.length]?=some (.lst (rfs zs)):=by rw[hGo,hzs];exact ak hz
   have lsA:G7 Yo zs:=fun p hp=>by
    rw[hzs]at hp;have hp:=(Qi.mp hp).1;rw[hGo];exact ak (fz.get (oa.all p hp) (nj p hp))
   rw[<-hzs]at hz;have nn:∀(neg:Bool) (X:Sto),(∃G,X=Yo++G)->nk neg (.ref T3.length) (.ref X.length) (X++[.lst []])=some (.bl (if neg then !decide (rfs zs=[])else decide (rfs zs=[])),X++[.lst []]):=fun neg X hX=>by
    obtain⟨G,rfl⟩:=hX;exact AF neg (ak (ak hzY)) (by rw[ga0];rfl)
   rcases hc with⟨rfl,ob⟩|⟨rfl,rb,rin⟩
   ·have hord:rj (bD (fj tms wr lk)) xs=true:=mG.mpr fun p hp=>by
     have h2:=(T.all_in p (dX.mp hp)).2;have h2':p.2∈rgI many.toNat:=bF.mpr (by omega);exact ob.lt p.2 ((ob.mem _).mpr h2') p.1 ((mZ (bF.mp h2').1 (bF.mp h2').2).mpr hp)
    have hx:xs∈ys.map (·.2):=by rw[oa.eq];exact jR _ ob.nd ob.mem
    obtain⟨p,hp,hpx⟩:=Qu.mp hx;have hpz:p∈zs:=by rw[hzs];exact Qi.mpr ⟨hp,by rw[hpx];exact hord⟩
    have nz:decide (rfs zs=[])=false:=decide_eq_false fun e=>by
     unfold rfs at e;rw[List.map_eq_nil_iff.mp e]at hpz;cases hpz
    have n1:=nn true Yo ⟨[],by simp⟩;have n2:=nn false (Yo++[.lst []]) ⟨_,rfl⟩;rw[nz]at n1 n2;have hin:=C7 (S:=Yo++[.lst []]) (jx:=jx) (jr:=T3.length) (xs:=xs) (zs:=zs) (ak gx) (ak hzY) fun p hp=>ak (lsA p hp);rw[decide_eq_true (Qu.mpr ⟨p,hpz,hpx⟩)]at hin;have d1:decide (("order":Str)="order")=true:=by decide
    simp only[if_true,if_false,Qx,QV,QB,List.length_nil,QZ,Qq,Qh]at n1 n2;rwa[eo,n1,d1,hin,n2,QV,ay];exact .inl ⟨trivial,_,_,_,_,_,_,_,_,rfl⟩
   ·have nz:zs=[]:=by
     refine List.eq_nil_iff_forall_not_mem.mpr fun p hp=>?_;rw[hzs]at hp;exact Cb rb rin (Qi.mp hp).2
    have nz':decide (rfs zs=[])=true:=decide_eq_true (by rw[nz];rfl);have n1:=nn true Yo ⟨[],by simp⟩;have n2:=nn false (Yo++[.lst []]) ⟨_,rfl⟩;rw[nz']at n1 n2;obtain⟨⟨u,Yr⟩,er,rfl⟩:=rok (Yo++[.lst [],.lst []]) jx xs (ak gx) rb rin (by omega);have d1:decide (("ring":Str)="ring")=true:=by decide
    have nb:∀Y,mS (.bl true) (.bl true) Y=some (.bl false,Y):=fun _=>rfl;simp only[if_true,if_false,Qx,QV,QB,List.length_nil,QZ,Qq,Qh]at n1 n2;rwa[eo,n1,d1,n2,er,nb,QV,ay];exact .inl ⟨trivial,_,_,_,_,_,_,_,_,rfl⟩
  ·obtain⟨dn,q4,q5,q6,hd,rfl,fz,hz⟩:=h;refine⟨fz.get oa.at_ njj,?_⟩;have hp:p∈ys:=by rw[hd];simp
   obtain⟨o1,o2,o3⟩:=oin p hp;refine .of (r:=([some (.kl ns),some (.int (i:Int)),some tu,some (.ref T3.length),some (.ref p.1),q5,q6,q7,q8],Y)) rfl ?_;refine(ze (ns:=ns) T (by omega) (by omega) htu o1 o2 (by omega) (fz.get (oa.all p hp) (nj p hp)) (nj p hp) hz (by have:=ZP (fun p=>rj (bD (fj tms wr lk)) p.2) dn;rw[hd,QV]at ly;omega)).mono fun s hs=>?_;obtain⟨h1,r5,r6,h2,h3,h4⟩:=hs;refine .inl ⟨h1,dn++[p],_,r5,r6,by simp[hd],h2,fz.trans h3,?_⟩;rw[h4,List.filter_append,List.filter_cons,List.filter_nil];split<;>simp⟩) is ρ Y h
theorem F2(ns:List Int)(hl:ns.length<=63):∃ρ' S',(fL DC) [some (.kl ns),none,none,none,none,none,none,none,none] []=some (.rt (.bl true),ρ',S'):=by
 obtain⟨n,hn⟩:∃n:Int,n=(if (if (ns.length:Int)<5 then(ns.length:Int)else 5)>2 then(if (ns.length:Int)<5 then(ns.length:Int)else 5)else 2):=⟨_,rfl⟩;have n0:0<=n:=by rw[hn];split<;>(try split)<;>omega
 have n1:n<=1000:=by rw[hn];split<;>(try split)<;>omega
 have a1:ag (cCB GZ (ag (cC (.int 2)) (ag (cCB GY (ag (cC (.int 5)) (ag (cCB lK (ag (ao 0) aB)) aB))) aB))) aB [some (.kl ns),none,none,none,none,none,none,none,none] []=some ([.int n],[]):=by
  have h1:∀i j:Int,GY [.int i,.int j] []=some (.int (if j<i then j else i),[]):=fun i j=>rfl;have h2:∀i j:Int,GZ [.int i,.int j] []=some (.int (if j>i then j else i),[]):=fun i j=>rfl;rw[hn];rwa[uc,h1,h2]
 obtain⟨⟨o,ρ1,S1⟩,e1,rfl,q1,q2,q3,q4,q5,q6,q7,q8,hρ⟩:=J5 (ns:=ns) (Qy n.toNat) [some (.kl ns),none,none,none,none,none,none,none,none] [] ⟨_,_,_,_,_,_,_,_,rfl⟩;dsimp only at hρ;subst hρ;rw[<-nO]at e1;unfold fL DC;unfold fL at e1;rw[nh ((GX a1 n0 n1).trans e1)];exact⟨_,_,rfl⟩
end
theorem GF{l:PySem.W.OpenLaw}{w:World}{K:Q4}{h:Heap}{mg:Str->Option Value}{fa:Addr}(X:K.In h)(G:h.Ns mainGlobals mg)(hfa:mg "law"=some (.ref fa))
  {tk1:Tok}
  (ds:GI K [("is_whole",iK),("musts_of_look",dg),("musts",pG),("those_before",dH),("ring_among",fc),("order_or_ring",c8),("is_tale_order",dh),("is_ring",jK),("last_ahead",fe),("would_tell",fb),("_law_well",fX),("_law_sip",iL),("_law_mixed",ff),("_law_tale",fZ),("_law_told",fY),("_law_orders",eB),("_law_fits",f6),("law",B5)])
  (g1:PySem.W.nsIn K mainGlobals "AT_FIRST"=some (some (.int (-1) tk1)))
  (zs:DO K bltR) :
  ∃fd:FuncData,(∀(s:Shared) (v:Value),BindsTo s fd ⟨[v],[]⟩ [("script",v)])/\∀base:Heap,K.In base->base.Ns mainGlobals mg->pd l.prog w K mg base CX0 5 fa fd ["script"] (qK K):=by
 obtain⟨d_is_whole,d_musts_of_look,d_musts,d_those_before,d_ring_among,d_order_or_ring,d_is_tale_order,d_is_ring,d_last_ahead,d_would_tell,d__law_well,d__law_sip,d__law_mixed,d__law_tale,d__law_told,d__law_orders,d__law_fits,d_law,-⟩:=ds;have C_AT_FIRST:=J9 X G g1;have B:=zs.bltR X G;refine F3 d_law X G hfa fun fd F_law base=>?_;have c6:=sX (P:=l.prog) (w:=w) (base:=base) (k:=0) (d_is_whole.df X G) B;have dz:=kb (P:=l.prog) (w:=w) (base:=base) (k:=0) (d_musts_of_look.df X G) B;have eI:=C9 (P:=l.prog) (w:=w) (base:=base) (k:=1) (d_musts.df X G) B dz;have dR:=kN (P:=l.prog) (w:=w) (base:=base) (k:=2) (d_those_before.df X G) B eI;have fE:=oA (P:=l.prog) (w:=w) (base:=base) (k:=0) (fuel:=100) (d_ring_among.df X G) B;have dw:=j9 (P:=l.prog) (w:=w) (base:=base) (k:=3) (fuel:=100) (d_order_or_ring.df X G) B dR (Has.mono fE (by decide));have dA:=ke (P:=l.prog) (w:=w) (base:=base) (k:=2) (d_is_tale_order.df X G) B (Has.mono c6 (by decide)) eI;have kI:=wB (P:=l.prog) (w:=w) (base:=base) (k:=2) (d_is_ring.df X G) B (Has.mono c6 (by decide)) eI;have fF:=oB (P:=l.prog) (w:=w) (base:=base) (k:=0) (d_last_ahead.df X G) B C_AT_FIRST;have fD:=oz (P:=l.prog) (w:=w) (base:=base) (k:=1) (d_would_tell.df X G) B fF;have gF:=pV (P:=l.prog) (w:=w) (base:=base) (k:=0) (d__law_well.df X G) B;have aH:=sY (P:=l.prog) (w:=w) (base:=base) (k:=0) (d__law_sip.df X G) B;have fG:=oC (P:=l.prog) (w:=w) (base:=base) (k:=1) (fuel:=100) (d__law_mixed.df X G) B aH;have gH:=pX (P:=l.prog) (w:=w) (base:=base) (k:=2) (d__law_tale.df X G) B (Has.mono aH (by decide)) fG;have gG:=pW (P:=l.prog) (w:=w) (base:=base) (k:=0) (d__law_told.df X G) B;have eJ:=mO (P:=l.prog) (w:=w) (base:=base) (k:=0) (d__law_orders.df X G) B;have gI:=pY (P:=l.prog) (w:=w) (base:=base) (k:=1) (d__law_fits.df X G) B gG;exact IS (P:=l.prog) (w:=w) (base:=base) (k:=4) F_law B (Has.mono gH (by decide)) (Has.mono gF (by decide)) (Has.mono eJ (by decide)) (Has.mono gI (by decide)) (Has.mono dA (by decide)) (Has.mono fD (by decide)) dw (Has.mono kI (by decide)) fun ns hl=>F2 ns hl
theorem JR{l:PySem.W.OpenLaw}{q:Program}{loose:List Str}{XP:(Str->Option Value)->Heap->Prop}{YP:World->Heap->Prop}{d:DefRec}{K:Params->Q4}(hn:l.most=some 63)(hdf:d.params.defaults=[])
  (hY:∀(w:World) (h:Heap),YP w h->(K w.params).In h)
  (F:∀(w:World) (mg:Str->Option Value) (fa:Addr) (h:Heap),(K w.params).In h->h.Ns mainGlobals mg->mg d.name=some (.ref fa)->
   ∃fd:FuncData,(∀(s:Shared) (u:Value),BindsTo s fd ⟨[u],[]⟩ [("script",u)])/\∀base:Heap,(K w.params).In base->base.Ns mainGlobals mg->pd l.prog w (K w.params) mg base CX0 5 fa fd ["script"] (qK (K w.params))) :
  PySem.W.WalkO q loose XP YP l.row.toRowW d [] (fun f vs=>PySem.call f vs):=
 L2.BM (n:=63) (k:=5) (x:="script") (CX:=fun _=>CX0) (sp:=fun w=>qK (K w.params)) hn (by decide) hdf ⟨rfl,by decide,by decide,rfl⟩ hY F (fun _ _ a ns hl hO hS=>⟨a,ns,rfl,IB hO hS,hl,fun _=>rfl⟩) fun _ _ _ _ _ z=>z
end OL
namespace PySem.W.Fast
def tw4113533067543556504:=0
def tw4919739301248228641:=0
def tw8089915375880807089:=0
def tw3483508602859961985:=0
def tw379230584401736555:=0
def tw13758957212799920736:=0
def tw16747429433181305993:=0
def tw8782014124043985201:=0
def tw9930866798476997129:=0
def tw16049800857621925869:=0
def tw11172198838163344296:=0
def tw13770350386661641642:=0
def tw413384473184683398:=0
def tw13372397099262911417:=0
def tw3097341476640876294:=0
def tw8499202662931380380:=0
def tw6708000420684061125:=0
def tw17622616779857313984:=0
def tw15420754447775477603:=0
def tw11223858211960207637:=0
def tw7314518359466295680:=0
def tw13908209237546080675:=0
def tw18077619400211823265:=0
def tw18443843476293286601:=0
def tw10378604426593505013:=0
def tw1937183710840311525:=0
def tw3791255721327259613:=0
def tw14921439600052014496:=0
def tw5180072526922502712:=0
def tw9994257501358156408:=0
def tw2956813352776055302:=0
def tw8714665640036666858:=0
def tw4903697257564145270:=0
def tw9774494518838293056:=0
def tw17182318902217940203:=0
def tw9981105025789256837:=0
def tw7780594547004387240:=0
def tw3978032233542272914:=0
def tw7021759040660688417:=0
def tw258304082488052138:=0
def tw2841185827012189400:=0
def tw7728445265908330047:=0
def tw3673821372492754497:=0
def tw14908215979736333947:=0
def tw14773903827566610947:=0
def tw16222697428061618656:=0
def tw3644285863311120675:=0
def tw7460746721350535115:=0
def tw16445644595168870380:=0
def tw2057074222143617210:=0
def tw6316198179885511213:=0
def tw1135895698764266070:=0
def tw3801250902845514739:=0
def tw8790018729367342916:=0
def tw3499422425168488389:=0
def tw9805384689762983942:=0
def tw10234538083901760701:=0
def tw1469484957051473305:=0
def tw2344979628855805298:=0
def tw8542872763767401780:=0
def tw18186154692083653595:=0
def tw15085234821909203140:=0
def tw18030711502656452126:=0
def tw1865661100634971669:=0
def tw5457649743013071303:=0
def tw13386701420211906762:=0
def tw4476536598382026307:=0
def tw6783887766871259136:=0
def tw6706279676183518329:=0
def tw1234391359109093237:=0
def tw489657829986801328:=0
def tw9172055545440103247:=0
def tw16240338220929215581:=0
end PySem.W.Fast
open PySem PySem.W PyProof.Rows
open OP in
set_option maxRecDepth 100000 in
set_option maxHeartbeats 0 in
theorem PySem.Challenge.cw_oneglance_k30_whole_orders_tell_what_was_holds : PySem.Challenge.rw_oneglance_k30_whole_orders_tell_what_was.Holds := by
 w_on; o_law; k_head; (case hw => w_witness2)
 k_fill
 refine OL.JR (l := PySem.Challenge.rw_oneglance_k30_whole_orders_tell_what_was) rfl rfl (fun w h Y => PySem.W.kIn_of Y) ?F;case F =>
  intro w mg fa h KX G hmg;refine' OL.GF KX G hmg ?ds ?g1 ?zs
  (case ds => (repeat (refine' ⟨J6 ?a ?l ?c ?k, ?_⟩; (case a => k_is); (case l => k_is); (case c => k_is); (case k => k_is))); exact trivial)
  (case g1 => k_is)
  (case zs => (repeat (refine' ⟨?a, ?_⟩; (case a => k_is))); exact trivial)
