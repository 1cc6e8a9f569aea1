import PyProof.Rows.All
import Wide.All
import OpenK.AllK
import Wide.FinOn
import Lean
import PyProof.EqAt
import PyProof.EqKinds
import PyProof.TupleCall
import PySem.Challenge.RW_oneglance_k24_whole_all_and_done_ones
local macro_rules|`(tactic|trivial)=>`(tactic|exact Or.inl rfl)
local macro_rules|`(tactic|trivial)=>`(tactic|exact Or.inr rfl)
set_option maxHeartbeats 4000000
set_option Elab.async false
set_option linter.all false
set_option maxRecDepth 100000
noncomputable section
open Option renaming bind_eq_some_iff→Q0, bind_some→Q8, map_eq_some_iff→Qc, getD_some→Z8
open PySem.W renaming Frag→Q1
open PySem renaming wpAny_bind→Q2, wpAny_pure→Q9, wpAny_mono→Z4
open List renaming append_assoc→Q3, getElem?_eq_getElem→Q4, getElem?_eq_some_iff→Q5, length_map→Q6, length_append→Q7, getElem?_append_left→QZ, map_cons→QJ, map_append→QK, length_cons→QU, append_nil→QB, size_toArray→QH, mem_cons→QD, mem_map→QF, getElem?_map→QC, map_map→QM, getElem?_cons_succ→QN, mem_cons_of_mem→Qq, mem_append_right→Qz, mem_cons_self→Qx, nil_append→Qj, getElem?_append_right→Qv, cons_append→Qk, length_singleton→Qw, range→Qr, getElem?_set_ne→Qu, mem_append→Qg, mem_singleton→Qh, not_mem_nil→Qe, replicate→Qa, getD_eq_getElem?_getD→Qm, map_congr_left→Qn, find?_cons→Qp, mem_append_left→Qt, map_nil→Ql, length_eq_zero_iff→Qi, nodup_append→Qo, mem_filter→Z6, getElem?_eq_none→Z7, any_cons→Z9, getElem?_replicate→ZQ, getElem?_cons_zero→ZZ, nodup_cons→ZX, all_cons→ZV, take_of_length_le→ZU, getElem?_set_self→ZG, getElem?_set→ZD, nodup_nil→ZC
open PySem.Heap renaming get?_push_of_some→QQ, get?_push_size→QY, lt_size→QR, SameBut→ZH, size_push→ZM
open Nat renaming le_refl→QX, ne_of_lt→QL, lt_of_lt_of_le→Qy, le_trans→Qd, zero_le→Z5, add_sub_cancel_left→ZY, lt_of_le_of_lt→ZR
open Bool renaming false_ne_true→QV, false_eq_true→Qb, and_eq_true→Qs
open Array renaming getElem?_eq_getElem→ZJ, length_toList→ZK, getElem?_toList→ZE
open Int renaming toNat_natCast→ZF
namespace L2
open PySem PySem.Spec PyProof.Rows
abbrev Key:=Sum Int Str
def qJ:Key->Value->Bool
 |.inl k,v=>Value.isInt k v
 |.inr x,v=>Value.isStrOf x v
def Mt(w:World):Key->Int
 |.inl k=>hashInt k
 |.inr x=>hashStr w x
theorem bH:∀{k:Key} {v:Value},qJ k v=true->(∃i t,k=Sum.inl i/\v=Value.int i t)\/(∃x t,k=Sum.inr x/\v=Value.str x t)
 |.inl i,v,h=>by
  obtain⟨t,e⟩:=Value.isInt_shape (k:=i) (v:=v) h;exact .inl ⟨i,t,rfl,e⟩
 |.inr x,v,h=>by
  obtain⟨t,e⟩:=Value.isStrOf_shape (x:=x) (v:=v) h;exact .inr ⟨x,t,rfl,e⟩
theorem xf(i:Int)(t:Tok):qJ (.inl i) (.int i t)=true:=by simp[qJ,Value.isInt]
theorem xc(x:Str)(t:Tok):qJ (.inr x) (.str x t)=true:=by simp[qJ,Value.isStrOf]
theorem He(a b:Int):decide ((Sum.inl a:Key)=Sum.inl b)=(a == b):=by
 by_cases e:a=b
 ·subst e;simp
 ·have h:¬(Sum.inl a:Key)=Sum.inl b:=fun q=>e (Sum.inl.inj q);rw[decide_eq_false h];exact(beq_eq_false_iff_ne.mpr e).symm
theorem Hb(a b:Str):decide ((Sum.inr a:Key)=Sum.inr b)=decide (a=b):=by
 by_cases e:a=b
 ·subst e;simp
 ·have h:¬(Sum.inr a:Key)=Sum.inr b:=fun q=>e (Sum.inr.inj q);rw[decide_eq_false h,decide_eq_false e]
theorem Hd(a:Int)(b:Str):decide ((Sum.inl a:Key)=Sum.inr b)=false:=decide_eq_false (fun q=>nomatch q)
theorem Hc(a:Str)(b:Int):decide ((Sum.inr a:Key)=Sum.inl b)=false:=decide_eq_false (fun q=>nomatch q)
def cE(prog:Program)(w:World):PySem.KeyKind prog w Key where
 is:=qJ
 hash:=Mt w
 inj:=fun v a b ha hb=>by
  rcases bH ha with⟨i,t,rfl,rfl⟩|⟨x,t,rfl,rfl⟩
  ·rcases bH hb with⟨j,u,rfl,e⟩|⟨y,u,rfl,e⟩
   ·injection e with e1 _;rw[e1]
   ·exact nomatch e
  ·rcases bH hb with⟨j,u,rfl,e⟩|⟨y,u,rfl,e⟩
   ·exact nomatch e
   ·injection e with e1 _;rw[e1]
 byValue:=fun k v h=>by
  rcases bH h with⟨i,t,rfl,rfl⟩|⟨x,t,rfl,rfl⟩<;>rfl
 pyHash:=fun hv h=>by
  rcases bH hv with⟨i,t,rfl,rfl⟩|⟨x,t,rfl,rfl⟩
  ·exact wpAny_pyHash_int h
  ·exact wpAny_pyHash_str h
 eqBool:=fun hu hv h=>by
  rcases bH hu with⟨i,t,rfl,rfl⟩|⟨x,t,rfl,rfl⟩
  ·rcases bH hv with⟨j,u,rfl,rfl⟩|⟨y,u,rfl,rfl⟩
   ·rw[He]at h;exact wpAny_eqBool_int h
   ·rw[Hd]at h;exact SeqAt.EqAt.int_str i t y u _ _ _ _ h
  ·rcases bH hv with⟨j,u,rfl,rfl⟩|⟨y,u,rfl,rfl⟩
   ·rw[Hc]at h;exact SeqAt.EqAt.str_int x t j u _ _ _ _ h
   ·rw[Hb]at h;exact wpAny_eqBool_str h
 «strs»:=fun k x t v h=>by
  rcases bH h with⟨i,u,rfl,e⟩|⟨y,u,rfl,e⟩
  ·exact nomatch e
  ·injection e with e1 _;subst e1;cases v<;>rfl
theorem qF(prog:Program)(w:World)(i:Int)(t:Tok):(cE prog w).is (.inl i) (.int i t)=true:=xf i t
theorem qE(prog:Program)(w:World)(x:Str)(t:Tok):(cE prog w).is (.inr x) (.str x t)=true:=xc x t
inductive V where
 |non|bl (b:Bool)|int (i:Int)|str (x:Str)|byt (b:Array UInt8)|flt (b:UInt64)|ref (a:Addr)|ty (n:String)
 deriving DecidableEq
def bV:V->Value->Prop
 |.non,u=>u=Value.none
 |.bl b,u=>u=Value.bool b
 |.int i,u=>∃t,u=Value.int i t
 |.str x,u=>∃t,u=Value.str x t
 |.byt b,u=>∃t,u=Value.bytes b t
 |.flt b,u=>∃t,u=Value.float b t
 |.ref a,u=>u=Value.ref a
 |.ty n,u=>u=Value.type n
abbrev bP:List V->List Value->Prop:=Paired bV
theorem bP.length{xs:List V}{us:List Value}(r:bP xs us):xs.length=us.length:=Paired.length r
theorem bP.get:∀{xs:List V} {us:List Value} {i:Nat} {x:V},bP xs us->xs[i]?=some x->∃u,us[i]?=some u/\bV x u
 |_,_,_,_,.nil,e=>by simp at e
 |_,_,0,_,.cons r _,e=>by simp at e;subst e;exact⟨_,rfl,r⟩
 |_,_,i+1,x,.cons _ t,e=>by
  obtain⟨u,h1,h2⟩:=bP.get (i:=i) (x:=x) t (by simpa using e);exact⟨u,by simpa using h1,h2⟩
theorem bP.set{x:V}{u:Value}(r:bV x u):∀{xs:List V} {us:List Value} (i:Nat),bP xs us->bP (xs.set i x) (us.set i u)
 |_,_,_,.nil=>.nil
 |_,_,0,.cons _ t=>.cons r t
 |_,_,i+1,.cons q t=>.cons q (bP.set r i t)
theorem bP.append:∀{xs ys:List V} {us ws:List Value},bP xs us->bP ys ws->bP (xs++ys) (us++ws)
 |_,_,_,_,.nil,s=>s
 |_,_,_,_,.cons r t,s=>.cons r (bP.append t s)
theorem bP.take:∀{xs:List V} {us:List Value} (n:Nat),bP xs us->bP (xs.take n) (us.take n)
 |_,_,0,_=>.nil
 |_,_,_+1,.nil=>.nil
 |_,_,n+1,.cons r t=>.cons r (bP.take n t)
theorem bP.drop:∀{xs:List V} {us:List Value} (n:Nat),bP xs us->bP (xs.drop n) (us.drop n)
 |_,_,0,r=>r
 |_,_,_+1,.nil=>.nil
 |_,_,n+1,.cons _ t=>bP.drop n t
def nC:Option V->Option Value->Prop
 |some v,some u=>bV v u
 |none,none=>True
 |_,_=>False
def KV{κ:Type}:List (κ×V)->List (κ×Value)->Prop:=Paired fun(p:κ×V) (q:κ×Value)=>p.1=q.1/\bV p.2 q.2
def kV:Key->V
 |.inl i=>.int i
 |.inr x=>.str x
inductive HO where
 |lst (xs:List V)
 |tup (xs:List V)
 |dK (kvs:List (Key×V))|dT (kvs:List (List Key×V))
 |set (S:Int->Bool) (n:Nat)
 |ins (C dx:Addr) (fs:List (Str×V))
 |own (x:Addr)
 |xd (fs:List (Str×V))
 |met (f x:Addr)
 |rng (lo hi:Int)
 |frz (o:Obj) (u:HO)
 |tbl (ps:Array Value)
 |ext (φ:Heap->Prop)
abbrev Hp:=Addr->Option HO
def upd(H:Hp)(a:Addr)(o:HO):Hp:=fun b=>if b=a then some o else H b
theorem aG{H:Hp}{a:Addr}{o:HO}:upd H a o a=some o:=by unfold upd;rw[if_pos rfl]
theorem bj{H:Hp}{a b:Addr}{o:HO}(h:b≠a):upd H a o b=H b:=by unfold upd;rw[if_neg h]
theorem Ku{H:Hp}{a b:Addr}{o u:HO}(h:H a=some o)(h':H b=some u)(d:o≠u):a≠b:=by
 intro e;subst e;rw[h]at h';exact d (Option.some.inj h')
theorem cf{H:Hp}{a b:Addr}{o:HO}(h:H a=some o)(h':H b=none):a≠b:=by
 intro e;subst e;rw[h]at h';cases h'
section
variable(P:Program)(w:World)
def bU(H:Hp)(h:Heap)(a:Addr):HO->Prop
 |.lst xs=>xs.length<=sizeLine/\∃(its:List Value) (n:Nat),bP xs its/\h.get? a=some { cls:=.type "list",data:=.seq its.toArray n }
 |.tup xs=>xs.length<=sizeLine/\∃its:List Value,bP xs its/\IsTup h a its.toArray
 |.dK kvs=>kvs.length<=sizeLine/\(a == sysModules)=false/\∃vs,KV kvs vs/\h.DictOf (cE P w) a vs
 | .dT kvs=>kvs.length<=sizeLine/\(a == sysModules)=false/\∃xs:List (List Key×Addr×Value),
   Paired (fun(p:List Key×V) (q:List Key×Addr×Value)=>p.1=q.1/\H q.2.1=some (.tup (p.1.map kV))/\bV p.2 q.2.2) kvs xs/\
   ∃o es ep,h.get? a=some o/\o.ExactDict/\o.data=.dict es ep/\es.toList=xs.map (entryOfKey (tupleKind (cE P w)))/\(xs.map (·.1)).Nodup
 |.set S n=>h.SetOf (intKind P w) a S n
 | .ins C dx fs=>H dx=some (.own a)/\fs.length<=1000/\dx≠a/\h.get? a=some (PySem.W.instObj C dx)/\
   ∃mA,h.Ns1 dx mA/\(∀f,nC (fs.lookup f) (mA f))/\PySem.Within mA (fs.map (·.1))
 |.own _=>∃o,h.get? a=some o
 |.xd fs=>∃mA,h.Ns1 a mA/\∀f,nC (fs.lookup f) (mA f)
 |.rng lo hi=>∃t u v,h.get? a=some { cls:=.type "range",data:=.fields #[.int lo t,.int hi u,.int 1 v] }
 |.frz o u=>h.get? a=some o/\bU H h a u
 |.tbl ps=>h.get? a=some { cls:=.none,data:=.fields ps }
 |.met f x=>h.get? a=some (PySem.W.methodObj (.ref f) (.ref x))
 |.ext φ=>φ h/\(∃o,h.get? a=some o)/\∀h1 h2:Heap,φ h1->(∀o,h1.get? a=some o->h2.get? a=some o)->φ h2
def HOk(H:Hp)(h:Heap):Prop:=∀a o,H a=some o->bU P w H h a o
end
section
variable{P:Program}{w:World}{H H':Hp}{h h':Heap}{a:Addr}{o:HO}
theorem bU.lt(x:bU P w H h a o):a<h.objs.size:=by
 cases o with
 |lst xs=>obtain⟨_,_,_,_,e⟩:=x;exact QR e
 |tup xs=>obtain⟨_,_,_,p⟩:=x;exact p.lt
 |dK kvs=>obtain⟨_,_,_,_,o,_,_,e,_⟩:=x;exact QR e
 |dT kvs=>obtain⟨_,_,_,_,o,_,_,e,_⟩:=x;exact QR e
 |set S n=>obtain⟨o,_,_,_,e,_⟩:=x;exact QR e
 |ins C dx fs=>obtain⟨_,_,_,e,_⟩:=x;exact QR e
 |own y=>obtain⟨_,e⟩:=x;exact QR e
 |xd fs=>obtain⟨_,⟨_,_,_,e,_⟩,_⟩:=x;exact QR e
 |rng lo hi=>obtain⟨_,_,_,e⟩:=x;exact QR e
 |frz ob u=>obtain⟨e,_⟩:=x;exact QR e
 |tbl ps=>exact QR (show h.get? a=some _ from x)
 |met f y=>exact QR (show h.get? a=some _ from x)
 |ext φ=>obtain⟨_,⟨_,e⟩,_⟩:=x;exact QR e
theorem Paired.mapP{α β:Type}{F G:α->β->Prop}:∀{l₁:List α} {l₂:List β},Paired F l₁ l₂->(∀a b,F a b->G a b)->Paired G l₁ l₂
 |_,_,.nil,_=>.nil
 |_,_,.cons r t,f=>.cons (f _ _ r) (Paired.mapP t f)
theorem bU.stay(x:bU P w H h a o)(k:∀b u,(b=a\/H b=some (.own a))->h.get? b=some u->h'.get? b=some u)
  (ho:∀b,H b=some (.own a)->H' b=some (.own a)) (ht:∀b xs,H b=some (.tup xs)->H' b=some (.tup xs)):bU P w H' h' a o:=by
 induction o with
 |lst xs=>obtain⟨z,its,n,r,e⟩:=x;exact⟨z,its,n,r,k _ _ (.inl rfl) e⟩
 |tup xs=>obtain⟨z,its,r,ob,e,c⟩:=x;exact⟨z,its,r,ob,k _ _ (.inl rfl) e,c⟩
 |dK kvs=>obtain⟨z,y,vs,r,ob,es,ep,e,c⟩:=x;exact⟨z,y,vs,r,ob,es,ep,k _ _ (.inl rfl) e,c⟩
 |dT kvs=>
  obtain⟨z,y,xs,r,ob,es,ep,e,c⟩:=x;exact⟨z,y,xs,Paired.mapP r fun p q z=>⟨z.1,ht _ _ z.2.1,z.2.2⟩,ob,es,ep,k _ _ (.inl rfl) e,c⟩
 |set S n=>obtain⟨ob,es,ep,t,e,c⟩:=x;exact⟨ob,es,ep,t,k _ _ (.inl rfl) e,c⟩
 |ins C dx fs=>
  obtain⟨d,z,ne,e,mA,⟨od,es,ep,e2,c⟩,r⟩:=x;exact⟨ho _ d,z,ne,k _ _ (.inl rfl) e,mA,⟨od,es,ep,k _ _ (.inr d) e2,c⟩,r⟩
 |own y=>obtain⟨ob,e⟩:=x;exact⟨ob,k _ _ (.inl rfl) e⟩
 |xd fs=>obtain⟨mA,⟨od,es,ep,e,c⟩,r⟩:=x;exact⟨mA,⟨od,es,ep,k _ _ (.inl rfl) e,c⟩,r⟩
 |rng lo hi=>obtain⟨t,u,v,e⟩:=x;exact⟨t,u,v,k _ _ (.inl rfl) e⟩
 |frz ob u ih=>obtain⟨e,q⟩:=x;exact⟨k _ _ (.inl rfl) e,ih q⟩
 |tbl ps=>
  have e:h.get? a=some { cls:=.none,data:=.fields ps }:=x;show h'.get? a=some { cls:=.none,data:=.fields ps };exact k a _ (.inl rfl) e
 |met f y=>
  have e:h.get? a=some (PySem.W.methodObj (.ref f) (.ref y)):=x;show h'.get? a=some (PySem.W.methodObj (.ref f) (.ref y));exact k a _ (.inl rfl) e
 |ext φ=>obtain⟨p,⟨o,e⟩,st⟩:=x;exact⟨st _ _ p fun o q=>k _ _ (.inl rfl) q,⟨o,k _ _ (.inl rfl) e⟩,st⟩
theorem HOk.lt(x:HOk P w H h)(e:H a=some o):a<h.objs.size:=(x a o e).lt
theorem HOk.fresh(x:HOk P w H h)(e:h.objs.size<=a):H a=none:=by
 cases q:H a with
 |none=>rfl
 |some u=>exact absurd (Qy (x.lt q) e) (Nat.lt_irrefl _)
theorem HOk.kept(x:HOk P w H h)(k:∀b u,h.get? b=some u->h'.get? b=some u):HOk P w H h':=fun a o e=>
 (x a o e).stay (fun b u _ q=>k b u q) (fun _ q=>q) fun _ _ q=>q
theorem HOk.laid(x:HOk P w H h)(k:∀b u,h.get? b=some u->h'.get? b=some u)(hp:h.objs.size<=a)(new:bU P w (upd H a o) h' a o):HOk P w (upd H a o) h':=fun b u e=>by
 have hn:=x.fresh hp;by_cases hb:b=a
 ·subst hb;rw[aG]at e;cases e;exact new
 ·rw[bj hb]at e;exact(x b u e).stay (fun c v _ q=>k c v q) (fun c q=>by rw[bj (cf q hn)];exact q) fun c xs q=>by rw[bj (cf q hn)];exact q
end
def Rd(H:Hp)(a:Addr)(u:HO):Prop:=H a=some u\/∃o,H a=some (.frz o u)
theorem Rd.ok{P:Program}{w:World}{H:Hp}{h:Heap}{a:Addr}{u:HO}(r:Rd H a u)(x:HOk P w H h):bU P w H h a u:=by
 rcases r with r|⟨o,r⟩
 ·exact x a u r
 ·obtain⟨_,q⟩:=x a _ r;exact q
def Mut:Option HO->Prop
 |some (.lst _)=>True
 |some (.dK _)=>True
 |some (.dT _)=>True
 |some (.set _ _)=>True
 |some (.ins _ _ _)=>True
 |some (.ext _)=>True
 |_=>False
section
variable{P:Program}{w:World}{H:Hp}{h h':Heap}{x e:Addr}{o':HO}
theorem HOk.write(ok:HOk P w H h)(mu:Mut (H x))(he:e=x\/H e=some (.own x))(k:∀b u,b≠e->h.get? b=some u->h'.get? b=some u)(heo:∃u,h'.get? e=some u)
  (new:bU P w (upd H x o') h' x o'):HOk P w (upd H x o') h':=fun b u q=>by
 have nown:∀c y,H c=some (.own y)->c≠x:=fun c y r z=>by subst z;rw[r]at mu;exact mu
 have ntup:∀c xs,H c=some (.tup xs)->c≠x:=fun c xs r z=>by subst z;rw[r]at mu;exact mu
 by_cases hb:b=x
 ·subst hb;rw[aG]at q;cases q;exact new
 ·rw[bj hb]at q;by_cases hbe:b=e
  ·have q':H b=some (.own x):=by
    rcases he with z|z
    ·exact absurd (hbe.trans z) hb
    ·rw[hbe];exact z
   rw[q]at q';cases q';obtain⟨v,hv⟩:=heo;exact⟨v,by rw[hbe];exact hv⟩
  ·refine(ok b u q).stay (fun c v hc r=>k c v ?_ r) (fun c r=>by rw[bj (nown c b r)];exact r) fun c xs r=>by rw[bj (ntup c xs r)];exact r
   rcases hc with rfl|hc
   ·exact hbe
   ·rintro rfl;rcases he with z|z
    ·exact nown c b hc z
    ·rw[hc]at z;cases z;exact hb rfl
end
structure Un(fs ex:List Addr)(H H':Hp)(h h':Heap):Prop where
 keep:∀b o,h.get? b=some o->H b=none->b∉fs->b∉ex->h'.get? b=some o
 slot:∀b o,h.get? b=some o->H b=none->b∈fs->b∉ex->∃sl,h'.get? b=some { o with slots:=sl }
 free:∀b o,h.get? b=some o->H b=none->b∉ex->H' b=none
 there:∀b o,h.get? b=some o->b∉ex->∃o',h'.get? b=some o'
 tups:∀b xs,H b=some (.tup xs)->H' b=some (.tup xs)
 frzs:∀b o u,H b=some (.frz o u)->H' b=some (.frz o u)
 tbls:∀b ps,H b=some (.tbl ps)->∃more,H' b=some (.tbl (ps++more))
section
variable{fs ex:List Addr}{H H1:Hp}{h h1 h':Heap}{a x e:Addr}{o:HO}
theorem Un.any(u:Un fs ex H H1 h h1){b:Addr}{ob:Obj}(q:h.get? b=some ob)(n:H b=none)(hx:b∉ex):∃sl,h1.get? b=some { ob with slots:=sl }:=by
 by_cases hb:b∈fs
 ·exact u.slot b ob q n hb hx
 ·exact⟨ob.slots,u.keep b ob q n hb hx⟩
theorem Un.kept(k:∀b u,h.get? b=some u->h'.get? b=some u):Un fs ex H H h h':=
 ⟨fun b ob q _ _ _=>k b ob q,fun b ob q _ _ _=>⟨ob.slots,k b ob q⟩,fun _ _ _ n _=>n,fun b ob q _=>⟨ob,k b ob q⟩,fun _ _ q=>q,fun _ _ _ q=>q,fun _ ps q=>⟨#[],by rw[q];simp⟩⟩
theorem Un.refl:Un fs ex H H h h:=Un.kept fun _ _ q=>q
theorem Un.laid(k:∀b u,h.get? b=some u->h'.get? b=some u)(hp:h.objs.size<=a)(hn:H a=none):Un fs ex H (upd H a o) h h' where
 keep:=fun b u q _ _ _=>k b u q
 slot:=fun b u q _ _ _=>⟨u.slots,k b u q⟩
 free:=fun b u q n _=>by rw[bj (QL (Qy (QR q) hp))];exact n
 there:=fun b u q _=>⟨u,k b u q⟩
 tups:=fun b xs q=>by rw[bj (cf q hn)];exact q
 frzs:=fun b u xs q=>by rw[bj (cf q hn)];exact q
 tbls:=fun b ps q=>⟨#[],by rw[bj (cf q hn),q];simp⟩
theorem Un.write(mu:Mut (H x))(he:e=x\/H e=some (.own x))(k:∀b u,b≠e->h.get? b=some u->h'.get? b=some u)(heo:∃u,h'.get? e=some u):Un fs ex H (upd H x o) h h':=by
 have hx:∀b,H b=none->b≠x:=fun b n z=>by subst z;rw[n]at mu;exact mu
 have hb:∀b,H b=none->b≠e:=fun b n z=>by
  subst z;rcases he with r|r
  ·exact hx b n r
  ·rw[n]at r;cases r
 have hm:∀b u,H b=some u->¬Mut (some u)->b≠x:=fun b u q nm z=>by subst z;rw[q]at mu;exact nm mu
 refine⟨fun b u q n _ _=>k b u (hb b n) q,fun b u q n _ _=>⟨u.slots,k b u (hb b n) q⟩,fun b u q n _=>by rw[bj (hx b n)];exact n,fun b u q _=>?_,
  fun b xs q=>by rw[bj (hm b _ q fun z=>z)];exact q,fun b u xs q=>by rw[bj (hm b _ q fun z=>z)];exact q,fun b ps q=>⟨#[],by rw[bj (hm b _ q fun z=>z),q];simp⟩⟩
 by_cases hbe:b=e
 ·subst hbe;exact heo
 ·exact⟨u,k b u hbe q⟩
end
def trk(h:Heap)(H:Hp):List Addr:=(Qr h.objs.size).filter fun a=>(H a).isSome
def Ae(h:Heap)(H:Hp):Heap:=PySem.W.hideAll h (trk h H)
theorem xy(h:Heap)(H:Hp):(Ae h H).objs.size=h.objs.size:=PySem.W.hideAll_size _ _
theorem Ad{h:Heap}{H:Hp}{b:Addr}{o:Obj}(e:h.get? b=some o)(n:H b=none):(Ae h H).get? b=some o:=
 PySem.W.hideAll_get _ e fun hm=>by
  have q:(H b).isSome=true:=(Z6.mp hm).2;rw[n]at q;simp at q
theorem Dj{h:Heap}{H:Hp}{b:Addr}{o:Obj}(e:(Ae h H).get? b=some o):h.get? b=some o/\H b=none:=by
 have e':h.get? b=some o:=PySem.W.of_hideAll (trk h H) e;refine⟨e',?_⟩;cases q:H b with
 |none=>rfl
 |some x=>
  have hm:b∈trk h H:=Z6.mpr ⟨List.mem_range.mpr (QR e'),by simp[q]⟩;have z:(Ae h H).get? b=none:=PySem.W.hideAll_none (trk h H) hm;rw[z]at e;cases e
structure Mod(K:Q1)(mg:Str->Option Value)(base:Heap):Prop where
 kin:K.In base
 glob:base.Ns mainGlobals mg
 blt:∃mb,base.Ns builtinsNs mb/\∀x:Str,x≠"__name__"->mb x=bootBuiltins x
 nolimit:base.NoLimit
structure Cx where
 prog:Program
 w:World
 K:Q1
 mg:Str->Option Value
 base:Heap
 A:Around
 N:List Str
 s₀:Shared
 H₀:Hp
 env:Env
 outer:List Env
 stack:List Env
 ex:List Addr
 fn:Str->Bool
 calm:Bool
 pn:List (Addr×Obj)
 xe:Value->Shared->Prop
def frs(l:List Env):List Addr:=l.filterMap (·.frame)
abbrev Cx.fs(X:Cx):List Addr:=frs X.outer
def Vis(sc:Scope)(x:Str):Prop:=sc.names.lookup x=some .local\/sc.names.lookup x=some .cell\/sc.names.lookup x=some .free
def Loc(sc:Scope)(x:Str):Prop:=sc.names.lookup x=some .local\/sc.names.lookup x=some .cell
def MA(env:Env)(h:Heap)(m:Str->Option Value)(x:Str)(u:Value):Prop:=
 (env.kindOf x=some .local/\m x=some u)\/((env.kindOf x=some .cell\/env.kindOf x=some .free)/\∃c,env.cells.lookup x=some c/\h.IsCell c (some u))
structure Cx.Ok(X:Cx):Prop where
 mod:Mod X.K X.mg X.base
 kind:X.env.scope.kind=.function
 glob:X.env.globals=mainGlobals
 blt:X.env.builtins=builtinsNs
 above:X.s₀.heap.objs.size<=X.env.locals
 inj:∀x y c,X.env.cells.lookup x=some c->X.env.cells.lookup y=some c->x=y
 has:∀x,(X.env.kindOf x=some .cell\/X.env.kindOf x=some .free)->∃c,X.env.cells.lookup x=some c
 cab:∀x c,X.fn x=true->X.env.cells.lookup x=some c->X.s₀.heap.objs.size<=c
 hd:X.calm=true->X.A.handled=none
 frames:X.A.frames=some X.stack
 stk:X.stack=X.outer\/(X.stack=X.env::X.outer/\X.env.frame=some X.env.locals)
 exf:∀b∈X.ex,b≠X.env.locals/\∀x c,X.env.cells.lookup x=some c->c≠b
 bs:∀b o,X.base.get? b=some o->X.s₀.heap.get? b=some o/\X.H₀ b=none
 bsz:X.base.objs.size<=X.s₀.heap.objs.size
 noex:∀b o,X.base.get? b=some o->b∉X.ex
 exfs:∀b∈X.ex,b∉X.fs
 funs:X.s₀.heap.FunFrames X.base X.outer
 frf:∀b∈X.fs,X.H₀ b=none
structure Inv(X:Cx)(pins:List (Addr×Obj))(σ:List (Option V))(H:Hp)(s:Shared):Prop where
 ok:X.Ok
 os:s.os=X.s₀.os
 bare:AllBare s.gens
 base:Un X.fs X.ex X.H₀ H X.s₀.heap s.heap
 loc:∃m,s.heap.Ns X.env.locals m/\∀(i:Nat) (x:Str) (v:V),X.N[i]?=some x->σ[i]?=some (some v)->Vis X.env.scope x->∃u,bV v u/\MA X.env s.heap m x u
 cell:∀x c,X.env.cells.lookup x=some c->∃v,s.heap.IsCell c v
 free:H X.env.locals=none
 freeC:∀x c,X.env.cells.lookup x=some c->H c=none
 pin:∀p∈X.pn++pins,s.heap.get? p.1=some p.2/\H p.1=none/\p.1≠X.env.locals/\p.1∉X.fs/\∀v,p.2.data≠.cell v
 hok:HOk X.prog X.w H s.heap
 len:σ.length=X.N.length
section
variable{X:Cx}{pins:List (Addr×Obj)}{σ:List (Option V)}{H H':Hp}{s:Shared}{h':Heap}
theorem Cx.Ok.nofr(ok:X.Ok){b:Addr}{o:Obj}(e:X.base.get? b=some o):b∉X.fs:=fun hb=>by
 have:=(ok.funs.mem hb).1;rw[e]at this;cases this
theorem Inv.bs(I:Inv X pins σ H s):∀b o,X.base.get? b=some o->s.heap.get? b=some o/\H b=none:=fun b o e=>
 ⟨I.base.keep b o (I.ok.bs b o e).1 (I.ok.bs b o e).2 (I.ok.nofr e) (I.ok.noex b o e),I.base.free b o (I.ok.bs b o e).1 (I.ok.bs b o e).2 (I.ok.noex b o e)⟩
theorem Inv.bk(I:Inv X pins σ H s):∀b o,X.base.get? b=some o->s.heap.get? b=some o:=fun b o e=>(I.bs b o e).1
theorem Inv.mod(I:Inv X pins σ H s):Mod X.K X.mg X.base:=I.ok.mod
theorem Inv.kIn(I:Inv X pins σ H s):X.K.In s.heap:=I.ok.mod.kin.keeps I.bk
theorem Inv.lt(I:Inv X pins σ H s):X.env.locals<s.heap.objs.size:=let ⟨_,hn,_⟩:=I.loc;hn.lt
theorem Inv.sz(I:Inv X pins σ H s):X.s₀.heap.objs.size<=s.heap.objs.size:=Qd I.ok.above (Nat.le_of_lt I.lt)
theorem Inv.nofs(I:Inv X pins σ H s){a:Addr}(h:s.heap.objs.size<=a):a∉X.fs:=fun hb=>by
 obtain⟨_,o,ho,_⟩:=I.ok.funs.mem hb;exact absurd (Qy (QR ho) (Qd I.sz h)) (Nat.lt_irrefl _)
theorem Inv.cne(I:Inv X pins σ H s):∀x c,X.env.cells.lookup x=some c->c≠X.env.locals:=fun x c e z=>by
 obtain⟨v,o,ho,hd⟩:=I.cell x c e;obtain⟨m,⟨o',es,ep,ho',hd',_⟩,_⟩:=I.loc;rw[z,ho']at ho;cases ho;rw[hd']at hd;cases hd
theorem Inv.funs(I:Inv X pins σ H s):s.heap.FunFrames X.base X.outer:=by
 have all:∀(l:List Env),(∀b∈frs l,b∈X.fs)->X.s₀.heap.FunFrames X.base l->s.heap.FunFrames X.base l:=by
  intro l;induction l with
  |nil=>intro _ _;trivial
  |cons env r ih=>
   intro hs hl;obtain⟨hk,⟨L,o,hf,hn,ho,hd⟩,hr⟩:=hl;have hL:L∈X.fs:=hs L (by unfold frs;rw[List.filterMap_cons,hf];exact Qx);obtain⟨sl,e⟩:=I.base.slot L o ho (I.ok.frf L hL) hL fun z=>I.ok.exfs L z hL;exact⟨hk,⟨L,_,hf,hn,e,hd⟩,ih (fun b hb=>hs b (by unfold frs;rw[List.filterMap_cons,hf];exact Qq _ hb)) hr⟩
 exact all X.outer (fun _ hb=>hb) I.ok.funs
theorem Inv.stack(I:Inv X pins σ H s):s.heap.FunFrames X.base X.stack:=by
 rcases I.ok.stk with e|⟨e,hf⟩
 ·rw[e];exact I.funs
 ·rw[e];obtain⟨m,hn,_⟩:=I.loc;refine .cons (by rw[I.ok.kind];decide) hf hn ?_ I.funs;exact Heap.get?_none_of_le (Qd I.ok.bsz I.ok.above)
theorem Inv.stkSub(I:Inv X pins σ H s):∀b∈frs X.stack,b∈X.env.locals::X.fs:=fun b hb=>by
 rcases I.ok.stk with e|⟨e,hf⟩
 ·rw[e]at hb;exact Qq _ hb
 ·rw[e]at hb;unfold frs at hb;rw[List.filterMap_cons,hf]at hb;exact hb
theorem Inv.stkFree(I:Inv X pins σ H s):∀b∈frs X.stack,H b=none:=fun b hb=>by
 rcases QD.mp (I.stkSub b hb)with e|hb
 ·rw[e];exact I.free
 ·obtain⟨_,o,ho,_⟩:=I.ok.funs.mem hb;exact I.base.free b o ho (I.ok.frf b hb) fun z=>I.ok.exfs b z hb
theorem Inv.step{g':Array GenState}{t':Nat}{d':Drawn}{ch:List Addr}(I:Inv X pins σ H s)
  (hch:∀b∈ch,(b∈X.ex\/X.s₀.heap.objs.size<=b)/\b≠X.env.locals/\(∀x c,X.env.cells.lookup x=some c->c≠b)/\∀p∈X.pn++pins,p.1≠b)
  (keep:∀b o,b≠X.env.locals->b∉X.fs->b∉ch->s.heap.get? b=some o->H b=none->h'.get? b=some o)
  (slot:∀b o,b≠X.env.locals->b∈X.fs->b∉ch->s.heap.get? b=some o->H b=none->∃sl,h'.get? b=some { o with slots:=sl }) (free:∀b o,b∉ch->s.heap.get? b=some o->H b=none->H' b=none)
  (there:∀b o,b∉ch->s.heap.get? b=some o->∃o',h'.get? b=some o')
  (tups:∀b xs,H b=some (.tup xs)->H' b=some (.tup xs)) (frzs:∀b o u,H b=some (.frz o u)->H' b=some (.frz o u)) (tbls:∀b ps,H b=some (.tbl ps)->∃more,H' b=some (.tbl (ps++more)))
  (ns:∀m,s.heap.Ns X.env.locals m->h'.Ns X.env.locals m) (hok:HOk X.prog X.w H' h') (hg:AllBare g') :
  Inv X pins σ H' { s with heap:=h',gens:=g',drawn:=d',toks:=t' }:=by
 have neL:∀b o,X.s₀.heap.get? b=some o->b≠X.env.locals:=fun b o e=>QL (Qy (QR e) I.ok.above);have neC:∀b o,X.s₀.heap.get? b=some o->b∉X.ex->b∉ch:=fun b o e hx hb=>by
  rcases(hch b hb).1 with z|z
  ·exact hx z
  ·exact absurd (Qy (QR e) z) (Nat.lt_irrefl _)
 have cellK:∀x c,X.env.cells.lookup x=some c->∀v,s.heap.IsCell c v->h'.IsCell c v:=fun x c e v ⟨o,ho,hd⟩=>by
  have nch:c∉ch:=fun z=>(hch c z).2.2.1 x c e rfl;by_cases hc:c∈X.fs
  ·obtain⟨sl,q⟩:=slot c o (I.cne x c e) hc nch ho (I.freeC x c e);exact⟨_,q,hd⟩
  ·exact⟨o,keep c o (I.cne x c e) hc nch ho (I.freeC x c e),hd⟩
 refine⟨I.ok,I.os,hg,⟨fun b o e n hb hx=>?_,fun b o e n hb hx=>?_,fun b o e n hx=>?_,fun b o e hx=>?_,fun b xs e=>tups b xs (I.base.tups b xs e),fun b o xs e=>frzs b o xs (I.base.frzs b o xs e),fun b ps e=>?_⟩,?_,fun x c e=>?_,?_,fun x c e=>?_,fun p hp=>?_,hok,I.len⟩
 ·exact keep b o (neL b o e) hb (neC b o e hx) (I.base.keep b o e n hb hx) (I.base.free b o e n hx)
 ·obtain⟨sl,e1⟩:=I.base.slot b o e n hb hx;obtain⟨sl',e2⟩:=slot b _ (neL b o e) hb (neC b o e hx) e1 (I.base.free b o e n hx);exact⟨sl',e2⟩
 ·obtain⟨o',e1⟩:=I.base.there b o e hx;exact free b o' (neC b o e hx) e1 (I.base.free b o e n hx)
 ·obtain⟨o',e1⟩:=I.base.there b o e hx;exact there b o' (neC b o e hx) e1
 ·obtain⟨m1,e1⟩:=I.base.tbls b ps e;obtain⟨m2,e2⟩:=tbls b _ e1;exact⟨m1++m2,by rw[e2,Array.append_assoc]⟩
 ·obtain⟨m,hn,hl⟩:=I.loc;refine⟨m,ns m hn,fun i x v e1 e2 e3=>?_⟩;obtain⟨u,r,l⟩:=hl i x v e1 e2 e3;refine⟨u,r,?_⟩;rcases l with l|⟨k,c,e,z⟩
  ·exact .inl l
  ·exact .inr ⟨k,c,e,cellK x c e _ z⟩
 ·obtain⟨v,z⟩:=I.cell x c e;exact⟨v,cellK x c e v z⟩
 ·obtain⟨m,⟨o,_,_,ho,_⟩,_⟩:=I.loc;exact free _ o (fun z=>(hch _ z).2.1 rfl) ho I.free
 ·obtain⟨v,o,ho,hd⟩:=I.cell x c e;exact free c o (fun z=>(hch c z).2.2.1 x c e rfl) ho (I.freeC x c e)
 ·obtain⟨e,n,ne,nf,d⟩:=I.pin p hp;have nch:p.1∉ch:=fun z=>(hch p.1 z).2.2.2 p hp rfl;exact⟨keep p.1 p.2 ne nf nch e n,free p.1 p.2 nch e n,ne,nf,d⟩
theorem Inv.un{t':Nat}(I:Inv X pins σ H s)(u:Un X.fs [] H H' s.heap h')(hok:HOk X.prog X.w H' h'):Inv X pins σ H' { s with heap:=h',toks:=t' }:=by
 obtain⟨m,⟨o,es,ep,ho,r⟩,_⟩:=id I.loc;obtain⟨sl,hL⟩:=u.any ho I.free (by simp);exact I.step (g':=s.gens) (d':=s.drawn) (ch:=[]) (fun _ z=>nomatch z) (fun b o _ hb _ e n=>u.keep b o e n hb (by simp)) (fun b o _ hb _ e n=>u.slot b o e n hb (by simp)) (fun b o _ e n=>u.free b o e n (by simp)) (fun b o _ e=>u.there b o e (by simp)) u.tups u.frzs u.tbls (fun m' hm=>by
  obtain⟨o',es',ep',ho',r'⟩:=hm;rw[ho]at ho';cases ho';exact⟨_,es',ep',hL,r'⟩) hok I.bare
theorem Inv.call{g':Array GenState}{t':Nat}{d':Drawn}{ch:List Addr}(I:Inv X pins σ H s)(u:Un (frs X.stack) ch H H' s.heap h')(hok:HOk X.prog X.w H' h')(hg:AllBare g')
  (hch:∀b∈ch,(b∈X.ex\/X.s₀.heap.objs.size<=b)/\b≠X.env.locals/\(∀x c,X.env.cells.lookup x=some c->c≠b)/\∀p∈X.pn++pins,p.1≠b) :
  Inv X pins σ H' { s with heap:=h',gens:=g',drawn:=d',toks:=t' }:=by
 obtain⟨m,⟨o,es,ep,ho,r⟩,_⟩:=id I.loc;obtain⟨sl,hL⟩:=u.any ho I.free fun z=>(hch _ z).2.1 rfl;exact I.step (ch:=ch) hch (fun b o hL hb hc e n=>u.keep b o e n (fun z=>(QD.mp (I.stkSub b z)).elim hL hb) hc) (fun b o _ _ hc e n=>u.any e n hc) (fun b o hc e n=>u.free b o e n hc) (fun b o hc e=>u.there b o e hc) u.tups u.frzs u.tbls (fun m' hm=>by
  obtain⟨o',es',ep',ho',r'⟩:=hm;rw[ho]at ho';cases ho';exact⟨_,es',ep',hL,r'⟩) hok hg
theorem Inv.turned{t':Nat}{it:Addr}(I:Inv X pins σ H s)(k:∀b o,b≠it->s.heap.get? b=some o->h'.get? b=some o)(hn:H it=none)(hL:it≠X.env.locals)
  (h1:it∈X.ex\/X.s₀.heap.objs.size<=it) (h2:∀x c,X.env.cells.lookup x=some c->c≠it) (h3:∀p∈X.pn++pins,p.1≠it):Inv X pins σ H { s with heap:=h',toks:=t' }:=by
 have nit:∀b u,H b=some u->b≠it:=fun b u e z=>by rw[z,hn]at e;cases e
 refine I.step (g':=s.gens) (d':=s.drawn) (ch:=[it]) (fun b hb=>?_) (fun b o _ _ hc e _=>k b o (fun z=>hc (by simp[z])) e) (fun b o _ _ hc e _=>⟨o.slots,k b o (fun z=>hc (by simp[z])) e⟩) (fun _ _ _ _ n=>n)
  (fun b o hc e=>⟨o,k b o (fun z=>hc (by simp[z])) e⟩) (fun _ _ e=>e) (fun _ _ _ e=>e) (fun b ps e=>⟨#[],by rw[e];simp⟩) (fun m hm=>?_) (fun b u e=>?_) I.bare
 ·have e:b=it:=by simpa using hb
  subst e;exact⟨h1,hL,h2,h3⟩
 ·obtain⟨o,es,ep,ho,r⟩:=hm;exact⟨o,es,ep,k _ o (Ne.symm hL) ho,r⟩
 ·refine(I.hok b u e).stay (fun c v hc q=>k c v ?_ q) (fun _ q=>q) fun _ _ q=>q;rcases hc with z|z
  ·rw[z];exact nit b u e
  ·exact nit c _ z
theorem Inv.tok(I:Inv X pins σ H s)(t:Nat):Inv X pins σ H { s with toks:=t }:=I.un (h':=s.heap) (t':=t) Un.refl I.hok
theorem Inv.kept{t':Nat}(I:Inv X pins σ H s)(k:∀b u,s.heap.get? b=some u->h'.get? b=some u):Inv X pins σ H { s with heap:=h',toks:=t' }:=I.un (Un.kept k) (I.hok.kept k)
theorem Inv.laid{a:Addr}{o:HO}{t':Nat}(I:Inv X pins σ H s)(k:∀b u,s.heap.get? b=some u->h'.get? b=some u)(hp:s.heap.objs.size<=a)(new:bU X.prog X.w (upd H a o) h' a o) :
  Inv X pins σ (upd H a o) { s with heap:=h',toks:=t' }:=I.un (Un.laid k hp (I.hok.fresh hp)) (I.hok.laid k hp new)
theorem Inv.write{x e:Addr}{o:HO}{t':Nat}(I:Inv X pins σ H s)(mu:Mut (H x))(he:e=x\/H e=some (.own x))(k:∀b u,b≠e->s.heap.get? b=some u->h'.get? b=some u)(heo:∃u,h'.get? e=some u)
  (new:bU X.prog X.w (upd H x o) h' x o):Inv X pins σ (upd H x o) { s with heap:=h',toks:=t' }:=I.un (Un.write mu he k heo) (I.hok.write mu he k heo new)
theorem Inv.pins_of{pins':List (Addr×Obj)}(I:Inv X pins σ H s)(h:∀p∈pins',s.heap.get? p.1=some p.2/\H p.1=none/\p.1≠X.env.locals/\p.1∉X.fs/\∀v,p.2.data≠.cell v):Inv X pins' σ H s:=
 ⟨I.ok,I.os,I.bare,I.base,I.loc,I.cell,I.free,I.freeC,fun p hp=>(Qg.mp hp).elim (fun z=>I.pin p (Qt _ z)) (h p),I.hok,I.len⟩
theorem sk{N:List Str}(hN:N.Nodup){i j:Nat}{x:Str}(a:N[i]?=some x)(b:N[j]?=some x):i=j:=by
 obtain⟨h1,e1⟩:=Q5.mp a;obtain⟨h2,e2⟩:=Q5.mp b;exact(List.getElem_inj hN).mp (e1.trans e2.symm)
theorem kQ{M:Model}{A:Around}{E:Value->Shared->Prop}{i:Nat}{x:Str}{v:V}{u:Value}{Q:Unit->Shared->Prop}(I:Inv X pins σ H s)(hN:X.N.Nodup)(hi:X.N[i]?=some x)(hx:Loc X.env.scope x)(r:bV v u)
  (h:∀s',Inv X pins (σ.set i (some v)) H s'->(∃a,ZH a s.heap s'.heap/\(a=X.env.locals\/X.env.cells.lookup x=some a))->Q () s') (hf:X.fn x=true\/X.env.scope.names.lookup x=some .local:=by first|exact .inl rfl|exact .inr rfl|assumption):wpAny M A (storeName X.env x u) Q E s:=by
 obtain⟨m,hn,hl⟩:=id I.loc;have hcls:(X.env.scope.kind == .class||(X.env.scope.kind == .module&&X.env.locals !=X.env.globals))=false:=by rw[I.ok.kind];rfl
 have hiσ:i < σ.length:=by rw[I.len];exact(Q5.mp hi).1
 have cne:=I.cne;have tracked:∀{a:Addr} {h':Heap},(∃o,s.heap.get? a=some o/\H a=none)->ZH a s.heap h'->HOk X.prog X.w H h':=fun{a h'} ha hs b ob e=>by
  obtain⟨_,_,hfree⟩:=ha;refine(I.hok b ob e).stay (fun c w' hc q=>(hs.2 c ?_).trans q) (fun _ q=>q) fun _ _ q=>q;rintro rfl;rcases hc with rfl|hc
  ·rw[hfree]at e;cases e
  ·rw[hfree]at hc;cases hc
 rcases hx with hk|hk
 ·refine wpAny_storeName_local hk hn (fun h' hn' hs=>?_) hcls;obtain⟨oL,_,_,hoL,_⟩:=id hn;refine h _ ⟨I.ok,I.os,I.bare,⟨fun b o e n hb hx=>?_,fun b o e n hb hx=>?_,I.base.free,fun b o e hx=>?_,I.base.tups,I.base.frzs,I.base.tbls⟩,⟨_,hn',fun j y v' e1 e2 e3=>?_⟩,fun y c e=>?_,I.free,I.freeC,fun p hp=>?_,tracked ⟨oL,hoL,I.free⟩ hs,by simpa using I.len⟩ ⟨_,hs,.inl rfl⟩
  ·exact(hs.2 b (QL (Qy (QR e) I.ok.above))).trans (I.base.keep b o e n hb hx)
  ·obtain⟨sl,e1⟩:=I.base.slot b o e n hb hx;exact⟨sl,(hs.2 b (QL (Qy (QR e) I.ok.above))).trans e1⟩
  ·obtain⟨o',e1⟩:=I.base.there b o e hx;exact⟨o',(hs.2 b (QL (Qy (QR e) I.ok.above))).trans e1⟩
  ·by_cases hj:j=i
   ·subst hj;rw[hi]at e1;cases e1;rw[ZG hiσ]at e2;cases e2;exact⟨u,r,.inl ⟨hk,by simp⟩⟩
   ·rw[Qu (Ne.symm hj)]at e2;obtain⟨u',r',q⟩:=hl j y v' e1 e2 e3;refine⟨u',r',?_⟩;rcases q with⟨k,e⟩|⟨k,c,e,z⟩
    ·refine .inl ⟨k,?_⟩;have:y≠x:=fun e=>hj (sk hN e1 (e▸hi));simp[this,e]
    ·exact .inr ⟨k,c,e,z.sameBut hs (cne y c e)⟩
  ·obtain⟨w',z⟩:=I.cell y c e;exact⟨w',z.sameBut hs (cne y c e)⟩
  ·obtain⟨e,n,ne,nf,d⟩:=I.pin p hp;exact⟨(hs.2 p.1 ne).trans e,n,ne,nf,d⟩
 ·have hfn:X.fn x=true:=by
   rcases hf with z|z
   ·exact z
   ·rw[z]at hk;cases hk
  obtain⟨c,hc⟩:=I.ok.has x (.inl hk);obtain⟨w',z⟩:=I.cell x c hc;refine wpAny_storeName_cell I.ok.kind hk hc z (fun h' hc' hs=>?_);obtain⟨oc,hoc,hocd⟩:=id z;refine h { s with heap:=h' } ⟨I.ok,I.os,I.bare,⟨fun b o e n hb hx=>?_,fun b o e n hb hx=>?_,I.base.free,fun b o e hx=>?_,I.base.tups,I.base.frzs,I.base.tbls⟩,⟨m,hn.sameBut hs (Ne.symm (cne x c hc)),fun j y v' e1 e2 e3=>?_⟩,fun y c' e=>?_,I.free,I.freeC,fun p hp=>?_,tracked ⟨oc,hoc,I.freeC x c hc⟩ hs,by simpa using I.len⟩ ⟨c,hs,.inr hc⟩
  ·exact(hs.2 b (QL (Qy (QR e) (I.ok.cab x c hfn hc)))).trans (I.base.keep b o e n hb hx)
  ·obtain⟨sl,e1⟩:=I.base.slot b o e n hb hx;exact⟨sl,(hs.2 b (QL (Qy (QR e) (I.ok.cab x c hfn hc)))).trans e1⟩
  ·obtain⟨o',e1⟩:=I.base.there b o e hx;exact⟨o',(hs.2 b (QL (Qy (QR e) (I.ok.cab x c hfn hc)))).trans e1⟩
  ·by_cases hj:j=i
   ·subst hj;rw[hi]at e1;cases e1;rw[ZG hiσ]at e2;cases e2;exact⟨u,r,.inr ⟨.inl hk,c,hc,hc'⟩⟩
   ·rw[Qu (Ne.symm hj)]at e2;obtain⟨u',r',q⟩:=hl j y v' e1 e2 e3;refine⟨u',r',?_⟩;rcases q with q|⟨k,c',e,z'⟩
    ·exact .inl q
    ·refine .inr ⟨k,c',e,z'.sameBut hs ?_⟩;rintro rfl;exact hj (sk hN e1 (I.ok.inj _ _ _ e hc▸hi))
  ·by_cases hcc:c'=c
   ·subst hcc;exact⟨_,hc'⟩
   ·obtain⟨w2,z2⟩:=I.cell y c' e;exact⟨w2,z2.sameBut hs hcc⟩
  ·obtain⟨e,n,ne,nf,d⟩:=I.pin p hp;refine⟨(hs.2 p.1 ?_).trans e,n,ne,nf,d⟩;intro q;rw[q,hoc]at e;have q':oc=p.2:=Option.some.inj e;exact d w' (by rw[<-q'];exact hocd)
theorem rO{M:Model}{A:Around}{E:Value->Shared->Prop}{i:Nat}{x:Str}{v:V}{u:Value}{Q:Unit->Shared->Prop}(I:Inv X pins σ H s)(hN:X.N.Nodup)(hi:X.N[i]?=some x)(hx:Loc X.env.scope x)(r:bV v u)
  (h:∀s',Inv X pins (σ.set i (some v)) H s'->Q () s') (hf:X.fn x=true\/X.env.scope.names.lookup x=some .local:=by first|exact .inl rfl|exact .inr rfl|assumption):wpAny M A (storeName X.env x u) Q E s:=
 kQ I hN hi hx r (fun s' I' _=>h s' I') hf
theorem Inv.call'{s':Shared}{ch:List Addr}(I:Inv X pins σ H s)(ho:s'.os=s.os)(u:Un (frs X.stack) ch H H' s.heap s'.heap)(hok:HOk X.prog X.w H' s'.heap)(hg:AllBare s'.gens)
  (hch:∀b∈ch,(b∈X.ex\/X.s₀.heap.objs.size<=b)/\b≠X.env.locals/\(∀x c,X.env.cells.lookup x=some c->c≠b)/\∀p∈X.pn++pins,p.1≠b):Inv X pins σ H' s':=by
 obtain⟨h',g',d',t',o'⟩:=s';have e:o'=s.os:=ho;subst e;exact I.call (g':=g') (t':=t') (d':=d') u hok hg hch
end
abbrev XK:=Value->Option Addr->Hp->Prop
abbrev St:=List (Option V)
abbrev VK:=V->Hp->Prop
abbrev TE:=St->Hp->VK->Prop
abbrev TT:=St->Hp->(Bool->Hp->Prop)->Prop
abbrev TA:=St->Hp->(List V->Hp->Prop)->Prop
structure yI where
 nx:St->Hp->Prop
 rt:VK
 bk:St->Hp->Prop:=fun _ _=>False
 ct:St->Hp->Prop:=fun _ _=>False
abbrev TS:=yI->St->Hp->Prop
def EP(X:Cx)(pins:List (Addr×Obj))(σ:St)(Q:VK)(u:Value)(s':Shared):Prop:=∃v H',Inv X pins σ H' s'/\bV v u/\Q v H'
def TP(X:Cx)(pins:List (Addr×Obj))(σ:St)(Q:Bool->Hp->Prop)(b:Bool)(s':Shared):Prop:=∃H',Inv X pins σ H' s'/\Q b H'
def AP(X:Cx)(pins:List (Addr×Obj))(σ:St)(Q:List V->Hp->Prop)(us:List Value)(s':Shared):Prop:=∃vs H',Inv X pins σ H' s'/\bP vs us/\Q vs H'
def SP(X:Cx)(pins:List (Addr×Obj))(D:yI)(f:Flow)(s':Shared):Prop:=
 match f with
 |.next=>∃σ' H',Inv X pins σ' H' s'/\D.nx σ' H'
 |.brk=>∃σ' H',Inv X pins σ' H' s'/\D.bk σ' H'
 |.cont=>∃σ' H',Inv X pins σ' H' s'/\D.ct σ' H'
 |.ret u=>∃v σ' H',Inv X pins σ' H' s'/\bV v u/\D.rt v H'
def PE(X:Cx)(e:Expr)(t:TE):Prop:=
 ∀(pins:List (Addr×Obj)) (s:Shared) (σ:St) (H:Hp) (Q:VK),Inv X pins σ H s->t σ H Q->wpAny (model X.prog X.w) X.A (eval e X.env) (EP X pins σ Q) X.xe s
def PT(X:Cx)(e:Expr)(t:TT):Prop:=
 ∀(pins:List (Addr×Obj)) (s:Shared) (σ:St) (H:Hp) (Q:Bool->Hp->Prop),Inv X pins σ H s->t σ H Q->wpAny (model X.prog X.w) X.A (isTrue e X.env (eval e X.env)) (TP X pins σ Q) X.xe s
def PW(X:Cx)(e:Expr)(t:TT):Prop:=
 ∀(whole:Sem Value) (pins:List (Addr×Obj)) (s:Shared) (σ:St) (H:Hp) (Q:Bool->Hp->Prop),Inv X pins σ H s->t σ H Q->wpAny (model X.prog X.w) X.A (isTrue e X.env whole) (TP X pins σ Q) X.xe s
theorem PW.pt{X:Cx}{e:Expr}{t:TT}(h:PW X e t):PT X e t:=h _
def PA(X:Cx)(es:List Expr)(t:TA):Prop:=
 ∀(pos:Pos) (pins:List (Addr×Obj)) (s:Shared) (σ:St) (H:Hp) (Q:List V->Hp->Prop),Inv X pins σ H s->t σ H Q->wpAny (model X.prog X.w) X.A (spliced (backTo pos (starEach es X.env))) (AP X pins σ Q) X.xe s
def PS(X:Cx)(st:Stmt)(t:TS):Prop:=
 ∀(pins:List (Addr×Obj)) (s:Shared) (σ:St) (H:Hp) (D:yI),Inv X pins σ H s->t D σ H->wpAny (model X.prog X.w) X.A (exec st X.env) (SP X pins D) X.xe s
def PSs(X:Cx)(st:List Stmt)(t:TS):Prop:=
 ∀(pins:List (Addr×Obj)) (s:Shared) (σ:St) (H:Hp) (D:yI),Inv X pins σ H s->t D σ H->wpAny (model X.prog X.w) X.A (execs st X.env) (SP X pins D) X.xe s
theorem thn{α:Type}{t:Sem α}{Q Q':α->Shared->Prop}{M:Model}{A:Around}{E:Value->Shared->Prop}{s:Shared}(h:wpAny M A t Q E s)(hQ:∀a s,Q a s->Q' a s):wpAny M A t Q' E s:=Z4 h hQ fun _ _ x=>x
section
variable{X:Cx}
def Iq(i:Nat):TE:=fun σ H Q=>∃v,σ[i]?=some (some v)/\Q v H
def tC(v:V):TE:=fun _ H Q=>Q v H
theorem Gq{i:Nat}{x:Str}{pos:Pos}(hN:X.N[i]?=some x)(hv:Vis X.env.scope x)(hd:(x == ("__debug__":Str))=false:=by decide)(hcd:(x == ("__classdict__":Str))=false:=by decide):PE X (.Name x pos) (Iq i):=by
 intro pins s σ H Q I h;obtain⟨v,e,h⟩:=h;obtain⟨m,hn,hl⟩:=I.loc;obtain⟨u,r,l⟩:=hl i x v hN e hv;have fin:EP X pins σ Q u s:=⟨v,H,I,r,h⟩;rcases l with⟨hk,hm⟩|⟨hk,c,hc,hcell⟩
 ·exact wpAny_Name (wpAny_loadName_local I.ok.kind hk hn hm fin) hd
 ·rcases hk with hk|hk
  ·exact wpAny_Name (wpAny_loadName_cell I.ok.kind hk hc hcell fin) hd
  ·exact wpAny_Name (wpAny_loadName_free I.ok.kind hk hc hcell fin hcd) hd
theorem Gy{i j pos}:PE X (.Constant (.int i) j pos) (tC (.int i)):=fun _ _ _ H _ I h=>wpAny_Constant_int ⟨.int i,H,I.tok _,⟨_,rfl⟩,h⟩
theorem Ki{b j pos}:PE X (.Constant (.bool b) j pos) (tC (.bl b)):=fun _ _ _ H _ I h=>Constant_bool ⟨.bl b,H,I,rfl,h⟩
theorem Gw{j pos}:PE X (.Constant .none j pos) (tC .non):=fun _ _ _ H _ I h=>Constant_none ⟨.non,H,I,rfl,h⟩
theorem Gs{x j pos}:PE X (.Constant (.str x) j pos) (tC (.str x)):=fun _ _ _ H _ I h=>Calls.Constant_str ⟨.str x,H,I.tok _,⟨_,rfl⟩,h⟩
def Gl(X:Cx)(x:Str):Prop:=X.env.kindOf x=some .globalImplicit
theorem nY{E:Value->Shared->Prop}{pins:List (Addr×Obj)}{s:Shared}{σ:St}{H:Hp}{x:Str}{u:Value}{pos:Pos}{Q:Value->Shared->Prop}(I:Inv X pins σ H s)(hg:Gl X x)(hm:X.mg x=some u)(h:Q u s)
  (hd:(x == ("__debug__":Str))=false:=by decide):wpAny (model X.prog X.w) X.A (eval (.Name x pos) X.env) Q E s:=
 Calls.Name_function_global I.ok.kind hg (Calls.loadGlobal_global (by rw[I.ok.glob];exact I.mod.glob.keeps I.bk) hm h) hd
theorem j9{E:Value->Shared->Prop}{pins:List (Addr×Obj)}{s:Shared}{σ:St}{H:Hp}{x:Str}{u:Value}{pos:Pos}{Q:Value->Shared->Prop}(I:Inv X pins σ H s)(hg:Gl X x)(hm:X.mg x=none)(hv:bootBuiltins x=some u)(h:Q u s)
  (hn:x≠"__name__":=by decide) (hd:(x == ("__debug__":Str))=false:=by decide):wpAny (model X.prog X.w) X.A (eval (.Name x pos) X.env) Q E s:=by
 obtain⟨mb,h1,h2⟩:=I.mod.blt;exact Calls.Name_function_global I.ok.kind hg (Calls.loadGlobal_builtin (by rw[I.ok.glob];exact I.mod.glob.keeps I.bk) hm (by rw[I.ok.blt];exact h1.keeps I.bk) ((h2 x hn).trans hv) h) hd
theorem CZ{x:Str}{v:V}{u:Value}{pos:Pos}(hg:Gl X x)(hm:X.mg x=some u)(r:bV v u)(hd:(x == ("__debug__":Str))=false:=by decide):PE X (.Name x pos) (tC v):=
 fun _ _ _ H _ I h=>nY I hg hm ⟨v,H,I,r,h⟩ hd
theorem C6{x:Str}{v:V}{u:Value}{pos:Pos}(hg:Gl X x)(hm:X.mg x=none)(hv:bootBuiltins x=some u)(r:bV v u)(hn:x≠"__name__":=by decide)(hd:(x == ("__debug__":Str))=false:=by decide):PE X (.Name x pos) (tC v):=
 fun _ _ _ H _ I h=>j9 I hg hm hv ⟨v,H,I,r,h⟩ hn hd
variable{a b:Expr}{ta tb:TE}{pos:Pos}
def PC(X:Cx)(op:CmpOp)(a b:Expr)(t:TE):Prop:=
 ∀(pins:List (Addr×Obj)) (s:Shared) (σ:St) (H:Hp) (Q:VK),Inv X pins σ H s->t σ H Q->
  wpAny (model X.prog X.w) X.A (eval a X.env) (fun v s₁=>wpAny (model X.prog X.w) X.A (eval b X.env) (fun u s₂=>wpAny (model X.prog X.w) X.A (compareOp op v u) (EP X pins σ Q) X.xe s₂) X.xe s₁) X.xe s
def tB(t:TE):TT:=fun σ H Q=>t σ H fun x H1=>∃c,x=.bl c/\Q c H1
theorem GB{op:CmpOp}{t:TE}(h:PC X op a b t)(h1:behindInMarks op b=false:=by first|exact nobehind _ (by decide) (by decide)|rfl):PE X (.Compare a [op] [b] pos) t:=fun pins s σ H Q I hw=>wpAny_Compare1 (h pins s σ H Q I hw) h1
theorem Gb{op:CmpOp}{t:TE}(h:PC X op a b t)(h1:behindInMarks op b=false:=by first|exact nobehind _ (by decide) (by decide)|rfl):PT X (.Compare a [op] [b] pos) (tB t):=by
 intro pins s σ H Q I hw;refine wpAny_isTrue_Compare1 (thn (h pins s σ H _ I hw) fun v s1 h1=>thn h1 fun u s2 h2=>thn h2 fun c s3 hz=>?_) h1;obtain⟨x,H1,I1,r1,q1⟩:=hz;obtain⟨d,rfl,q⟩:=q1;cases r1;exact wpAny_truthy_bool ⟨H1,I1,q⟩
theorem F9{e:Expr}{t:TE}(h:PE X e t)(he:∀whole,isTrue e X.env whole=(do let v <-whole;standAt e.pos;holding [v] (truthy v)):=by intro _;rfl):PT X e (tB t):=by
 intro pins s σ H Q I hw;refine isTrue_plain (thn (h pins s σ H _ I hw) fun v s1 ⟨x,H1,I1,r1,q1⟩=>?_) (he _);obtain⟨d,rfl,q⟩:=q1;cases r1;exact wpAny_truthy_bool ⟨H1,I1,q⟩
variable{tA tB':TT}{rest:List Expr}
def Lp(t u:TT):TT:=fun σ H Q=>t σ H fun c H1=>if c=true then u σ H1 Q else Q false H1
def tOr(t u:TT):TT:=fun σ H Q=>t σ H fun c H1=>if c=true then Q true H1 else u σ H1 Q
def Lk(t:TT):TT:=fun σ H Q=>t σ H fun c H1=>Q (!c) H1
theorem CC(ha:PT X a tA):PW X (.BoolOp .And [a] pos) tA:=by
 intro wh pins s σ H Q I h;refine isTrue_and (thn (ha pins s σ H Q I h) fun c s1 e=>?_);cases c with
 |true=>exact isTrue_and_nil e
 |false=>exact e
theorem F6(ha:PT X a tA):PW X (.BoolOp .Or [a] pos) tA:=by
 intro wh pins s σ H Q I h;refine isTrue_or (thn (ha pins s σ H Q I h) fun c s1 e=>?_);cases c with
 |false=>exact isTrue_or_nil e
 |true=>exact e
theorem F7(ha:PT X a tA)(hb:PW X (.BoolOp .And (b::rest) pos) tB'):PW X (.BoolOp .And (a::b::rest) pos) (Lp tA tB'):=by
 intro wh pins s σ H Q I h;refine isTrue_and (thn (ha pins s σ H _ I h) fun c s1 ⟨H1,I1,q1⟩=>?_);cases c with
 |true=>exact hb wh pins s1 σ H1 Q I1 q1
 |false=>exact⟨H1,I1,q1⟩
theorem Ka(ha:PT X a tA)(hb:PW X (.BoolOp .Or (b::rest) pos) tB'):PW X (.BoolOp .Or (a::b::rest) pos) (tOr tA tB'):=by
 intro wh pins s σ H Q I h;refine isTrue_or (thn (ha pins s σ H _ I h) fun c s1 ⟨H1,I1,q1⟩=>?_);cases c with
 |true=>exact⟨H1,I1,q1⟩
 |false=>exact hb wh pins s1 σ H1 Q I1 q1
theorem Ga(ha:PT X a tA):PT X (.UnaryOp .Not a pos) (Lk tA):=by
 intro pins s σ H Q I h;exact isTrue_not (ha pins s σ H (fun c H1=>Q (!c) H1) I h)
def FN(ta tb:TE):TE:=fun σ H Q=>ta σ H fun x H1=>∃c,x=.bl c/\if c=true then tb σ H1 Q else Q (.bl false) H1
def Lj(ta tb:TE):TE:=fun σ H Q=>ta σ H fun x H1=>∃c,x=.bl c/\if c=true then Q (.bl true) H1 else tb σ H1 Q
def FE(ta:TE):TE:=fun σ H Q=>ta σ H fun x H1=>∃c,x=.bl c/\Q (.bl (!c)) H1
theorem Gu{op}{t:TE}(h:PE X a t):PE X (.BoolOp op [a] pos) t:=fun pins s σ H Q I hw=>BoolOp_one (h pins s σ H Q I hw)
theorem GD(ha:PE X a ta)(hb:PE X (.BoolOp .And (b::rest) pos) tb):PE X (.BoolOp .And (a::b::rest) pos) (FN ta tb):=by
 intro pins s σ H Q I h;refine BoolOp_and (thn (ha pins s σ H _ I h) fun v s1 hz=>?_);obtain⟨x,H1,I1,r1,q1⟩:=hz;obtain⟨c,rfl,q1⟩:=q1;cases r1;refine wpAny_truthy_bool ?_;cases c with
 |true=>exact hb pins s1 σ H1 Q I1 q1
 |false=>exact⟨.bl false,H1,I1,rfl,q1⟩
theorem Ke(ha:PE X a ta)(hb:PE X (.BoolOp .Or (b::rest) pos) tb):PE X (.BoolOp .Or (a::b::rest) pos) (Lj ta tb):=by
 intro pins s σ H Q I h;refine BoolOp_or (thn (ha pins s σ H _ I h) fun v s1 hz=>?_);obtain⟨x,H1,I1,r1,q1⟩:=hz;obtain⟨c,rfl,q1⟩:=q1;cases r1;refine wpAny_truthy_bool ?_;cases c with
 |false=>exact hb pins s1 σ H1 Q I1 q1
 |true=>exact⟨.bl true,H1,I1,rfl,q1⟩
theorem Gv(ha:PE X a ta):PE X (.UnaryOp .Not a pos) (FE ta):=by
 intro pins s σ H Q I h;refine UnaryOp_ (thn (ha pins s σ H _ I h) fun v s1 hz=>?_);obtain⟨x,H1,I1,r1,q1⟩:=hz;obtain⟨c,rfl,q1⟩:=q1;cases r1;exact not_of (wpAny_truthy_bool ⟨.bl (!c),H1,I1,rfl,q1⟩)
end
def SqL(K:Q1)(H:Hp)(a:Addr)(xs:List V):Prop:=
 Rd H a (.lst xs)\/
  ∃(o:Obj) (its:Array Value) (n:Nat),K.lookup a=some o/\o.cls=.type "list"/\o.dict=none/\o.data=.seq its n/\its.size<=sizeLine/\bP xs its.toList
def SqT(K:Q1)(H:Hp)(a:Addr)(xs:List V):Prop:=
 Rd H a (.tup xs)\/
  ∃(o:Obj) (its:Array Value) (n:Nat),K.lookup a=some o/\o.cls=.type "tuple"/\o.data=.seq its n/\its.size<=sizeLine/\bP xs its.toList
def Mz:Value->Option V
 |.none=>some .non
 |.bool b=>some (.bl b)
 |.int i _=>some (.int i)
 |.str x _=>some (.str x)
 |.bytes b _=>some (.byt b)
 |.float b _=>some (.flt b)
 |.ref a=>some (.ref a)
 |.type n=>some (.ty n)
 |_=>none
theorem bV.abs{x:V}{u:Value}(r:bV x u):Mz u=some x:=by
 cases x with
 |non=>cases r;rfl
 |bl _=>cases r;rfl
 |int _=>obtain⟨t,rfl⟩:=r;rfl
 |str _=>obtain⟨t,rfl⟩:=r;rfl
 |byt _=>obtain⟨t,rfl⟩:=r;rfl
 |flt _=>obtain⟨t,rfl⟩:=r;rfl
 |ref _=>cases r;rfl
 |ty _=>cases r;rfl
theorem bV.inj{x y:V}{u:Value}(r:bV x u)(q:bV y u):x=y:=Option.some.inj (r.abs.symm.trans q.abs)
theorem bP.inj:∀{xs ys:List V} {us:List Value},bP xs us->bP ys us->xs=ys
 |_,_,_,.nil,.nil=>rfl
 |_,_,_,.cons r t,.cons r' t'=>by rw[r.inj r',bP.inj t t']
section
variable{X:Cx}{pins:List (Addr×Obj)}{σ:St}{H:Hp}{s:Shared}{a:Addr}{xs ys:List V}
theorem SqL.of{K:Q1}(h:H a=some (.lst xs)):SqL K H a xs:=.inl (.inl h)
theorem SqT.of{K:Q1}(h:H a=some (.tup xs)):SqT K H a xs:=.inl (.inl h)
theorem Inv.list(I:Inv X pins σ H s)(h:SqL X.K H a xs):∃its:List Value,bP xs its/\PlainL s.heap a its.toArray/\xs.length<=sizeLine:=by
 rcases h with h|⟨o,its,n,hk,hc,hd,hs,hz,r⟩
 ·obtain⟨z,its,n,r,e⟩:=h.ok I.hok;exact⟨its,r,⟨_,n,e,rfl,rfl,rfl⟩,z⟩
 ·refine⟨its.toList,r,⟨o,n,I.kIn a o hk,hc,hd,by simpa using hs⟩,?_⟩;have e:=r.length;simp only[ZK]at e;omega
theorem Inv.tuple(I:Inv X pins σ H s)(h:SqT X.K H a xs):∃its:List Value,bP xs its/\IsTup s.heap a its.toArray/\xs.length<=sizeLine:=by
 rcases h with h|⟨o,its,n,hk,hc,hs,hz,r⟩
 ·obtain⟨z,its,r,p⟩:=h.ok I.hok;exact⟨its,r,p,z⟩
 ·refine⟨its.toList,r,⟨o,I.kIn a o hk,hc,n,by simpa using hs⟩,?_⟩;have e:=r.length;simp only[ZK]at e;omega
theorem Inv.list_inj(I:Inv X pins σ H s)(h:SqL X.K H a xs)(h':SqL X.K H a ys):xs=ys:=by
 obtain⟨its,r,⟨o,n,e,_,_,d⟩,_⟩:=I.list h;obtain⟨its',r',⟨o',n',e',_,_,d'⟩,_⟩:=I.list h';rw[e]at e';cases e';rw[d]at d';injection d' with d1 _;have:its=its':=by simpa using congrArg Array.toList d1
 subst this;exact r.inj r'
theorem Inv.tuple_inj(I:Inv X pins σ H s)(h:SqT X.K H a xs)(h':SqT X.K H a ys):xs=ys:=by
 obtain⟨its,r,⟨o,e,_,n,d⟩,_⟩:=I.tuple h;obtain⟨its',r',⟨o',e',_,n',d'⟩,_⟩:=I.tuple h';rw[e]at e';cases e';rw[d]at d';injection d' with d1 _;have:its=its':=by simpa using congrArg Array.toList d1
 subst this;exact r.inj r'
end
abbrev Cx.wish(X:Cx)(E:Value->Shared->Prop):Cx:={ X with xe:=E }
abbrev Cx.nox(X:Cx):Cx:=X.wish fun _ _=>False
theorem Cx.Ok.wish{X:Cx}(ok:X.Ok)(E:Value->Shared->Prop):(X.wish E).Ok:=
 ⟨ok.mod,ok.kind,ok.glob,ok.blt,ok.above,ok.inj,ok.has,ok.cab,ok.hd,ok.frames,ok.stk,ok.exf,ok.bs,ok.bsz,ok.noex,ok.exfs,ok.funs,ok.frf⟩
theorem Cx.Ok.unwish{X:Cx}{E:Value->Shared->Prop}(ok:(X.wish E).Ok):X.Ok:=
 ⟨ok.mod,ok.kind,ok.glob,ok.blt,ok.above,ok.inj,ok.has,ok.cab,ok.hd,ok.frames,ok.stk,ok.exf,ok.bs,ok.bsz,ok.noex,ok.exfs,ok.funs,ok.frf⟩
section
variable{X:Cx}{pins:List (Addr×Obj)}{σ:St}{H:Hp}{s:Shared}{E:Value->Shared->Prop}
theorem Inv.wish(I:Inv X pins σ H s)(E:Value->Shared->Prop):Inv (X.wish E) pins σ H s:=⟨I.ok.wish E,I.os,I.bare,I.base,I.loc,I.cell,I.free,I.freeC,I.pin,I.hok,I.len⟩
theorem Inv.unwish(I:Inv (X.wish E) pins σ H s):Inv X pins σ H s:=⟨I.ok.unwish,I.os,I.bare,I.base,I.loc,I.cell,I.free,I.freeC,I.pin,I.hok,I.len⟩
theorem SP.unwish{D:yI}{f:Flow}{s':Shared}(h:SP (X.wish E) pins D f s'):SP X pins D f s':=by
 cases f with
 |next=>obtain⟨σ',H',I,q⟩:=h;exact⟨σ',H',I.unwish,q⟩
 |brk=>obtain⟨σ',H',I,q⟩:=h;exact⟨σ',H',I.unwish,q⟩
 |cont=>obtain⟨σ',H',I,q⟩:=h;exact⟨σ',H',I.unwish,q⟩
 |ret u=>obtain⟨v,σ',H',I,r,q⟩:=h;exact⟨v,σ',H',I.unwish,r,q⟩
theorem PSs.nox{st:List Stmt}{t:TS}(h:PSs X.nox st t):PSs X st t:=fun pins s σ H D I hw=>
 Z4 (h pins s σ H D (I.wish _) hw) (fun _ _ q=>q.unwish) fun _ _ z=>False.elim z
end
section
variable{X:Cx}{st:Stmt}{rest:List Stmt}{t u:TS}{e:Expr}{te:TE}{pos:Pos}
def FG:TS:=fun D σ H=>D.nx σ H
def Ei(t u:TS):TS:=fun D σ H=>t { D with nx:=u D } σ H
theorem CJ:PSs X [] FG:=fun _ _ σ H _ I h=>wpAny_execs_nil ⟨σ,H,I,h⟩
theorem zy(h1:PS X st t)(h2:PSs X rest u):PSs X (st::rest) (Ei t u):=by
 intro pins s σ H D I h;refine wpAny_execs_cons (thn (h1 pins s σ H { D with nx:=u D } I h) fun f s1 q=>?_);cases f with
 |next=>
  obtain⟨σ',H',I',q⟩:=q;exact h2 pins s1 σ' H' D I' q
 |ret v=>exact q
 |brk=>exact q
 |cont=>exact q
theorem CH(h1:PS X st t):PSs X [st] t:=by
 intro pins s σ H D I h;refine wpAny_execs_cons (thn (h1 pins s σ H D I h) fun f s1 q=>?_);cases f with
 |next=>exact wpAny_execs_nil q
 |ret v=>exact q
 |brk=>exact q
 |cont=>exact q
theorem Inv.quiet{pins:List (Addr×Obj)}{σ:St}{H:Hp}{s:Shared}(I:Inv X pins σ H s):interactive X.env=false:=by simp[interactive,I.ok.kind]
def FI(te:TE):TS:=fun D σ H=>te σ H fun _ H1=>D.nx σ H1
theorem CK(he:PE X e te)(hs:swapsWith e none pos.line X.env=pure false:=by rfl):PS X (.Expr e pos) (FI te):=by
 intro pins s σ H D I h;exact wpAny_Expr_any (thn (he pins s σ H _ I h) fun v s1 ⟨x,H1,I1,r1,q1⟩=>⟨σ,H1,I1,q1⟩) I.quiet hs
def Li(te:TE):TS:=fun D σ H=>te σ H D.rt
theorem Ge(he:PE X e te):PS X (.Return (some e) pos) (Li te):=by
 intro pins s σ H D I h;exact wpAny_Return_some (thn (he pins s σ H _ I h) fun v s1 ⟨x,H1,I1,r1,q1⟩=>⟨x,σ,H1,I1,r1,q1⟩)
def Lm(c:TT)(t u:TS):TS:=fun D σ H=>c σ H fun b H1=>if b=true then t D σ H1 else u D σ H1
theorem Kb{c:Expr}{a b:List Stmt}{tc:TT}(hc:PT X c tc)(ha:PSs X a t)(hb:PSs X b u):PS X (.If c a b pos) (Lm tc t u):=by
 intro pins s σ H D I h;refine wpAny_If (thn (hc pins s σ H _ I h) fun d s1 ⟨H1,I1,q1⟩=>?_);cases d with
 |true=>exact ha pins s1 σ H1 D I1 q1
 |false=>exact hb pins s1 σ H1 D I1 q1
def AK:TS:=fun _ _ _=>False
theorem zB:PS X st AK:=fun _ _ _ _ _ _ h=>h.elim
end
abbrev TG:=V->St->Hp->(St->Hp->Prop)->Prop
abbrev TGs:=List V->St->Hp->(St->Hp->Prop)->Prop
def PG(X:Cx)(target:Expr)(t:TG):Prop:=
 ∀(pins:List (Addr×Obj)) (s:Shared) (σ:St) (H:Hp) (v:V) (u:Value) (Q:St->Hp->Prop),Inv X pins σ H s->bV v u->t v σ H Q->
  wpAny (model X.prog X.w) X.A (assign target X.env u) (fun _ s'=>∃σ' H',Inv X pins σ' H' s'/\Q σ' H') X.xe s
def PGs(X:Cx)(ts:List Expr)(t:TGs):Prop:=
 ∀(pins:List (Addr×Obj)) (s:Shared) (σ:St) (H:Hp) (vs:List V) (us:List Value) (Q:St->Hp->Prop),Inv X pins σ H s->bP vs us->t vs σ H Q->
  wpAny (model X.prog X.w) X.A (assignInOrder ((assignEach ts X.env).map (·.2)) us) (fun _ s'=>∃σ' H',Inv X pins σ' H' s'/\Q σ' H') X.xe s
abbrev II:=V->V->V->Hp->(Hp->Prop)->Prop
def Ld(X:Cx)(t:II):Prop:=
 ∀(pins:List (Addr×Obj)) (s:Shared) (σ:St) (H:Hp) (o i v:V) (ov iv u:Value) (Q:Hp->Prop),Inv X pins σ H s->bV o ov->bV i iv->bV v u->t o i v H Q->
  wpAny (model X.prog X.w) X.A (setItem ov iv u) (fun _ s'=>∃H',Inv X pins σ H' s'/\Q H') X.xe s
section
variable{X:Cx}{pos:Pos}
def uA(i:Nat):TG:=fun v σ H Q=>Q (σ.set i (some v)) H
theorem CV{i:Nat}{x:Str}(hN:X.N.Nodup)(hi:X.N[i]?=some x)(hx:Loc X.env.scope x)(hf:X.fn x=true\/X.env.scope.names.lookup x=some .local:=by first|exact .inl rfl|exact .inr rfl|assumption):PG X (.Name x pos) (uA i):=by
 intro pins s σ H v u Q I r h;exact wpAny_assign_Name (rO I hN hi hx r (fun s' I'=>⟨_,H,I',h⟩) hf)
def LM:TGs:=fun vs σ H Q=>vs=[]/\Q σ H
def HB(t:TG)(u:TGs):TGs:=fun vs σ H Q=>∃v r,vs=v::r/\t v σ H fun σ' H'=>u r σ' H' Q
theorem CU:PGs X [] LM:=by
 intro pins s σ H vs us Q I r h;obtain⟨e,h⟩:=h;subst e;cases r;exact assignInOrder_nil ⟨σ,H,I,h⟩
theorem zE{e:Expr}{es:List Expr}{t:TG}{u:TGs}(h1:PG X e t)(h2:PGs X es u)
  (hs:(assignEach (e::es) X.env).map (·.2)=assign e X.env::(assignEach es X.env).map (·.2):=by rfl):PGs X (e::es) (HB t u):=by
 intro pins s σ H vs us Q I r h;obtain⟨v,vr,e1,h⟩:=h;subst e1;cases r with
 |cons r rr=>
  rw[hs];refine assignInOrder_cons (thn (h1 pins s σ H _ _ _ I r h) fun _ s1 hz=>?_);obtain⟨σ1,H1,I1,q1⟩:=hz;exact h2 pins s1 σ1 H1 _ _ Q I1 rr q1
def LK(K:Q1)(n:Nat)(t:TGs):TG:=fun v σ H Q=>∃a xs,v=.ref a/\SqT K H a xs/\xs.length=n/\t xs σ H Q
theorem Gm{es:List Expr}{k:Nat}{t:TGs}{n:Nat}(hc:X.calm=true)(h:PGs X es t)
  (hn:(assignEach es X.env).length=n:=by rfl) (hst:(assignEach es X.env).findIdx? (·.1)=none:=by rfl):PG X (.Tuple es k pos) (LK X.K n t):=by
 intro pins s σ H v u Q I r hw;obtain⟨a,xs,e1,hq,hl,hw⟩:=hw;subst e1;cases r;obtain⟨its,rv,ht,hz⟩:=I.tuple hq;refine assign_Tuple_tuple (I.ok.hd hc) ht (by simp[hn,<-hl,rv.length]) hst fun h' hx=>?_;have I1:Inv X pins σ H { s with heap:=h' }:=I.kept (t':=s.toks) fun b o e=>hx b o (QL (QR e)) e;exact h pins _ σ H xs _ Q I1 (by simpa using rv) hw
def LL(to ti:TE)(t:II):TG:=fun v σ H Q=>to σ H fun o H1=>ti σ H1 fun i H2=>t o i v H2 fun H3=>Q σ H3
theorem Gn{o i:Expr}{to ti:TE}{t:II}(ho:PE X o to)(hi:PE X i ti)(hs:Ld X t)
  (ha:∀v,assign (.Subscript o i pos) X.env v=(do
   let ov <-holding [v] (eval o X.env)
   let iv <-holding [v,ov] (eval i X.env)
   standAt pos
   holding [v,ov,iv] (setItem ov iv v)
   release [v,ov,iv] []):=by intro _;rfl):PG X (.Subscript o i pos) (LL to ti t):=by
 intro pins s σ H v u Q I r h;rw[ha];refine Q2 (wpAny_holding (thn (ho pins s σ H _ I h) fun ov s1 hz=>?_));obtain⟨x,H1,I1,r1,q1⟩:=hz;refine Q2 (wpAny_holding (thn (hi pins s1 σ H1 _ I1 q1) fun iv s2 hz=>?_));obtain⟨y,H2,I2,r2,q2⟩:=hz;refine Q2 (wpAny_standAt (Q2 (wpAny_holding (thn (hs pins s2 σ H2 x y v ov iv u _ I2 r1 r2 r q2) fun _ s3 ⟨H3,I3,q3⟩=>?_))));exact wpAny_release ⟨σ,H3,I3,q3⟩
def FL(te:TE)(g:TG):TS:=fun D σ H=>te σ H fun x H1=>g x σ H1 D.nx
theorem Gh{tg e:Expr}{te:TE}{g:TG}(he:PE X e te)(hg:PG X tg g)(hs:swapsWithSole [tg] e pos.line X.env=pure false:=by rfl)(hw:swappedStores [tg] e X.env=pure none:=by rfl)
  (h1:(assignEach [tg] X.env).map (·.2)=[assign tg X.env]:=by rfl):PS X (.Assign [tg] e pos) (FL te g):=by
 intro pins s σ H D I h;refine wpAny_Assign_stores (thn (he pins s σ H _ I h) fun v s1 hz=>?_) hs hw;obtain⟨x,H1,I1,r1,q1⟩:=hz;rw[h1];exact thn (hg pins s1 σ H1 x v _ I1 r1 q1) fun _ s2 q=>q
theorem Gd{i:Nat}{x:Str}{e:Expr}{te:TE}{pos':Pos}(hN:X.N.Nodup)(hi:X.N[i]?=some x)(hx:Loc X.env.scope x)(he:PE X e te)(hs:swapsWith e (some (.Name x pos')) pos.line X.env=pure false:=by rfl)(hf:X.fn x=true\/X.env.scope.names.lookup x=some .local:=by first|exact .inl rfl|exact .inr rfl|assumption) :
  PS X (.Assign [.Name x pos'] e pos) (FL te (uA i)):=by
 intro pins s σ H D I h;refine wpAny_Assign_Name (thn (he pins s σ H _ I h) fun v s1 hz=>?_) hs;obtain⟨y,H1,I1,r1,q1⟩:=hz;exact rO I1 hN hi hx r1 (fun s2 I2=>⟨_,H1,I2,q1⟩) hf
def vF(c:TT)(tb:TS):TS:=fun D σ H=>∃W:Nat->St->Hp->Prop,(∃m,W m σ H)/\∀m σ H,W m σ H->
 c σ H fun b H1=>if b=true then ∃N:St->Hp->Prop,(∀σ' H',N σ' H'->∃m',m'<m/\W m' σ' H')/\tb { D with nx:=N,ct:=N,bk:=D.nx } σ H1 else D.nx σ H1
theorem zA{c:Expr}{body:List Stmt}{tc:TT}{tb:TS}(hp:PassesOwn (model X.prog X.w) X.A X.env X.xe)(hc:PT X c tc)(hb:PSs X body tb):PS X (.While c body [] pos) (vF tc tb):=by
 intro pins s σ H D I h;obtain⟨W,⟨m0,w0⟩,turn⟩:=h;refine wpAny_While (codeAny_whileLoop (fun n s'=>∃σ' H',Inv X pins σ' H' s'/\W n σ' H') ?_ m0 ⟨σ,H,I,w0⟩);rintro n s1 ⟨σ1,H1,I1,w1⟩;refine wpAny_passesOwn hp (thn (hc pins s1 σ1 H1 _ I1 (turn n σ1 H1 w1)) fun b s2 ⟨H2,I2,q2⟩=>?_);cases b with
 |true=>
  obtain⟨N,hN,q2⟩:=q2;rw[if_pos rfl];refine wpAny_passesOwn hp (thn (hb pins s2 σ1 H2 _ I2 q2) fun f s3 q3=>?_);cases f with
  |next=>
   obtain⟨σ3,H3,I3,n3⟩:=q3;obtain⟨m',hm,w3⟩:=hN σ3 H3 n3;exact⟨m',hm,σ3,H3,I3,w3⟩
  |cont=>
   obtain⟨σ3,H3,I3,n3⟩:=q3;obtain⟨m',hm,w3⟩:=hN σ3 H3 n3;exact⟨m',hm,σ3,H3,I3,w3⟩
  |brk=>exact q3
  |ret v=>exact q3
 |false=>
  rw[if_neg QV];exact wpAny_execs_nil ⟨σ1,H2,I2,q2⟩
end
structure It where
 go:Nat->Hp->Prop
 yld:Nat->Hp->V->Hp->Prop
 stop:Nat->Hp->Prop
def uY(X:Cx)(pins:List (Addr×Obj))(H:Hp)(b:Addr):Prop:=
 H b=none/\b≠X.env.locals/\b∉X.fs/\(b∈X.ex\/X.s₀.heap.objs.size<=b)/\(∀x c,X.env.cells.lookup x=some c->c≠b)/\∀p∈X.pn++pins,p.1≠b
theorem Inv.fpOk{X:Cx}{pins:List (Addr×Obj)}{σ:St}{H H':Hp}{s:Shared}{b:Addr}(I:Inv X pins σ H s)(hb:s.heap.objs.size<=b)(hn:H' b=none):uY X pins H' b:=by
 refine⟨hn,Nat.ne_of_gt (Qy I.lt hb),I.nofs hb,.inr (Qd I.sz hb),fun x c e z=>?_,fun p hp z=>?_⟩
 ·obtain⟨v,q⟩:=I.cell x c e;exact absurd (Qy q.lt (by rw[z];exact hb)) (Nat.lt_irrefl _)
 ·exact absurd (Qy (QR (I.pin p hp).1) (by rw[z];exact hb)) (Nat.lt_irrefl _)
structure Bu(P:Program)(w:World)(K:Q1)(tg:Expr)(J:It)(fp:List Addr)(it:Addr)(tn:Nat->Heap->Prop):Prop where
 mem:it∈fp
 obj:∀i h,tn i h->∀b∈fp,∃o,h.get? b=some o/\∀v,o.data≠.cell v
 keep:∀i h h',tn i h->(∀b∈fp,∀o,h.get? b=some o->h'.get? b=some o)->tn i h'
 item:∀(X:Cx),X.prog=P->X.w=w->X.K=K->X.calm=true->∀(i:Nat) (pins:List (Addr×Obj)) (s:Shared) (σ:St) (H:Hp) (E:Value->Shared->Prop),Inv X pins σ H s->(∀b∈fp,uY X pins H b)->tn i s.heap->J.go i H->
  wpAny (model P w) X.A (pyNext (.ref it)) (fun r s1=>∃u,r=some u/\
   wpAny (model P w) X.A (letOwnedTupleGo tg (.ref it) u) (fun _ s2=>∃x H',Inv X pins σ H' s2/\bV x u/\J.yld i H x H'/\tn (i+1) s2.heap/\∀b∈fp,H' b=none) E s1) E s
 done:∀(X:Cx),X.prog=P->X.w=w->X.K=K->X.calm=true->∀(i:Nat) (pins:List (Addr×Obj)) (s:Shared) (σ:St) (H:Hp) (E:Value->Shared->Prop),Inv X pins σ H s->(∀b∈fp,uY X pins H b)->tn i s.heap->J.stop i H->
  wpAny (model P w) X.A (pyNext (.ref it)) (fun r s1=>r=none/\Inv X pins σ H s1) E s
 self:∀(A:Around) (i:Nat) (s:Shared) (Q:Value->Shared->Prop) (E:Value->Shared->Prop),tn i s.heap->Q (.ref it) s->wpAny (model P w) A (pyIter (.ref it)) Q E s
abbrev TI:=St->Hp->(It->Hp->Prop)->Prop
def PIE(X:Cx)(pins:List (Addr×Obj))(σ:St)(tg:Expr)(R:It->Hp->Prop)(itv:Value)(s2:Shared):Prop:=
 ∃(it:Addr) (fp:List Addr) (tn:Nat->Heap->Prop) (J:It) (H':Hp),itv=.ref it/\Inv X pins σ H' s2/\Bu X.prog X.w X.K tg J fp it tn/\tn 0 s2.heap/\(∀b∈fp,uY X pins H' b)/\R J H'
def PI(X:Cx)(tg iter:Expr)(wi:TI):Prop:=
 ∀(pins:List (Addr×Obj)) (s:Shared) (σ:St) (H:Hp) (R:It->Hp->Prop),Inv X pins σ H s->wi σ H R->
  wpAny (model X.prog X.w) X.A (eval iter X.env) (fun v s1=>wpAny (model X.prog X.w) X.A (pyIter v) (PIE X pins σ tg R) X.xe s1) X.xe s
theorem xD {M : Model} {A : Around} {E : Value -> Shared -> Prop} {s : Shared} {tg : Expr} {it : Addr} {u : Value} {o : Obj} {n : String} {vs : Array Value} {Q : Unit -> Shared -> Prop} (ho : s.heap.get? it = some o) (hc : o.cls = .type n) (hd : o.data = .fields vs)
    (hn:["enumerate","zip","dict_itemiterator","dict_reverseitemiterator","odict_iterator","itertools.zip_longest","itertools.pairwise"].contains n=false) (hQ:Q () s):wpAny M A (letOwnedTupleGo tg (.ref it) u) Q E s:=by
  unfold letOwnedTupleGo;cases tg<;>first
    |exact Q9 hQ
    | (cases u <;> first
        |exact Q9 hQ
        | (refine Q2 (wpAny_load ho ?_)
           rw[hc,hd];show wpAny M A (if (["enumerate","zip","dict_itemiterator","dict_reverseitemiterator","odict_iterator","itertools.zip_longest","itertools.pairwise"].contains n&&vs[0]? == some (rawInt _))=true then _ else _) Q E s;rw[if_neg (by intro h;rw[hn,Bool.false_and]at h;cases h)];exact Q9 hQ))
def Itl(K:Q1)(a:Addr):It:=
 ⟨fun i H=>∃xs x,SqL K H a xs/\xs[i]?=some x,fun i H x H'=>H'=H/\∀xs,SqL K H a xs->xs[i]?=some x,fun i H=>∃xs,SqL K H a xs/\xs.length<=i⟩
def Itt(K:Q1)(a:Addr):It:=
 ⟨fun i H=>∃xs x,SqT K H a xs/\xs[i]?=some x,fun i H x H'=>H'=H/\∀xs,SqT K H a xs->xs[i]?=some x,fun i H=>∃xs,SqT K H a xs/\xs.length<=i⟩
def Itr(lo:Int)(n:Nat):It:=⟨fun i _=>i<n,fun i H x H'=>H'=H/\x=.int (lo+i),fun i _=>n<=i⟩
theorem vA{P:Program}{w:World}{K:Q1}{tg:Expr}(a it:Addr):Bu P w K tg (Itl K a) [it] it (fun i h=>h.IsListIter it a i) where
 mem:=by simp
 obj:=fun i h st b hb=>by
  have e:b=it:=by simpa using hb
  subst e;obtain⟨o,e,c,d⟩:=st;exact⟨o,e,fun v z=>by rw[d]at z;cases z⟩
 keep:=fun i h h' st k=>st.at fun o e=>k it (by simp) o e
 item:=by
  intro X hP hw hK hc i pins s σ H E I hf st hg;subst hP hw hK;obtain⟨xs,x,hq,hx⟩:=hg;obtain⟨its,rv,p,hz⟩:=I.list hq;obtain⟨u,hu,ru⟩:=rv.get hx;obtain⟨f0,f1,f2,f3,f4,f5⟩:=hf it (by simp);refine wpAny_pyNext_list_item st p.isList (x:=u) (by simpa using hu) fun h' st' sb=>?_;have I1:Inv X pins σ H { s with heap:=h' }:=I.turned (t':=s.toks) (fun b o hb e=>(sb.2 b hb).trans e) f0 f1 f3 f4 f5;obtain⟨o,e,c,d⟩:=id st';exact⟨u,rfl,xD (s:={ s with heap:=h' }) e c d (by decide) ⟨x,H,I1,ru,⟨rfl,fun ys hy=>by rw[I.list_inj hy hq];exact hx⟩,st',fun b hb=>(hf b hb).1⟩⟩
 done:=by
  intro X hP hw hK hc i pins s σ H E I hf st hg;subst hP hw hK;obtain⟨xs,hq,hx⟩:=hg;obtain⟨its,rv,p,hz⟩:=I.list hq;obtain⟨f0,f1,f2,f3,f4,f5⟩:=hf it (by simp);have hl:=rv.length;exact wpAny_pyNext_list_end (I.ok.hd hc) st p.isList (by simp;omega) fun h' eb=>⟨rfl,I.turned (t':=s.toks) (fun b o hb e=>eb b o hb e) f0 f1 f3 f4 f5⟩
 self:=fun _ _ _ _ _ st h=>wpAny_pyIter_listiter st h
theorem t4{P:Program}{w:World}{K:Q1}{tg:Expr}(a it:Addr):Bu P w K tg (Itt K a) [it] it (fun i h=>h.IsTupleIter it a i) where
 mem:=by simp
 obj:=fun i h st b hb=>by
  have e:b=it:=by simpa using hb
  subst e;obtain⟨o,e,c,d⟩:=st;exact⟨o,e,fun v z=>by rw[d]at z;cases z⟩
 keep:=fun i h h' st k=>st.at fun o e=>k it (by simp) o e
 item:=by
  intro X hP hw hK hc i pins s σ H E I hf st hg;subst hP hw hK;obtain⟨xs,x,hq,hx⟩:=hg;obtain⟨its,rv,p,hz⟩:=I.tuple hq;obtain⟨u,hu,ru⟩:=rv.get hx;obtain⟨f0,f1,f2,f3,f4,f5⟩:=hf it (by simp);refine wpAny_pyNext_tuple_item st (show s.heap.IsTuple a its.toArray from p) (x:=u) (by simpa using hu) fun h' st' sb=>?_;have I1:Inv X pins σ H { s with heap:=h' }:=I.turned (t':=s.toks) (fun b o hb e=>(sb.2 b hb).trans e) f0 f1 f3 f4 f5;obtain⟨o,e,c,d⟩:=id st';exact⟨u,rfl,xD (s:={ s with heap:=h' }) e c d (by decide) ⟨x,H,I1,ru,⟨rfl,fun ys hy=>by rw[I.tuple_inj hy hq];exact hx⟩,st',fun b hb=>(hf b hb).1⟩⟩
 done:=by
  intro X hP hw hK hc i pins s σ H E I hf st hg;subst hP hw hK;obtain⟨xs,hq,hx⟩:=hg;obtain⟨its,rv,p,hz⟩:=I.tuple hq;obtain⟨f0,f1,f2,f3,f4,f5⟩:=hf it (by simp);have hl:=rv.length;exact wpAny_pyNext_tuple_end (I.ok.hd hc) st (show s.heap.IsTuple a its.toArray from p) (by simp;omega) fun h' eb=>⟨rfl,I.turned (t':=s.toks) (fun b o hb e=>eb b o hb e) f0 f1 f3 f4 f5⟩
 self:=fun _ _ _ _ _ st h=>wpAny_pyIter_tupleiter st h
theorem t5{P:Program}{w:World}{K:Q1}{tg:Expr}(it:Addr)(lo:Int)(n:Nat):Bu P w K tg (Itr lo n) [it] it (fun i h=>IsRangeIter h it (lo+(i:Nat)*1) ((n:Int)-(i:Nat)) 1) where
 mem:=by simp
 obj:=fun i h st b hb=>by
  have e:b=it:=by simpa using hb
  subst e;exact⟨_,st,fun v z=>by
   have z':Data.fields _=Data.cell v:=z;cases z'⟩
 keep:=fun i h h' st k=>k it (by simp) _ st
 item:=by
  intro X hP hw hK hc i pins s σ H E I hf st hg;subst hP hw hK;obtain⟨f0,f1,f2,f3,f4,f5⟩:=hf it (by simp);have W:=Walks.range (prog:=X.prog) (w:=X.w) (I.ok.hd hc) it lo 1 n;refine W.item i s _ _ hg st fun v h' tk hv st' kk=>?_;obtain⟨t,rfl⟩:=hv;have I1:Inv X pins σ H { s with heap:=h',toks:=tk }:=I.turned (fun b o hb e=>kk b o (by simpa using hb) e) f0 f1 f3 f4 f5;refine⟨_,rfl,xD (s:={ s with heap:=h',toks:=tk }) (n:="range_iterator") st' rfl rfl (by decide) ⟨.int (lo+i),H,I1,⟨t,?_⟩,⟨rfl,rfl⟩,st',fun b hb=>(hf b hb).1⟩⟩;rw[Int.mul_one]
 done:=by
  intro X hP hw hK hc i pins s σ H E I hf st hg;subst hP hw hK;obtain⟨f0,f1,f2,f3,f4,f5⟩:=hf it (by simp);exact wpAny_pyNext_range_end (I.ok.hd hc) st (by have:n<=i:=hg;omega) fun h' eb=>⟨rfl,I.turned (t':=s.toks) (fun b o hb e=>eb b o hb e) f0 f1 f3 f4 f5⟩
 self:=fun _ _ _ _ _ st h=>wpAny_pyIter_rangeiter st h
section
variable{X:Cx}{tg:Expr}
def Hw(K:Q1)(tl:TE):TI:=fun σ H R=>tl σ H fun x H1=>∃a,x=.ref a/\(∃xs,SqL K H1 a xs)/\R (Itl K a) H1
def LJ(K:Q1)(tl:TE):TI:=fun σ H R=>tl σ H fun x H1=>∃a,x=.ref a/\(∃xs,SqT K H1 a xs)/\R (Itt K a) H1
theorem CQ{l:Expr}{tl:TE}(hl:PE X l tl):PI X tg l (Hw X.K tl):=by
 intro pins s σ H R I h;refine thn (hl pins s σ H _ I h) fun v s1 hz=>?_;obtain⟨x,H1,I1,r1,q1⟩:=hz;obtain⟨a,e,⟨xs,hq⟩,q⟩:=q1;subst e;cases r1;obtain⟨its,rv,p,hz⟩:=I1.list hq;refine wpAny_pyIter_list p.isList ?_;refine⟨s1.heap.objs.size,[s1.heap.objs.size],_,_,H1,rfl,I1.kept (t':=s1.toks) fun b o e=>QQ _ e,vA a _,⟨_,QY _ rfl,rfl,rfl⟩,fun b hb=>?_,q⟩;have e:b=s1.heap.objs.size:=by simpa using hb
 subst e;exact I1.fpOk (QX _) (I1.hok.fresh (QX _))
theorem Gk{l:Expr}{tl:TE}(hl:PE X l tl):PI X tg l (LJ X.K tl):=by
 intro pins s σ H R I h;refine thn (hl pins s σ H _ I h) fun v s1 hz=>?_;obtain⟨x,H1,I1,r1,q1⟩:=hz;obtain⟨a,e,⟨xs,hq⟩,q⟩:=q1;subst e;cases r1;obtain⟨its,rv,p,hz⟩:=I1.tuple hq;refine wpAny_pyIter_tuple (show s1.heap.IsTuple a its.toArray from p) ?_;refine⟨s1.heap.objs.size,[s1.heap.objs.size],_,_,H1,rfl,I1.kept (t':=s1.toks) fun b o e=>QQ _ e,t4 a _,⟨_,QY _ rfl,rfl,rfl⟩,fun b hb=>?_,q⟩;have e:b=s1.heap.objs.size:=by simpa using hb
 subst e;exact I1.fpOk (QX _) (I1.hok.fresh (QX _))
theorem zk{pins:List (Addr×Obj)}{σ:St}{H:Hp}{s:Shared}{R:It->Hp->Prop}{E:Value->Shared->Prop}{lo hi:Int}{t u v:Tok}{tk:Nat}(I:Inv X pins σ H s)(h1:-(2^62)<=lo)(h2:lo<2^62)(h3:-(2^62)<=hi)(h4:hi<2^62)
  (q:R (Itr lo (hi-lo).toNat) H):wpAny (model X.prog X.w) X.A (pyIter (.ref s.heap.objs.size)) (PIE X pins σ tg R) E { s with heap:=s.heap.push { cls:=.type "range",data:=.fields #[.int lo t,.int hi u,.int 1 v] },toks:=tk }:=by
 refine wpAny_pyIter_range (IsRange.new ..) (small_one h1 h2 h3 h4) ?_;have I1:Inv X pins σ H { s with heap:=s.heap.push { cls:=.type "range",data:=.fields #[.int lo t,.int hi u,.int 1 v] },toks:=tk }:=I.kept fun b o e=>QQ _ e;refine⟨(s.heap.push { cls:=.type "range",data:=.fields #[.int lo t,.int hi u,.int 1 v] }).objs.size,[(s.heap.push { cls:=.type "range",data:=.fields #[.int lo t,.int hi u,.int 1 v] }).objs.size],_,_,H,rfl,
  I1.kept (t':=tk) fun b o e=>QQ _ e,t5 _ lo (hi-lo).toNat,?_,fun b hb=>?_,q⟩
 ·have e1:lo+((0:Nat):Int)*1=lo:=by simp
  have e2:(((hi-lo).toNat:Nat):Int)-((0:Nat):Int)=Builtin.Range.rangeSize lo hi 1:=by rw[rangeSize_one];split<;>omega
  show IsRangeIter _ _ (lo+((0:Nat):Int)*1) ((((hi-lo).toNat:Nat):Int)-((0:Nat):Int)) 1;rw[e1,e2];exact QY _ rfl
 ·have e:b=(s.heap.push { cls:=.type "range",data:=.fields #[.int lo t,.int hi u,.int 1 v] }).objs.size:=by simpa using hb
  subst e;exact I1.fpOk (QX _) (I1.hok.fresh (QX _))
def Hv(ta:TA):TI:=fun σ H R=>ta σ H fun vs H1=>∃j:Int,vs=[.int j]/\-(2^62)<=j/\j<2^62/\R (Itr 0 j.toNat) H1
theorem wy{a:Expr}{ta:TA}{p pos:Pos}(hg:Gl X "range")(hm:X.mg "range"=none)(ha:PA X [a] ta)(hs:starEach [a] X.env=[(false,eval a X.env)]:=by rfl):PI X tg (.Call (.Name "range" p) [a] [] pos) (Hv ta):=by
 intro pins s σ H R I h;refine Call_ (j9 I hg hm boot_range (PyProof.Rows.callWith_type1 (thn (ha pos pins s σ H _ I h) fun us s1 ⟨vs,H1,I1,r1,q1⟩=>?_) hs rfl));obtain⟨j,e,q1,q2,q⟩:=q1;subst e;cases r1 with
 |cons r rr=>
  cases rr;obtain⟨t,rfl⟩:=r;exact call_range_1 (zk I1 (by omega) (by omega) q1 q2 (by simpa using q))
def Ek(wi:TI)(g:TG)(tb:TS):TS:=fun D σ H=>wi σ H fun J H1=>∃W:Nat->Nat->St->Hp->Prop,(∃m,W 0 m σ H1)/\∀i m σ H,W i m σ H->
 (J.stop i H/\D.nx σ H)\/(J.go i H/\∃N:St->Hp->Prop,(∀σ' H',N σ' H'->∃m',m'<m/\W (i+1) m' σ' H')/\∀x H',J.yld i H x H'->g x σ H' fun σ2 H2=>tb { D with nx:=N,ct:=N,bk:=D.nx } σ2 H2)
def se(fp:List Addr)(h:Heap):List (Addr×Obj):=fp.filterMap fun b=>(h.get? b).map fun o=>(b,o)
theorem eD{fp:List Addr}{h:Heap}{b:Addr}{o:Obj}(hb:b∈fp)(e:h.get? b=some o):(b,o)∈se fp h:=List.mem_filterMap.mpr ⟨b,hb,by rw[e];rfl⟩
theorem wH{fp:List Addr}{h:Heap}{p:Addr×Obj}(hp:p∈se fp h):p.1∈fp/\h.get? p.1=some p.2:=by
 obtain⟨b,hb,e⟩:=List.mem_filterMap.mp hp;cases q:h.get? b with
 |none=>rw[q]at e;cases e
 |some o=>
  rw[q]at e;have e':(b,o)=p:=Option.some.inj e;subst e';exact⟨hb,q⟩
theorem Inv.pinned{pins:List (Addr×Obj)}{σ:St}{H:Hp}{s:Shared}{fp:List Addr}(I:Inv X pins σ H s)(hf:∀b∈fp,uY X pins H b)(ho:∀b∈fp,∃o,s.heap.get? b=some o/\∀v,o.data≠.cell v):Inv X (pins++se fp s.heap) σ H s:=
 I.pins_of fun p hp=>(Qg.mp hp).elim (fun z=>I.pin p (Qz _ z)) fun z=>by
  obtain⟨hb,e⟩:=wH z;obtain⟨f0,f1,f2,_⟩:=hf p.1 hb;obtain⟨o,e',d⟩:=ho p.1 hb;rw[e]at e';cases e';exact⟨e,f0,f1,f2,d⟩
theorem Inv.unpinned{pins pl:List (Addr×Obj)}{σ:St}{H:Hp}{s:Shared}(I:Inv X (pins++pl) σ H s):Inv X pins σ H s:=I.pins_of fun p hp=>I.pin p (Qz _ (Qt _ hp))
theorem Gf{iter:Expr}{body:List Stmt}{wi:TI}{g:TG}{tb:TS}{pos:Pos}(hp:PassesOwn (model X.prog X.w) X.A X.env X.xe)(hc:X.calm=true)(hi:PI X tg iter wi)(hg:PG X tg g)(hb:PSs X body tb)
  (hs:∀x,foldedSetIterable iter X.env x=pure x:=by intro _;rfl):PS X (.For tg iter body [] pos) (Ek wi g tb):=by
 intro pins s σ H D I h;refine wpAny_For (thn (hi pins s σ H _ I h) fun v s1 h1=>thn h1 fun itv s2 h2=>?_) hs;obtain⟨it,fp,tn,J,H2,e,I2,T,st2,f2,W,⟨m0,w0⟩,turn⟩:=h2;subst e;have stat:∀{H':Hp},(∀b∈fp,H' b=none)->∀b∈fp,uY X pins H' b:=fun hn b hb=>⟨hn b hb,(f2 b hb).2⟩;refine codeAny_forLoop_any (fun n s'=>∃i σ' H',Inv X pins σ' H' s'/\tn i s'.heap/\(∀b∈fp,H' b=none)/\W i n σ' H') ?_ m0 ⟨0,σ,H2,I2,st2,fun b hb=>(f2 b hb).1,w0⟩;rintro n s3 ⟨i,σ3,H3,I3,st3,fr3,w3⟩;rcases turn i n σ3 H3 w3 with⟨stop,qn⟩|⟨go,N,hN,step⟩
 ·refine wpAny_passesOwn hp (thn (T.done X rfl rfl rfl hc i pins s3 σ3 H3 X.xe I3 (stat fr3) st3 stop) fun r s4 ⟨hr,I4⟩=>?_);subst hr;exact wpAny_execs_nil ⟨σ3,H3,I4,qn⟩
 ·refine wpAny_passesOwn hp (thn (T.item X rfl rfl rfl hc i pins s3 σ3 H3 X.xe I3 (stat fr3) st3 go) fun r s4 ⟨u,hr,h4⟩=>?_);subst hr;refine wpAny_passesOwn hp (thn h4 fun _ s5 hz=>?_);obtain⟨x,H5,I5,r5,y5,st5,fr5⟩:=hz;have I5':=I5.pinned (stat fr5) (T.obj _ _ st5);refine wpAny_passesOwn hp (thn (hg _ s5 σ3 H5 x u _ I5' r5 (step x H5 y5)) fun _ s6 hz=>?_);obtain⟨σ6,H6,I6,q6⟩:=hz;refine wpAny_passesOwn hp (thn (hb _ s6 σ6 H6 _ I6 q6) fun f s7 q7=>?_);have again:∀{σ7:St} {H7:Hp},Inv X (pins++se fp s5.heap) σ7 H7 s7->N σ7 H7->∃m,m<n/\∃i σ' H',Inv X pins σ' H' s7/\tn i s7.heap/\(∀b∈fp,H' b=none)/\W i m σ' H':=fun{σ7 H7} I7 n7=>by
   obtain⟨m',hm,w7⟩:=hN σ7 H7 n7;refine⟨m',hm,i+1,σ7,H7,I7.unpinned,T.keep _ _ _ st5 fun b hb o e=>(I7.pin (b,o) (Qz _ (Qz _ (eD hb e)))).1,fun b hb=>?_,w7⟩;obtain⟨o,e,d⟩:=T.obj _ _ st5 b hb;exact(I7.pin (b,o) (Qz _ (Qz _ (eD hb e)))).2.1
  cases f with
  |next=>obtain⟨σ7,H7,I7,n7⟩:=q7;exact again I7 n7
  |cont=>obtain⟨σ7,H7,I7,n7⟩:=q7;exact again I7 n7
  |brk=>obtain⟨σ7,H7,I7,q7⟩:=q7;exact⟨σ7,H7,I7.unpinned,q7⟩
  |ret v=>obtain⟨x7,σ7,H7,I7,r7,q7⟩:=q7;exact⟨x7,σ7,H7,I7.unpinned,r7,q7⟩
end
abbrev R2:=V->V->Hp->VK->Prop
def OpR(X:Cx)(f:Value->Value->Sem Value)(r:R2):Prop:=
 ∀(pins:List (Addr×Obj)) (s:Shared) (σ:St) (H:Hp) (x y:V) (v u:Value) (Q:VK),Inv X pins σ H s->bV x v->bV y u->r x y H Q->
  wpAny (model X.prog X.w) X.A (f v u) (EP X pins σ Q) X.xe s
def UnR(X:Cx)(f:Value->Sem Value)(r:V->Hp->VK->Prop):Prop:=
 ∀(pins:List (Addr×Obj)) (s:Shared) (σ:St) (H:Hp) (x:V) (v:Value) (Q:VK),Inv X pins σ H s->bV x v->r x H Q->
  wpAny (model X.prog X.w) X.A (f v) (EP X pins σ Q) X.xe s
def eZ(X:Cx)(f:Value)(r:List V->Hp->VK->Prop):Prop:=
 ∀(pins:List (Addr×Obj)) (s:Shared) (σ:St) (H:Hp) (xs:List V) (us:List Value) (Q:VK),Inv X pins σ H s->bP xs us->r xs H Q->
  wpAny (model X.prog X.w) X.A (call f us) (EP X pins σ Q) X.xe s
def tOp(r:R2)(ta tb:TE):TE:=fun σ H Q=>ta σ H fun x H1=>tb σ H1 fun y H2=>r x y H2 Q
def tUn(r:V->Hp->VK->Prop)(ta:TE):TE:=fun σ H Q=>ta σ H fun x H1=>r x H1 Q
def rI(C:Int->Int->Prop)(g:Int->Int->V):R2:=fun x y H Q=>∃i j,x=.int i/\y=.int j/\C i j/\Q (g i j) H
def rI0(g:Int->Int->V):R2:=fun x y H Q=>∃i j,x=.int i/\y=.int j/\Q (g i j) H
def rU(g:Int->V):V->Hp->VK->Prop:=fun x H Q=>∃i,x=.int i/\Q (g i) H
section
variable{X:Cx}{a b:Expr}{ta tb:TE}{pos:Pos}
theorem K7(ha:PE X a ta)(hb:PE X b tb){pins:List (Addr×Obj)}{s:Shared}{σ:St}{H:Hp}{R:V->V->Hp->Prop}(I:Inv X pins σ H s)
  (h:ta σ H fun x H1=>tb σ H1 fun y H2=>R x y H2) {Q:Value->Shared->Prop} {f:Value->Value->Sem Value}
  (hf:∀v u s2 x y H2,Inv X pins σ H2 s2->bV x v->bV y u->R x y H2->wpAny (model X.prog X.w) X.A (f v u) Q X.xe s2) :
  wpAny (model X.prog X.w) X.A (eval a X.env) (fun v s₁=>wpAny (model X.prog X.w) X.A (eval b X.env) (fun u s₂=>wpAny (model X.prog X.w) X.A (f v u) Q X.xe s₂) X.xe s₁) X.xe s:=by
 refine thn (ha pins s σ H _ I h) fun v s1 hz=>?_;obtain⟨x,H1,I1,r1,q1⟩:=hz;refine thn (hb pins s1 σ H1 _ I1 q1) fun u s2 hz=>?_;obtain⟨y,H2,I2,r2,q2⟩:=hz;exact hf v u s2 x y H2 I2 r1 r2 q2
theorem Kf{op:Operator}{r:R2}(ho:OpR X (binaryOp op) r)(ha:PE X a ta)(hb:PE X b tb):PE X (.BinOp a op b pos) (tOp r ta tb):=by
 intro pins s σ H Q I h;exact wpAny_BinOp (K7 ha hb I h fun v u s2 x y H2 I2 rx ry q=>ho pins s2 σ H2 x y v u Q I2 rx ry q)
theorem Kd{op:UnaryOp}{r:V->Hp->VK->Prop}(ho:UnR X (unaryOp op) r)(ha:PE X a ta):PE X (.UnaryOp op a pos) (tUn r ta):=by
 intro pins s σ H Q I h;exact UnaryOp_ (thn (ha pins s σ H _ I h) fun v s1 ⟨x,H1,I1,r1,q1⟩=>ho pins s1 σ H1 x v Q I1 r1 q1)
theorem opI{f:Value->Value->Sem Value}{C:Int->Int->Prop}{g:Int->Int->Int}
  (rule:∀(i j:Int) (t u:Tok) (s:Shared) (Q:Value->Shared->Prop) (E:Value->Shared->Prop),C i j->Q (.int (g i j) s.toks) { s with toks:=s.toks+1 }->wpAny (model X.prog X.w) X.A (f (.int i t) (.int j u)) Q E s) :
  OpR X f (rI C fun i j=>.int (g i j)):=by
 intro pins s σ H x y v u Q I rx ry h;obtain⟨i,j,rfl,rfl,hc,q⟩:=h;obtain⟨t,rfl⟩:=rx;obtain⟨t',rfl⟩:=ry;exact rule i j t t' s _ _ hc ⟨.int (g i j),H,I.tok _,⟨_,rfl⟩,q⟩
theorem Lw{f:Value->Value->Sem Value}{g:Int->Int->Int}
  (rule:∀(i j:Int) (t u:Tok) (s:Shared) (Q:Value->Shared->Prop) (E:Value->Shared->Prop),Q (.int (g i j) s.toks) { s with toks:=s.toks+1 }->wpAny (model X.prog X.w) X.A (f (.int i t) (.int j u)) Q E s) :
  OpR X f (rI0 fun i j=>.int (g i j)):=by
 intro pins s σ H x y v u Q I rx ry h;obtain⟨i,j,rfl,rfl,q⟩:=h;obtain⟨t,rfl⟩:=rx;obtain⟨t',rfl⟩:=ry;exact rule i j t t' s _ _ ⟨.int (g i j),H,I.tok _,⟨_,rfl⟩,q⟩
theorem Kq{f:Value->Value->Sem Value}{g:Int->Int->Bool}
  (rule:∀(i j:Int) (t u:Tok) (s:Shared) (Q:Value->Shared->Prop) (E:Value->Shared->Prop),Q (.bool (g i j)) s->wpAny (model X.prog X.w) X.A (f (.int i t) (.int j u)) Q E s) :
  OpR X f (rI0 fun i j=>.bl (g i j)):=by
 intro pins s σ H x y v u Q I rx ry h;obtain⟨i,j,rfl,rfl,q⟩:=h;obtain⟨t,rfl⟩:=rx;obtain⟨t',rfl⟩:=ry;exact rule i j t t' s _ _ ⟨.bl (g i j),H,I,rfl,q⟩
def ED(i j:Int):Prop:=0<=j/\j<=1000000/\i.natAbs<2^64
def By(i j:Int):Prop:=(-(2^64)<i/\i<2^64)\/(-(2^64)<j/\j<2^64)
theorem By.ok{i j:Int}(h:By i j):IntMulOk i j:=by
 rcases h with⟨h1,h2⟩|⟨h1,h2⟩
 ·exact .of_left (intBits_le_64 h1 h2)
 ·exact .of_right (intBits_le_64 h1 h2)
theorem GQ:OpR X (binaryOp .Add) (rI0 fun i j=>.int (i+j)):=Lw fun _ _ _ _ _ _ _ q=>add_int q
theorem A3:OpR X (binaryOp .Sub) (rI0 fun i j=>.int (i-j)):=Lw fun _ _ _ _ _ _ _ q=>sub_int q
theorem j8:OpR X (binaryOp .Mult) (rI By fun i j=>.int (i*j)):=opI fun _ _ _ _ _ _ _ hc q=>mul_int q hc.ok
theorem lG:OpR X (binaryOp .Mod) (rI (fun _ j=>0<j) fun i j=>.int (i % j)):=opI fun i j _ _ _ _ _ hc q=>by
 have h1:(0:Int)<j:=hc;exact mod_int' (by omega) (by rw[Int.fmod_eq_emod_of_nonneg i (by omega)];exact q)
theorem A4:OpR X (binaryOp .Pow) (rI ED fun i j=>.int (i^j.toNat)):=opI fun _ _ _ _ _ _ _ hc q=>pow_int_small hc.1 hc.2.1 hc.2.2 q
theorem unI{f:Value->Sem Value}{g:Int->Int}
  (rule:∀(i:Int) (t:Tok) (s:Shared) (Q:Value->Shared->Prop) (E:Value->Shared->Prop),Q (.int (g i) s.toks) { s with toks:=s.toks+1 }->wpAny (model X.prog X.w) X.A (f (.int i t)) Q E s) :
  UnR X f (rU fun i=>.int (g i)):=by
 intro pins s σ H x v Q I rx h;obtain⟨i,rfl,q⟩:=h;obtain⟨t,rfl⟩:=rx;exact rule i t s _ _ ⟨.int (g i),H,I.tok _,⟨_,rfl⟩,q⟩
theorem AI:UnR X (unaryOp .USub) (rU fun i=>.int (-i)):=unI fun _ _ _ _ _ q=>neg_int q
end
def J2:V->V->Bool
 |.non,.non=>true|.non,.int _=>true|.int _,.non=>true|.non,.bl _=>true|.bl _,.non=>true|.non,.str _=>true|.str _,.non=>true
 |.int _,.int _=>true|.bl _,.bl _=>true|.str _,.str _=>true|.byt _,.byt _=>true
 |.int _,.str _=>true|.str _,.int _=>true|.bl _,.str _=>true|.str _,.bl _=>true
 |_,_=>false
def rEq:R2:=fun x y H Q=>J2 x y=true/\Q (.bl (decide (x=y))) H
def rNe:R2:=fun x y H Q=>J2 x y=true/\Q (.bl (!decide (x=y))) H
theorem x5{i j:Int}:decide (V.int i=V.int j)=(i == j):=by
 rw[Bool.eq_iff_iff];simp
theorem Bp{i j:Bool}:decide (V.bl i=V.bl j)=(i == j):=by
 rw[Bool.eq_iff_iff];simp
theorem xZ{i j:Str}:decide (V.str i=V.str j)=(i == j):=by
 rw[Bool.eq_iff_iff];simp
theorem x6{i j:Array UInt8}:decide (V.byt i=V.byt j)=(i.toList == j.toList):=by
 rw[Bool.eq_iff_iff];cases i;cases j;simp
section
variable{X:Cx}{a b c:Expr}{ta tb:TE}{pos:Pos}
theorem bF{pins:List (Addr×Obj)}{σ:St}{H:Hp}{s:Shared}{Q:VK}{k k':Bool}(I:Inv X pins σ H s)(q:Q (.bl k) H)(e:k=k'):EP X pins σ Q (.bool k') s:=by
 subst e;exact⟨.bl k,H,I,rfl,q⟩
theorem js:OpR X (compareOp .Eq) rEq:=by
 intro pins s σ H x y v u Q I rx ry h;obtain⟨hs,q⟩:=h;cases x with
 |non=>
  cases rx;cases y with
  |non=>cases ry;exact PySem.EqNone.eq_none_none (bF I q (by simp))
  |bl j=>cases ry;exact PySem.EqNone.eq_none_bool (bF I q (by simp))
  |int j=>obtain⟨t',rfl⟩:=ry;exact PySem.EqNone.eq_none_int (bF I q (by simp))
  |str j=>obtain⟨t',rfl⟩:=ry;exact PySem.EqNone.eq_none_str (bF I q (by simp))
  |_=>exact absurd (show false=true from hs) QV
 |bl i=>
  cases rx;cases y with
  |non=>cases ry;exact PySem.EqNone.eq_bool_none (bF I q (by simp))
  |bl j=>cases ry;exact eq_bool (bF I q Bp)
  |str j=>obtain⟨t',rfl⟩:=ry;exact PySem.EqMixed.eq_bool_str (bF I q (by simp))
  |_=>exact absurd (show false=true from hs) QV
 |int i=>
  obtain⟨t,rfl⟩:=rx;cases y with
  |non=>cases ry;exact PySem.EqNone.eq_int_none (bF I q (by simp))
  |int j=>obtain⟨t',rfl⟩:=ry;exact eq_int (bF I q x5)
  |str j=>obtain⟨t',rfl⟩:=ry;exact PySem.EqMixed.eq_int_str (bF I q (by simp))
  |_=>exact absurd (show false=true from hs) QV
 |str i=>
  obtain⟨t,rfl⟩:=rx;cases y with
  |non=>cases ry;exact PySem.EqNone.eq_str_none (bF I q (by simp))
  |bl j=>cases ry;exact PySem.EqMixed.eq_str_bool (bF I q (by simp))
  |int j=>obtain⟨t',rfl⟩:=ry;exact PySem.EqMixed.eq_str_int (bF I q (by simp))
  |str j=>obtain⟨t',rfl⟩:=ry;exact eq_str (bF I q xZ)
  |_=>exact absurd (show false=true from hs) QV
 |byt i=>
  obtain⟨t,rfl⟩:=rx;cases y with
  |byt j=>obtain⟨t',rfl⟩:=ry;exact PySem.W.eq_bytes (bF I q x6)
  |_=>exact absurd (show false=true from hs) QV
 |_=>cases y<;>exact absurd (show false=true from hs) QV
theorem o9:OpR X (compareOp .NotEq) rNe:=by
 intro pins s σ H x y v u Q I rx ry h;obtain⟨hs,q⟩:=h;cases x with
 |non=>
  cases rx;cases y with
  |non=>cases ry;exact PySem.EqNone.ne_none_none (bF I q (by simp))
  |bl j=>cases ry;exact PySem.EqNone.ne_none_bool (bF I q (by simp))
  |int j=>obtain⟨t',rfl⟩:=ry;exact PySem.EqNone.ne_none_int (bF I q (by simp))
  |str j=>obtain⟨t',rfl⟩:=ry;exact PySem.EqNone.ne_none_str (bF I q (by simp))
  |_=>exact absurd (show false=true from hs) QV
 |bl i=>
  cases rx;cases y with
  |non=>cases ry;exact PySem.EqNone.ne_bool_none (bF I q (by simp))
  |bl j=>cases ry;exact ne_bool (bF I q (congrArg not Bp))
  |str j=>obtain⟨t',rfl⟩:=ry;exact PySem.EqMixed.ne_bool_str (bF I q (by simp))
  |_=>exact absurd (show false=true from hs) QV
 |int i=>
  obtain⟨t,rfl⟩:=rx;cases y with
  |non=>cases ry;exact PySem.EqNone.ne_int_none (bF I q (by simp))
  |int j=>obtain⟨t',rfl⟩:=ry;exact ne_int (bF I q (congrArg not x5))
  |str j=>obtain⟨t',rfl⟩:=ry;exact PySem.EqMixed.ne_int_str (bF I q (by simp))
  |_=>exact absurd (show false=true from hs) QV
 |str i=>
  obtain⟨t,rfl⟩:=rx;cases y with
  |non=>cases ry;exact PySem.EqNone.ne_str_none (bF I q (by simp))
  |bl j=>cases ry;exact PySem.EqMixed.ne_str_bool (bF I q (by simp))
  |int j=>obtain⟨t',rfl⟩:=ry;exact PySem.EqMixed.ne_str_int (bF I q (by simp))
  |str j=>obtain⟨t',rfl⟩:=ry;exact ne_str (bF I q (congrArg not xZ))
  |_=>exact absurd (show false=true from hs) QV
 |byt i=>
  obtain⟨t,rfl⟩:=rx;cases y with
  |byt j=>obtain⟨t',rfl⟩:=ry;exact PySem.W.ne_bytes (bF I q (congrArg not x6))
  |_=>exact absurd (show false=true from hs) QV
 |_=>cases y<;>exact absurd (show false=true from hs) QV
theorem Df:OpR X (compareOp .Lt) (rI0 fun i j=>.bl (decide (i<j))):=Kq fun _ _ _ _ _ _ _ q=>lt_int q
theorem Dg:OpR X (compareOp .Gt) (rI0 fun i j=>.bl (decide (j<i))):=Kq fun _ _ _ _ _ _ _ q=>gt_int q
theorem Ko:OpR X (compareOp .GtE) (rI0 fun i j=>.bl (decide (j<=i))):=Kq fun _ _ _ _ _ _ _ q=>ge_int q
theorem GN:OpR X (compareOp .Is) (fun x y H Q=>y=.non/\Q (.bl (decide (x=.non))) H):=by
 intro pins s σ H x y v u Q I rx ry h;obtain⟨rfl,q⟩:=h;cases ry;refine is_none_gen (bF I q ?_);cases x<;>first
  |(cases rx;rfl)
  |(obtain⟨t,rfl⟩:=rx;rfl)
theorem wC:OpR X (compareOp .IsNot) (fun x y H Q=>y=.non/\Q (.bl (!decide (x=.non))) H):=by
 intro pins s σ H x y v u Q I rx ry h;obtain⟨rfl,q⟩:=h;cases ry;refine isnot_none_gen (bF I q ?_);cases x<;>first
  |(cases rx;rfl)
  |(obtain⟨t,rfl⟩:=rx;rfl)
theorem OpR.or{f:Value->Value->Sem Value}{r r':R2}(h:OpR X f r)(h':OpR X f r'):OpR X f (fun x y H Q=>r x y H Q\/r' x y H Q):=by
 intro pins s σ H x y v u Q I rx ry q;rcases q with q|q
 ·exact h pins s σ H x y v u Q I rx ry q
 ·exact h' pins s σ H x y v u Q I rx ry q
theorem bq(b:Expr){op:CmpOp}(h:op≠.In:=by decide)(h2:op≠.NotIn:=by decide):behindInMarks op b=false:=by
 have e1:(op == CmpOp.In)=false:=by cases op<;>first|rfl|exact absurd rfl h
 have e2:(op == CmpOp.NotIn)=false:=by cases op<;>first|rfl|exact absurd rfl h2
 cases b<;>simp[behindInMarks,e1,e2]
theorem C4{op:CmpOp}{r:R2}(ho:OpR X (compareOp op) r)(ha:PE X a ta)(hb:PE X b tb)(hm:behindInMarks op b=false):PE X (.Compare a [op] [b] pos) (tOp r ta tb):=by
 intro pins s σ H Q I h;exact wpAny_Compare1 (K7 ha hb I h fun v u s2 x y H2 I2 rx ry q=>ho pins s2 σ H2 x y v u Q I2 rx ry q) hm
def FC(t:TE):TT:=fun σ H Q=>t σ H fun x H'=>∃k,x=.bl k/\Q k H'
theorem CF{op:CmpOp}{r:R2}(ho:OpR X (compareOp op) r)(ha:PE X a ta)(hb:PE X b tb)(hm:behindInMarks op b=false):PT X (.Compare a [op] [b] pos) (FC (tOp r ta tb)):=by
 intro pins s σ H Q I h;refine wpAny_isTrue_Compare1 (thn (ha pins s σ H _ I h) fun v s1 ⟨x,H1,I1,r1,q1⟩=>thn (hb pins s1 σ H1 _ I1 q1) fun u s2 ⟨y,H2,I2,r2,q2⟩=>
  thn (ho pins s2 σ H2 x y v u _ I2 r1 r2 q2) fun c s3 ⟨z,H3,I3,r3,k,e,q3⟩=>?_) hm
 subst e;cases r3;exact wpAny_truthy_bool ⟨H3,I3,q3⟩
theorem sG:(sizeLine:Nat)<2^63:=by rw[sizeLine_eq];decide
theorem ud:OpR X (binaryOp .Add) (fun x y H Q=>∃i j,x=.str i/\y=.str j/\i.length+j.length<=sizeLine/\Q (.str (i++j)) H):=by
 intro pins s σ H x y v u Q I rx ry h;obtain⟨i,j,rfl,rfl,hz,q⟩:=h;obtain⟨t,rfl⟩:=rx;obtain⟨t',rfl⟩:=ry;exact add_str (fun t' tk=>⟨.str (i++j),H,I.tok _,⟨_,rfl⟩,q⟩) hz
theorem ki{x:V}{us:List Value}(r:bP [x] us):∃u,us=[u]/\bV x u:=by
 cases r with
 |cons r1 r2=>cases r2;exact⟨_,rfl,r1⟩
theorem Fz{x y:V}{us:List Value}(r:bP [x,y] us):∃u w',us=[u,w']/\bV x u/\bV y w':=by
 cases r with
 |cons r1 r2=>
  cases r2 with
  |cons r3 r4=>cases r4;exact⟨_,_,rfl,r1,r3⟩
theorem yh:eZ X (.type "int") (fun xs H Q=>(∃i,xs=[.int i]/\Q (.int i) H)\/∃k,xs=[.bl k]/\Q (.int (if k then 1 else 0)) H):=by
 intro pins s σ H xs us Q I r h;rcases h with⟨i,rfl,q⟩|⟨k,rfl,q⟩
 ·obtain⟨u,rfl,t,rfl⟩:=ki r;exact call_int_int ⟨.int i,H,I,⟨_,rfl⟩,q⟩
 ·obtain⟨u,rfl,r1⟩:=ki r;cases r1;exact call_int_bool ⟨.int (if k then 1 else 0),H,I.tok _,⟨_,rfl⟩,q⟩
end
structure Ee(h:Heap)(x dx C:Addr)(mA:Str->Option Value):Prop where
 obj:h.get? x=some (PySem.W.instObj C dx)
 ns:h.Ns1 dx mA
 ne:dx≠x
theorem wU{h:Heap}{dx:Addr}{mA:Str->Option Value}(n:h.Ns1 dx mA):∃od,h.get? dx=some od/\∀name,PySem.W.lookIn name od=some (mA name):=by
 obtain⟨o,es,ep,ho,hd,hk,_,hm⟩:=n;refine⟨o,ho,fun name=>?_⟩;have e:=hm name;unfold nsFind findBy at e;rw[<-Array.find?_toList]at e;unfold PySem.W.lookIn;rw[hd];dsimp only;split
 ·rename_i y q;rw[q]at e;exact congrArg some e
 ·rename_i q;rw[q]at e;have a:es.toList.any (·.refKey)=false:=by
   rw[List.any_eq_false];intro y hy;obtain⟨z,t,hkey⟩:=hk y (Array.mem_toList_iff.mp hy);simp[DictEntry.refKey,hkey]
  have a':¬es.toList.any (·.refKey)=true:=by rw[a];exact QV
  rw[if_neg a'];exact congrArg some e
theorem Ee.look{h:Heap}{x dx C:Addr}{mA:Str->Option Value}(I:Ee h x dx C mA):∃od,PySem.W.InstAt h x (PySem.W.instObj C dx) C (some od)/\∀name,PySem.W.lookIn name od=some (mA name):=
 let ⟨od,ho,hl⟩:=wU I.ns
 ⟨od,⟨I.obj,rfl,rfl,ho⟩,hl⟩
section
variable{prog:Program}{w:World}{A:Around}{E:Value->Shared->Prop}{s:Shared}{K:Q1}{x dx C f:Addr}{mA:Str->Option Value}{name:Str}{v:Value}
theorem DL{expr:Bool}{Q:Value->Shared->Prop}(X:K.In s.heap)(I:Ee s.heap x dx C mA)(hg:PySem.W.plainGet K C name=true)(hh:PySem.W.hasDictIn K C=true)
  (ha:PySem.W.findIn K (.ref C) name=some none) (hv:mA name=some v) (hv':PySem.W.handedIn v=true) (h:Q v { s with toks:=s.toks+1 }) :
  wpAny (model prog w) A (getAttr (.ref x) name expr) Q E s:=by
 obtain⟨od,J,hl⟩:=I.look;exact PySem.W.get_value X J (PySem.W.plainGet_of hg).1 (PySem.W.findObj_own hh ha rfl (by rw[hl,hv])) hv' h
theorem Af{pl:Sem Bool}{Q:Value×List Value->Shared->Prop}(X:K.In s.heap)(I:Ee s.heap x dx C mA)(hg:PySem.W.plainGet K C name=true)
  (hf:PySem.W.findIn K (.ref C) name=some (some (.ref f))) (ht:PySem.W.isFn K (.ref f)=true) (hv:mA name=none) (h:Q (.ref f,[.ref x]) s) :
  wpAny (model prog w) A (getMethod (.ref x) name pl) Q E s:=by
 obtain⟨od,J,hl⟩:=I.look;exact PySem.W.method_fn X J (PySem.W.plainGet_of hg).1 (PySem.W.plainGet_of hg).2 hf (beq_iff_eq.mp ht) (by show(PySem.W.lookIn name od).map (·.isSome)=some false;rw[hl,hv];rfl) h
theorem Cr{ns:List Str}{Q:Unit->Shared->Prop}(X:K.In s.heap)(I:Ee s.heap x dx C mA)
  (hs:PySem.W.findIn K (.ref C) "__setattr__"=some (some (.builtin "object.__setattr__"))) (hp:PySem.W.plainOver K C=true) (ht:PySem.W.takerIn K C name=some none) (hh:PySem.W.hasDictIn K C=true)
  (hw:PySem.Within mA ns) (hsz:ns.length<=sizeLine)
  (h:∀h',Ee h' x dx C (fun y=>if y=name then some v else mA y)->ZH dx s.heap h'->Q () { s with heap:=h',toks:=s.toks+2 }) :
  wpAny (model prog w) A (setAttr (.ref x) name v) Q E s:=by
 obtain⟨od,J,hl⟩:=I.look;refine PySem.W.set_plain X J hs (PySem.W.osa_open (s:={ s with toks:=s.toks+1 }) (r:=none) X J hp ht fun b=>?_);obtain⟨cd,hc,hd'⟩:=PySem.W.any_some hh;have hx:s.heap.get? x=some ⟨.ref C,some dx,.plain,#[]⟩:=I.obj;refine Q2 (Q9 (Q2 (Q2 (wpAny_loadPart hx (Q2 (PySem.W.Looks.here (s:={ s with toks:=s.toks+1 }) (PySem.W.looks_clsIn X hc) ?_))))));rw[hd'];refine Q9 (a:=some dx) (Q2 (Q9 (Q2 ?_)));refine wpAny_nsSet1 (s:={ s with toks:=s.toks+1 }) I.ns fun h' hn2 hs2=>?_;obtain⟨oD,esD,epD,hoD,hdD,hcD⟩:=hn2.count (PySem.Within.cons name v hw);refine Q2 (wpAny_lookBehind hoD (by rw[hdD];exact pastItsLine_dict (Qd hcD (by rw[QU];omega))) ?_);exact Q9 (h _ ⟨(hs2.2 _ (Ne.symm I.ne)).trans I.obj,hn2,I.ne⟩ hs2)
theorem z5{R:Result->Shared->Prop}{vs:List Value}{kw:List (Str×Value)}(X:K.In s.heap)(hm:PySem.W.makesIn K C=true)
  (hi:PySem.W.findIn K (.ref C) "__init__"=some (some (.ref f))) (hf:PySem.W.typeIn K (.ref f)=some (.type "function"))
  (h:codeAny (model prog w) (A.under (.builtin "type.__call__" ⟨.ref C::vs,kw⟩)) (.call (.ref f) ⟨.ref (s.heap.objs.size+1)::vs,kw⟩) (PySem.W.InitBack (s.heap.objs.size+1) R)
   { s with heap:=(s.heap.push PySem.W.emptyDict).push (PySem.W.instObj C s.heap.objs.size) }) :
  codeAny (model prog w) A (.call (.ref C) ⟨vs,kw⟩) R s:=by
 obtain⟨hh,g,d,t,os⟩:=s;exact PySem.W.make_core (PySem.W.makes_of X hm) (PySem.W.looks_findIn X hi) (fun self=>PySem.W.bind_fn X self hf) (.inl rfl) h
end
def mI(f:Str)(v:V):List (Str×V)->List (Str×V)
 |[]=>[(f,v)]
 |(g,x)::r=>if g=f then(g,v)::r else(g,x)::mI f v r
theorem iX(f g:Str)(v:V):∀fs:List (Str×V),(mI f v fs).lookup g=if g=f then some v else fs.lookup g
 |[]=>by
  show List.lookup g [(f,v)]=_;by_cases h:g=f
  ·have hb:(g == f)=true:=beq_iff_eq.mpr h;simp only[List.lookup,hb,if_pos h]
  ·have hb:(g == f)=false:=beq_eq_false_iff_ne.mpr h;simp only[List.lookup,hb,if_neg h]
 |(k,x)::r=>by
  have ih:=iX f g v r;rw[show mI f v ((k,x)::r)=(if k=f then(k,v)::r else(k,x)::mI f v r)from rfl];by_cases hk:k=f
  ·rw[if_pos hk];by_cases h:g=k
   ·have hb:(g == k)=true:=beq_iff_eq.mpr h;simp only[List.lookup,hb,if_pos (h.trans hk)]
   ·have hb:(g == k)=false:=beq_eq_false_iff_ne.mpr h;simp only[List.lookup,hb,if_neg (fun e:g=f=>h (e.trans hk.symm))]
  ·rw[if_neg hk];by_cases h:g=k
   ·have hb:(g == k)=true:=beq_iff_eq.mpr h;simp only[List.lookup,hb,if_neg (fun e:g=f=>hk (h.symm.trans e))]
   ·have hb:(g == k)=false:=beq_eq_false_iff_ne.mpr h;simp only[List.lookup,hb];exact ih
theorem eS(f:Str)(v:V):∀fs:List (Str×V),f∈(mI f v fs).map (·.1)/\∀g,g∈fs.map (·.1)->g∈(mI f v fs).map (·.1)
 |[]=>⟨by simp[mI],fun g h=>by simp at h⟩
 |(k,x)::r=>by
  obtain⟨i1,i2⟩:=eS f v r;rw[show mI f v ((k,x)::r)=(if k=f then(k,v)::r else(k,x)::mI f v r)from rfl];by_cases hk:k=f
  ·rw[if_pos hk];subst hk;exact⟨by simp,fun g h=>by simpa using h⟩
  ·rw[if_neg hk];refine⟨?_,fun g h=>?_⟩
   ·rw[QJ];exact Qq _ i1
   ·rw[QJ]at h ⊢;rcases QD.mp h with e|e
    ·exact QD.mpr (.inl e)
    ·exact Qq _ (i2 g e)
theorem lP(f:Str)(v:V):∀fs:List (Str×V),(mI f v fs).length<=fs.length+1
 |[]=>by simp[mI]
 |(k,x)::r=>by
  have ih:=lP f v r;rw[show mI f v ((k,x)::r)=(if k=f then(k,v)::r else(k,x)::mI f v r)from rfl];by_cases hk:k=f
  ·rw[if_pos hk,QU,QU];omega
  ·rw[if_neg hk,QU,QU];omega
theorem nC.some_of{v:V}{o:Option Value}(r:nC (some v) o):∃u,o=some u/\bV v u:=by
 cases o with
 |none=>exact(show False from r).elim
 |some u=>exact⟨u,rfl,r⟩
theorem nC.none_of{o:Option Value}(r:nC none o):o=none:=by
 cases o with
 |none=>rfl
 |some u=>exact(show False from r).elim
theorem xA{v:V}{u:Value}(r:bV v u):PySem.W.handedIn u=true:=by
 cases v with
 |non=>cases (show u=Value.none from r);rfl
 |bl b=>cases (show u=Value.bool b from r);rfl
 |int i=>obtain⟨t,e⟩:=(show ∃t,u=Value.int i t from r);cases e;rfl
 |str x=>obtain⟨t,e⟩:=(show ∃t,u=Value.str x t from r);cases e;rfl
 |byt b=>obtain⟨t,e⟩:=(show ∃t,u=Value.bytes b t from r);cases e;rfl
 |flt b=>obtain⟨t,e⟩:=(show ∃t,u=Value.float b t from r);cases e;rfl
 |ref a=>cases (show u=Value.ref a from r);rfl
 |ty n=>cases (show u=Value.type n from r);rfl
section
variable{P:Program}{w:World}{H:Hp}{h:Heap}{a C dx:Addr}{fs:List (Str×V)}
theorem n4(hok:HOk P w H h)(e:H a=some (.ins C dx fs)):∃mA,Ee h a dx C mA/\(∀f,nC (fs.lookup f) (mA f))/\PySem.Within mA (fs.map (·.1))/\fs.length<=1000/\H dx=some (.own a):=by
 obtain⟨d,z,ne,ob,mA,n,r,q⟩:=(show bU P w H h a (.ins C dx fs)from hok a _ e);exact⟨mA,⟨ob,n,ne⟩,r,q,z,d⟩
end
structure Cls(K:Q1)(C:Addr):Prop where
 pg:PySem.W.plainGet K C Str.empty=true
 hd:PySem.W.hasDictIn K C=true
 po:PySem.W.plainOver K C=true
 sa:PySem.W.findIn K (.ref C) "__setattr__"=some (some (.builtin "object.__setattr__"))
theorem Cls.get{K:Q1}{C:Addr}(c:Cls K C)(f:Str):PySem.W.plainGet K C f=true:=c.pg
def iO(K:Q1)(C:Addr)(f:Str):Prop:=PySem.W.findIn K (.ref C) f=some none
theorem iO.taker{K:Q1}{C:Addr}{f:Str}(n:iO K C f):PySem.W.takerIn K C f=some none:=by
 unfold PySem.W.takerIn;rw[show PySem.W.findIn K (.ref C) f=some none from n];rfl
structure Ik(K:Q1)(C:Addr)(m:Str)(f:Addr):Prop where
 at_:PySem.W.findIn K (.ref C) m=some (some (.ref f))
 fn:PySem.W.isFn K (.ref f)=true
 kp:PySem.W.keepIn K (.ref f)=true
section
variable{X:Cx}{pins:List (Addr×Obj)}{σ:St}{H:Hp}{s:Shared}{a C dx:Addr}{fs:List (Str×V)}{f:Str}{v:V}{A:Around}{E:Value->Shared->Prop}
theorem uz{b:Bool}{Q:Value->Shared->Prop}(I:Inv X pins σ H s)(e:H a=some (.ins C dx fs))(c:Cls X.K C)(n:iO X.K C f)(l:fs.lookup f=some v)
  (h:∀u s',Inv X pins σ H s'->bV v u->Q u s'):wpAny (model X.prog X.w) A (getAttr (.ref a) f b) Q E s:=by
 obtain⟨mA,O,r,_,_,_⟩:=n4 I.hok e;obtain⟨u,hu,ru⟩:=nC.some_of (v:=v) (o:=mA f) (by rw[<-l];exact r f);exact DL I.kIn O (c.get f) c.hd n hu (xA ru) (h u _ (I.tok _) ru)
theorem uy{m:Str}{g:Addr}{pl:Sem Bool}{Q:Value×List Value->Shared->Prop}(I:Inv X pins σ H s)(e:H a=some (.ins C dx fs))(c:Cls X.K C)(k:Ik X.K C m g)(l:fs.lookup m=none)
  (h:Q (.ref g,[.ref a]) s):wpAny (model X.prog X.w) A (getMethod (.ref a) m pl) Q E s:=by
 obtain⟨mA,O,r,_,_,_⟩:=n4 I.hok e;have hn:mA m=none:=nC.none_of (by rw[<-l];exact r m);exact Af I.kIn O (c.get m) k.at_ k.fn hn h
theorem t9{y:V}{u:Value}{Q:Unit->Shared->Prop}(I:Inv X pins σ H s)(e:H a=some (.ins C dx fs))(c:Cls X.K C)(n:iO X.K C f)(hl:fs.length<1000)(ry:bV y u)
  (h:∀s',Inv X pins σ (upd H a (.ins C dx (mI f y fs))) s'->Q () s'):wpAny (model X.prog X.w) A (setAttr (.ref a) f u) Q E s:=by
 obtain⟨mA,O,r,wi,_,ho⟩:=n4 I.hok e;have hz:(fs.map (·.1)).length<=sizeLine:=by rw[Q6,sizeLine_eq];omega
 refine Cr I.kIn O c.sa c.po n.taker c.hd wi hz fun h' O' sb=>h _ ?_;have hd:∃o,h'.get? dx=some o:=let ⟨o,_,_,e',_⟩:=O'.ns;⟨o,e'⟩
 refine I.write (x:=a) (e:=dx) (by rw[e];exact True.intro) (.inr ho) (fun b q hb z=>(sb.2 b hb).trans z) hd ?_;refine⟨by rw[bj O.ne];exact ho,?_,O.ne,O'.obj,_,O'.ns,fun g=>?_,fun g hg=>?_⟩
 ·have:=lP f y fs;omega
 ·show nC ((mI f y fs).lookup g) (if g=f then some u else mA g);rw[iX];by_cases q:g=f
  ·rw[if_pos q,if_pos q];exact ry
  ·rw[if_neg q,if_neg q];exact r g
 ·by_cases q:g=f
  ·rw[q];exact(eS f y fs).1
  ·refine(eS f y fs).2 g (wi g fun z=>hg ?_);show(if g=f then some u else mA g)=none;rw[if_neg q];exact z
theorem Inv.made(I:Inv X pins σ H s):Inv X pins σ (upd (upd H s.heap.objs.size (.own (s.heap.objs.size+1))) (s.heap.objs.size+1) (.ins C s.heap.objs.size []))
  { s with heap:=(s.heap.push PySem.W.emptyDict).push (PySem.W.instObj C s.heap.objs.size) }:=by
 have e1:(s.heap.push PySem.W.emptyDict).get? s.heap.objs.size=some PySem.W.emptyDict:=QY s.heap rfl;have e2:((s.heap.push PySem.W.emptyDict).push (PySem.W.instObj C s.heap.objs.size)).get? (s.heap.objs.size+1)=some (PySem.W.instObj C s.heap.objs.size):=by
  have:=QY (s.heap.push PySem.W.emptyDict) (o:=PySem.W.instObj C s.heap.objs.size) rfl;rwa[ZM]at this
 have e3:(s.heap.push PySem.W.emptyDict).Ns s.heap.objs.size (fun _=>none):=⟨PySem.W.emptyDict,#[],_,e1,rfl,(fun e he=>absurd he (by simp)),fun _=>rfl⟩;have I1:=I.laid (a:=s.heap.objs.size) (o:=.own (s.heap.objs.size+1)) (h':=s.heap.push PySem.W.emptyDict) (t':=s.toks) (fun b u q=>QQ _ q) (QX _) ⟨_,e1⟩;refine I1.laid (a:=s.heap.objs.size+1) (o:=.ins C s.heap.objs.size []) (t':=s.toks) (fun b u q=>QQ _ q) (Nat.le_of_eq (ZM _ _)) ?_;have ne:s.heap.objs.size≠s.heap.objs.size+1:=QL (Nat.lt_succ_self _);refine⟨by rw[bj ne,aG],Z5 _,ne,e2,fun _=>none,(Heap.Ns1.of_empty e3).at fun o q=>QQ _ q,fun _=>True.intro,fun y hy=>absurd rfl hy⟩
theorem D8{prog:Program}{w:World}{env:Env}{e:Expr}{f:Str}{pos:Pos}{s:Shared}{Q:Value->Shared->Prop}(hb:attributeBase e f env (eval e env)=eval e env)
  (h:wpAny (model prog w) A (eval e env) (fun o s₁=>wpAny (model prog w) A (getAttr o f true) Q E s₁) E s):wpAny (model prog w) A (eval (.Attribute e f pos) env) Q E s:=
 Attribute_any_ h (by rw[arm_eval_Attribute,hb])
end
def Ln(K:Q1)(ta:TE)(f:Str):TE:=fun σ H Q=>ta σ H fun x H1=>∃a C dx fs v,x=.ref a/\H1 a=some (.ins C dx fs)/\Cls K C/\iO K C f/\fs.lookup f=some v/\Q v H1
def Lq(K:Q1)(ta tv:TE)(f:Str):TS:=fun D σ H=>tv σ H fun y H1=>ta σ H1 fun x H2=>∃a C dx fs,x=.ref a/\H2 a=some (.ins C dx fs)/\Cls K C/\iO K C f/\fs.length<1000/\
 D.nx σ (upd H2 a (.ins C dx (mI f y fs)))
section
variable{X:Cx}{o e value:Expr}{f:Str}{pos pos':Pos}{ta tv:TE}
theorem GA(he:PE X e ta)(hb:attributeBase e f X.env (eval e X.env)=eval e X.env):PE X (.Attribute e f pos) (Ln X.K ta f):=by
 intro pins s σ H Q I h;refine D8 hb (thn (he pins s σ H _ I h) fun u s1 hz=>?_);obtain⟨x,H1,I1,rx,a,C,dx,fs,v,ex,ea,c,n,l,q⟩:=hz;subst ex;obtain rfl:u=Value.ref a:=rx;exact uz I1 ea c n l fun u' s2 I2 ru=>⟨v,H1,I2,ru,q⟩
theorem Gg(ha:PE X o ta)(hv:PE X value tv)(hs:swapsWith value (some (.Attribute o f pos')) pos.line X.env=pure false):PS X (.Assign [.Attribute o f pos'] value pos) (Lq X.K ta tv f):=by
 intro pins s σ H D I h;refine plainObj_wpAny_Assign_Attribute (thn (hv pins s σ H _ I h) fun u s1 ⟨y,H1,I1,ry,q⟩=>thn (ha pins s1 σ H1 _ I1 q) fun ov s2 hz=>?_) hs;obtain⟨x,H2,I2,rx,a,C,dx,fs,ex,ea,c,n,l,q2⟩:=hz;subst ex;obtain rfl:ov=Value.ref a:=rx;exact t9 I2 ea c n l ry fun s3 I3=>⟨σ,_,I3,q2⟩
end
section
variable{X:Cx}{pins:List (Addr×Obj)}{σ:St}{H:Hp}{s:Shared}{A:Around}{E:Value->Shared->Prop}{Q:Value->Shared->Prop}{c:Value}{b:Bool}
inductive tP(K:Q1)(H:Hp):V->Value->Prop where
 |non:tP K H .non (.type "NoneType")
 |bl (x:Bool):tP K H (.bl x) (.type "bool")
 |int (i:Int):tP K H (.int i) (.type "int")
 |str (x:Str):tP K H (.str x) (.type "str")
 |flt (x:UInt64):tP K H (.flt x) (.type "float")
 |lst {a:Addr} {xs:List V} (e:H a=some (.lst xs)):tP K H (.ref a) (.type "list")
 |frz {a:Addr} {o:Obj} {xs:List V} (e:H a=some (.frz o (.lst xs))):tP K H (.ref a) (.type "list")
 |tup {a:Addr} {xs:List V} (e:H a=some (.tup xs)):tP K H (.ref a) (.type "tuple")
 |dK {a:Addr} {kvs:List (Key×V)} (e:H a=some (.dK kvs)):tP K H (.ref a) (.type "dict")
 |dT {a:Addr} {kvs:List (List Key×V)} (e:H a=some (.dT kvs)):tP K H (.ref a) (.type "dict")
 | ins {a C dx:Addr} {fs:List (Str×V)} (e:H a=some (.ins C dx fs)) (cl:Cls K C) (ha:PySem.W.findIn K (.ref C) "__class__"=some (some (.builtin "object.__class__")))
   (hn:PySem.W.specialIn K (.builtin "object.__class__") "__get__"=some (some (.builtin "getset_descriptor.__get__"))) (htk:PySem.W.takesIn K (.builtin "object.__class__")=some true)
   (hm:PySem.W.mroIn K C (.type "object")=some true):tP K H (.ref a) (.ref C)
theorem xk{x:V}{u t:Value}(I:Inv X pins σ H s)(rx:bV x u)(ty:tP X.K H x t)(e:PySem.W.kitOne X.K t c=some b)(h:∀tk,Q (.bool b) { s with toks:=tk }) :
  wpAny (model X.prog X.w) A (call (.builtin "isinstance") [u,c]) Q E s:=by
 cases ty with
 |non=>cases (show u=Value.none from rx);exact PySem.W.kia_one PySem.W.kitx_none I.kIn True.intro e (fun z=>nomatch z) h
 |bl y=>cases (show u=Value.bool y from rx);exact PySem.W.kia_one PySem.W.kitx_bool I.kIn True.intro e (fun z=>nomatch z) h
 |int i=>obtain⟨t,q⟩:=(show ∃t,u=Value.int i t from rx);cases q;exact PySem.W.kia_one PySem.W.kitx_int I.kIn True.intro e (fun z=>nomatch z) h
 |str y=>obtain⟨t,q⟩:=(show ∃t,u=Value.str y t from rx);cases q;exact PySem.W.kia_one PySem.W.kitx_str I.kIn True.intro e (fun z=>nomatch z) h
 |flt y=>obtain⟨t,q⟩:=(show ∃t,u=Value.float y t from rx);cases q;exact PySem.W.kia_one PySem.W.kitx_float I.kIn True.intro e (fun z=>nomatch z) h
 |@lst a xs ea=>
  cases (show u=Value.ref a from rx);obtain⟨_,_,n,_,h1⟩:=(show bU X.prog X.w H s.heap a (.lst xs)from I.hok a _ ea);exact PySem.W.kia_one PySem.W.kitx_list I.kIn ⟨_,h1,rfl⟩ e (fun z=>nomatch z) h
 |@frz a ob xs ea=>
  cases (show u=Value.ref a from rx);obtain⟨_,_,_,n,_,h1⟩:=(show bU X.prog X.w H s.heap a (.frz ob (.lst xs))from I.hok a _ ea);exact PySem.W.kia_one PySem.W.kitx_list I.kIn ⟨_,h1,rfl⟩ e (fun z=>nomatch z) h
 |@tup a xs ea=>
  cases (show u=Value.ref a from rx);obtain⟨_,_,_,p⟩:=(show bU X.prog X.w H s.heap a (.tup xs)from I.hok a _ ea);obtain⟨o,h1,h2,_⟩:=p;exact PySem.W.kia_one PySem.W.kitx_tuple I.kIn ⟨o,h1,h2⟩ e (fun z=>nomatch z) h
 |@dK a kvs ea=>
  cases (show u=Value.ref a from rx);obtain⟨_,_,vs,_,p⟩:=(show bU X.prog X.w H s.heap a (.dK kvs)from I.hok a _ ea);obtain⟨o,es,ep,h1,h2,_⟩:=p;exact PySem.W.kia_one PySem.W.kitx_dict I.kIn ⟨o,h1,h2.1⟩ e (fun z=>nomatch z) h
 |@dT a kvs ea=>
  cases (show u=Value.ref a from rx);obtain⟨_,_,xs,_,o,es,ep,h1,h2,_⟩:=(show bU X.prog X.w H s.heap a (.dT kvs)from I.hok a _ ea);exact PySem.W.kia_one PySem.W.kitx_dict I.kIn ⟨o,h1,h2.1⟩ e (fun z=>nomatch z) h
 |@ins a C dx fs ea cl ha hn htk hm=>
  cases (show u=Value.ref a from rx);obtain⟨mA,O,_⟩:=n4 I.hok ea;obtain⟨od,J,_⟩:=O.look;exact PySem.W.kia_one (PySem.W.kitx_own (cl.get _) cl.hd ha hn htk hm) I.kIn J e (fun z=>nomatch z) h
end
structure fX(k:Nat)(A:Around):Prop where
 hd:A.handled=none
 dp:A.depth+3*k+5<recursionLimit
 un:A.units+16*k+200<cLine
 gd:A.guards=some []
theorem fX.mono{j k:Nat}{A:Around}(r:fX k A)(h:j<=k):fX j A:=⟨r.hd,by have:=r.dp;omega,by have:=r.un;omega,r.gd⟩
theorem fX.deeper{k:Nat}{A:Around}(r:fX (k+1) A)(env:Env):fX k (A.deeper env):=
 ⟨r.hd,by have:=r.dp;show A.depth+1+3*k+5<_;omega,by have:=r.un;show A.units+3+16*k+200<_;omega,r.gd⟩
theorem uh{A:Around}{C:Addr}{us:List Value}{kw:List (Str×Value)}:(A.under (.builtin "type.__call__" ⟨.ref C::us,kw⟩)).depth=A.depth+1:=by
 first|rfl|simp[Around.under,Code.weight,Code.isCreation,Code.isGuard,Code.isCaller,Code.frames,Code.isFrame,guardIds]
theorem ug{A:Around}{C:Addr}{us:List Value}{kw:List (Str×Value)}:(A.under (.builtin "type.__call__" ⟨.ref C::us,kw⟩)).units=A.units+1:=by
 first|rfl|simp[Around.under,Code.cUnits,Code.frames,Code.isFrame]
theorem fX.make{k:Nat}{A:Around}(r:fX (k+1) A)(C:Addr)(us:List Value)(kw:List (Str×Value)):fX k (A.under (.builtin "type.__call__" ⟨.ref C::us,kw⟩)):=
 ⟨r.hd,by have:=r.dp;rw[uh];omega,by have:=r.un;rw[ug];omega,r.gd⟩
theorem fX.depth{k:Nat}{A:Around}(r:fX k A):A.depth<recursionLimit:=by have:=r.dp;omega
theorem fX.units{k:Nat}{A:Around}(r:fX k A):A.units+64<cLine:=by have:=r.un;omega
def Ej:TA:=fun _ H Q=>Q [] H
def ze(ta:TE)(tr:TA):TA:=fun σ H Q=>ta σ H fun x H1=>tr σ H1 fun xs H2=>Q (x::xs) H2
section
variable{X:Cx}{e:Expr}{es:List Expr}{te:TE}{t:TA}{pos:Pos}
theorem GG:PA X [] Ej:=fun _ _ _ _ H Q I h=>Calls.spliced_nil ⟨[],H,I,.nil,h⟩
theorem C7(ha:PE X e te)(hr:PA X es t)(hs:starEach (e::es) X.env=(false,eval e X.env)::starEach es X.env:=by rfl):PA X (e::es) (ze te t):=by
 intro pos pins s σ H Q I h;rw[hs];show wpAny _ _ (spliced ((false,eval e X.env)::backTo pos (starEach es X.env))) _ _ s;refine Calls.spliced_cons (thn (ha pins s σ H _ I h) fun u s1 hz=>?_);obtain⟨x,H1,I1,r1,q1⟩:=hz;exact thn (hr pos pins s1 σ H1 _ I1 q1) fun us s2 ⟨xs,H2,I2,r2,q2⟩=>⟨x::xs,H2,I2,.cons r1 r2,q2⟩
def Lh(t:TA):TE:=fun σ H Q=>t σ H fun xs H1=>xs.length<=sizeLine/\∀p,H1 p=none->Q (.ref p) (upd H1 p (.tup xs))
def Ll(t:TA):TE:=fun σ H Q=>t σ H fun xs H1=>xs.length<=sizeLine/\∀p,H1 p=none->Q (.ref p) (upd H1 p (.lst xs))
theorem Gr{x1}(h:PA X es t):PE X (.Tuple es x1 pos) (Lh t):=by
 intro pins s σ H Q I hq;refine wpAny_Tuple_spliced (thn (h pos pins s σ H _ I hq) fun us s1 ⟨xs,H1,I1,r,z,q⟩=>⟨by rw[<-r.length];exact z,?_⟩);have hf:H1 s1.heap.objs.size=none:=I1.hok.fresh (QX _);refine⟨.ref s1.heap.objs.size,upd H1 s1.heap.objs.size (.tup xs),I1.laid (t':=s1.toks) (fun b u e=>QQ _ e) (QX _) ?_,rfl,q _ hf⟩;exact⟨z,us,r,⟨_,QY _ rfl,rfl,_,rfl⟩⟩
theorem Gx(h:PA X es t):PE X (.List es pos) (Ll t):=by
 intro pins s σ H Q I hq;refine wpAny_List_spliced (thn (h pos pins s σ H _ I hq) fun us s1 ⟨xs,H1,I1,r,z,q⟩=>⟨by rw[<-r.length];exact z,?_⟩);have hf:H1 s1.heap.objs.size=none:=I1.hok.fresh (QX _);refine⟨.ref s1.heap.objs.size,upd H1 s1.heap.objs.size (.lst xs),I1.laid (t':=s1.toks) (fun b u e=>QQ _ e) (QX _) ?_,rfl,q _ hf⟩;exact⟨z,us,0,r,QY _ rfl⟩
end
abbrev Sp:=List V->Hp->VK->XK->Prop
abbrev CXT:=List Env->Hp->Shared->XK->Value->Shared->Prop
structure Eg(P:Program)(w:World)(K:Q1)(mg:Str->Option Value)(base:Heap)(A:Around)(outer:List Env)(s:Shared)(H:Hp):Prop where
 frames:A.frames=some outer
 mod:Mod K mg base
 bs:∀b o,base.get? b=some o->s.heap.get? b=some o/\H b=none
 bsz:base.objs.size<=s.heap.objs.size
 funs:s.heap.FunFrames base outer
 frf:∀b∈frs outer,H b=none
 hok:HOk P w H s.heap
 bare:AllBare s.gens
def CE(outer:List Env)(P:Program)(w:World)(H:Hp)(s:Shared)(Q:VK)(u:Value)(s':Shared):Prop:=
 ∃v H',s'.os=s.os/\AllBare s'.gens/\Un (frs outer) [] H H' s.heap s'.heap/\HOk P w H' s'.heap/\bV v u/\Q v H'
def CR(CX:CXT)(outer:List Env)(P:Program)(w:World)(H:Hp)(s:Shared)(Q:VK)(E:XK)(r:Result)(s':Shared):Prop:=
 match r with
 |.ok (.ret u)=>CE outer P w H s Q u s'
 |.ok _=>False
 |.error e=>CX outer H s E e s'
structure kh(P:Program)(w:World)(K:Q1)(mg:Str->Option Value)(base:Heap)(CX:CXT)(k:Nat)(f:Addr)(fd:FuncData)(ps:List Str)(sp:Sp):Prop where
 len:∀vs H Q E,sp vs H Q E->vs.length=ps.length
 run:∀(A:Around) (outer:List Env) (s:Shared) (H:Hp) (args:Args) (us:List Value) (vs:List V) (Q:VK) (E:XK),fX k A->Eg P w K mg base A outer s H->BindsTo s fd args (ps.zip us)->bP vs us->sp vs H Q E->
  codeAny (model P w) A (.call (.ref f) args) (CR CX outer P w H s Q E) s
theorem kh.mono{P:Program}{w:World}{K:Q1}{mg:Str->Option Value}{base:Heap}{CX:CXT}{j k:Nat}{f:Addr}{fd:FuncData}{ps:List Str}{sp:Sp}(F:kh P w K mg base CX j f fd ps sp)(h:j<=k) :
  kh P w K mg base CX k f fd ps sp:=⟨F.len,fun A outer s H args us vs Q E hr=>F.run A outer s H args us vs Q E (hr.mono h)⟩
theorem Eg.make{P:Program}{w:World}{K:Q1}{mg:Str->Option Value}{base:Heap}{A:Around}{outer:List Env}{s:Shared}{H:Hp}(e:Eg P w K mg base A outer s H)(C:Addr)(us:List Value)(kw:List (Str×Value)) :
  Eg P w K mg base (A.under (.builtin "type.__call__" ⟨.ref C::us,kw⟩)) outer s H:=⟨by first|exact e.frames|(simpa [Around.under,Code.envs,Code.isFrame,pushEnvs] using e.frames),e.mod,e.bs,e.bsz,e.funs,e.frf,e.hok,e.bare⟩
section
variable{X:Cx}{pins:List (Addr×Obj)}{σ:St}{H:Hp}{s s':Shared}
theorem Inv.env0(I:Inv X pins σ H s):Eg X.prog X.w X.K X.mg X.base X.A X.stack s H:=
 ⟨I.ok.frames,I.ok.mod,I.bs,Qd I.ok.bsz I.sz,I.stack,I.stkFree,I.hok,I.bare⟩
theorem Inv.after{Q:VK}{u:Value}(I:Inv X pins σ H s)(h:CE X.stack X.prog X.w H s Q u s'):EP X pins σ Q u s':=by
 obtain⟨v,H',os,bare,un,hok,r,q⟩:=h;obtain⟨hh,g,d,t,os'⟩:=s';obtain rfl:os'=s.os:=os;exact⟨v,H',I.call (h':=hh) (g':=g) (d':=d) (t':=t) (ch:=[]) un hok bare (fun b z=>absurd z (by simp)),r,q⟩
end
def FK(sp:Sp)(dvs:List V)(E:XK)(t:TA):TE:=fun σ H Q=>t σ H fun vs H1=>sp (vs++dvs) H1 Q E
def Cm(C:Addr)(m:Str)(sp:Sp)(dvs:List V)(E:XK)(ta:TE)(t:TA):TE:=fun σ H Q=>ta σ H fun x H1=>∃a dx fs,x=.ref a/\H1 a=some (.ins C dx fs)/\fs.lookup m=none/\
 t σ H1 fun vs H2=>sp (x::(vs++dvs)) H2 Q E
def vI(C:Addr)(sp:Sp)(dvs:List V)(E:XK)(t:TA):TE:=fun σ H Q=>t σ H fun vs H1=>∀x dx,H1 x=none->H1 dx=none->dx≠x->
 sp (.ref x::(vs++dvs)) (upd (upd H1 dx (.own x)) x (.ins C dx [])) (fun v H2=>v=.non/\Q (.ref x) H2) E
def gI(K:Q1)(fd:FuncData)(ps:List Str)(ds:List Value):Prop:=
 ∀(s:Shared) (us:List Value),K.In s.heap->(us++ds).length=ps.length->BindsTo s fd ⟨us,[]⟩ (ps.zip (us++ds))
theorem gI.all{K:Q1}{fd:FuncData}{ps:List Str}(h:∀us:List Value,us.length=ps.length->bindArgs fd ⟨us,[]⟩=pure (ps.zip us)):gI K fd ps []:=fun s us _ hl=>by
 rw[QB]at hl ⊢;exact .of_eq (h us hl)
def iN(CX:CXT)(X:Cx)(E:XK):Prop:=∀(pins:List (Addr×Obj)) (σ:St) (H:Hp) (s:Shared) (e:Value) (s':Shared),Inv X pins σ H s->CX X.stack H s E e s'->X.xe e s'
section
variable{X:Cx}{CX:CXT}{k:Nat}{f C:Addr}{fd:FuncData}{ps:List Str}{sp:Sp}{dvs:List V}{ds:List Value}{E:XK}{x m:Str}{p pos apos:Pos}{e o:Expr}{es:List Expr}{ta:TE}{t:TA}
theorem AS{pins:List (Addr×Obj)}{σ:St}{H:Hp}{s:Shared}{Q:VK}{us:List Value}{vs:List V}(F:kh X.prog X.w X.K X.mg X.base CX k f fd ps sp)(hr:fX k X.A)(hb:gI X.K fd ps ds)(hd:bP dvs ds)(hx:iN CX X E)
  (I:Inv X pins σ H s) (r:bP vs us) (h:sp (vs++dvs) H Q E):wpAny (model X.prog X.w) X.A (call (.ref f) us) (EP X pins σ Q) X.xe s:=by
 have r2:bP (vs++dvs) (us++ds):=r.append hd;have hl:(us++ds).length=ps.length:=by rw[<-r2.length];exact F.len _ _ _ _ h
 refine wpAny_call (codeAny_mono (F.run X.A X.stack s H ⟨us,[]⟩ (us++ds) (vs++dvs) Q E hr I.env0 (hb s us I.kIn hl) r2 h) fun r s' hq=>?_);cases r with
 |error e=>exact hx pins σ H s e s' I hq
 |ok fl=>
  cases fl with
  |ret u=>exact I.after hq
  |next=>exact False.elim hq
  |brk=>exact False.elim hq
  |cont=>exact False.elim hq
theorem C5(F:kh X.prog X.w X.K X.mg X.base CX k f fd ps sp)(hr:fX k X.A)(hg:Gl X x)(hm:X.mg x=some (.ref f))(hk:PySem.W.keepIn X.K (.ref f)=true)(hb:gI X.K fd ps ds)(hd:bP dvs ds)(hx:iN CX X E)
  (ha:PA X (e::es) t) (hdb:(x == ("__debug__":Str))=false:=by decide) (he:starEach (e::es) X.env=(false,eval e X.env)::starEach es X.env:=by rfl) (hpl:(backTo pos (starEach es X.env)).any (·.1)=false:=by rfl) :
  PE X (.Call (.Name x p) (e::es) [] pos) (FK sp dvs E t):=by
 intro pins s σ H Q I h;refine wpAny_Call_Name_kw (nY I hg hm ?_ hdb);refine PySem.W.callWith_K (h₀:=X.base) I.ok.mod.kin hk (thn (ha pos pins s σ H _ I h) fun us s1 ⟨vs,H1,I1,r,q⟩=>⟨I1.kIn,?_⟩) he hpl;exact AS F hr hb hd hx I1 r q
theorem CW{pl:Sem Bool}(he:PE X o ta)(c:Cls X.K C)(hm:Ik X.K C m f)(F:kh X.prog X.w X.K X.mg X.base CX k f fd ps sp)(hr:fX k X.A)(hb:gI X.K fd ps ds)(hd:bP dvs ds)(hx:iN CX X E)(ha:PA X (e::es) t)
  (hst:starEach (e::es) X.env=(false,eval e X.env)::starEach es X.env:=by rfl) (hpl:(backTo pos (starEach es X.env)).any (·.1)=false:=by rfl)
  (ht:eval (.Call (.Attribute o m apos) (e::es) [] pos) X.env=(do
   let ov <-eval o X.env
   standAt apos.atName
   let (f,first) <-holding [ov] (getMethod ov m pl)
   callWith pos f first (backTo pos (starEach (e::es) X.env)) (backToKw pos (keywordEach [] X.env))):=by rfl) :
  PE X (.Call (.Attribute o m apos) (e::es) [] pos) (Cm C m sp dvs E ta t):=by
 intro pins s σ H Q I h;refine PySem.W.methodCall_KW (pl:=pl) (thn (he pins s σ H _ I h) fun u s1 hz=>?_) ht;obtain⟨x,H1,I1,rx,a,dx,fs,ex,ea,l,q⟩:=hz;subst ex;obtain rfl:u=Value.ref a:=rx;refine uy I1 ea c hm l ?_;refine PySem.W.callWith_K (first:=[.ref a]) (h₀:=X.base) I.ok.mod.kin hm.kp (thn (ha pos pins s1 σ H1 _ I1 q) fun us s2 ⟨vs,H2,I2,r,q2⟩=>⟨I2.kIn,?_⟩) hst hpl;exact AS (us:=.ref a::us) (vs:=.ref a::vs) F hr hb hd hx I2 (.cons rfl r) q2
structure Mk(K:Q1)(C f:Addr):Prop where
 makes:PySem.W.makesIn K C=true
 init:PySem.W.findIn K (.ref C) "__init__"=some (some (.ref f))
 fn:PySem.W.isFn K (.ref f)=true
 kp:PySem.W.keepIn K (.ref C)=true
theorem rR{pins:List (Addr×Obj)}{σ:St}{H:Hp}{s:Shared}{Q:VK}{us:List Value}{vs:List V}(M:Mk X.K C f)(F:kh X.prog X.w X.K X.mg X.base CX k f fd ps sp)(hr:fX (k+1) X.A)(hb:gI X.K fd ps ds)(hd:bP dvs ds)
  (hx:iN CX X E) (I:Inv X pins σ H s) (r:bP vs us)
  (h:∀x dx,H x=none->H dx=none->dx≠x->sp (.ref x::(vs++dvs)) (upd (upd H dx (.own x)) x (.ins C dx [])) (fun v H2=>v=.non/\Q (.ref x) H2) E) :
  wpAny (model X.prog X.w) X.A (call (.ref C) us) (EP X pins σ Q) X.xe s:=by
 have hq:=h (s.heap.objs.size+1) s.heap.objs.size (I.hok.fresh (Nat.le_succ _)) (I.hok.fresh (QX _)) (QL (Nat.lt_succ_self _));have I2:=Inv.made (C:=C) I;have r2:bP (V.ref (s.heap.objs.size+1)::(vs++dvs)) (Value.ref (s.heap.objs.size+1)::(us++ds)):=.cons rfl (r.append hd);have hl:(Value.ref (s.heap.objs.size+1)::us++ds).length=ps.length:=by
  have e:=r2.length;rw[F.len _ _ _ _ hq]at e;exact e.symm
 refine wpAny_call (z5 (f:=f) I.kIn M.makes M.init (beq_iff_eq.mp M.fn) (codeAny_mono (F.run _ X.stack _ _ ⟨Value.ref (s.heap.objs.size+1)::us,[]⟩ (Value.ref (s.heap.objs.size+1)::(us++ds)) _ _ E (hr.make C us [])
  (I2.env0.make C us []) (hb _ (Value.ref (s.heap.objs.size+1)::us) I2.kIn hl) r2 hq) fun r s' hq'=>?_))
 cases r with
 |error e=>exact hx pins σ _ _ e s' I2 hq'
 |ok fl=>
  cases fl with
  |ret u=>
   obtain⟨v,H',I3,rv,ev,q3⟩:=I2.after hq';subst ev;exact⟨rv,⟨V.ref (s.heap.objs.size+1),H',I3,rfl,q3⟩⟩
  |next=>exact False.elim hq'
  |brk=>exact False.elim hq'
  |cont=>exact False.elim hq'
theorem CY(M:Mk X.K C f)(F:kh X.prog X.w X.K X.mg X.base CX k f fd ps sp)(hr:fX (k+1) X.A)(hg:Gl X x)(hm:X.mg x=some (.ref C))(hb:gI X.K fd ps ds)(hd:bP dvs ds)(hx:iN CX X E)
  (ha:PA X (e::es) t) (hdb:(x == ("__debug__":Str))=false:=by decide) (he:starEach (e::es) X.env=(false,eval e X.env)::starEach es X.env:=by rfl) (hpl:(backTo pos (starEach es X.env)).any (·.1)=false:=by rfl) :
  PE X (.Call (.Name x p) (e::es) [] pos) (vI C sp dvs E t):=by
 intro pins s σ H Q I h;refine wpAny_Call_Name_kw (nY I hg hm ?_ hdb);refine PySem.W.callWith_K (h₀:=X.base) I.ok.mod.kin M.kp (thn (ha pos pins s σ H _ I h) fun us s1 ⟨vs,H1,I1,r,q⟩=>⟨I1.kIn,?_⟩) he hpl;exact rR M F hr hb hd hx I1 r q
theorem zG(M:Mk X.K C f)(F:kh X.prog X.w X.K X.mg X.base CX k f fd ps sp)(hr:fX (k+1) X.A)(hg:Gl X x)(hm:X.mg x=some (.ref C))(hb:gI X.K fd ps ds)(hd:bP dvs ds)(hx:iN CX X E)
  (hdb:(x == ("__debug__":Str))=false:=by decide):PE X (.Call (.Name x p) [] [] pos) (vI C sp dvs E Ej):=by
 intro pins s σ H Q I h;refine wpAny_Call_Name_kw (nY I hg hm ?_ hdb);exact PySem.W.callWith_K0 I.kIn M.kp (rR (us:=[]) M F hr hb hd hx I .nil h)
end
structure aP(N P:List Str)(sc:Scope):Prop where
 kind:sc.kind=.function
 co:sc.isCoroutine=false
 gen:sc.isGenerator=false
 nd:N.Nodup
 pre:N.take P.length=P
 par:∀x∈P,sc.names.lookup x=some .local\/sc.names.lookup x=some .cell
 nofree:∀y∈sc.names,y.2≠.free
theorem qb{kindOf:Str->Option NameKind}{x:Str}:∀{binds:List (Str×Value)} {m:Str->Option Value},(∀v,(x,v)∉binds)->bindL kindOf binds m x=m x
 |[],_,_=>rfl
 |(n,v)::r,m,h=>by
  unfold bindL;rw[qb fun w hw=>h w (Qq _ hw)];split
  ·have:x≠n:=by rintro rfl;exact h v Qx
   simp[this]
  ·rfl
theorem qd{kindOf:Str->Option NameKind}{x:Str}:∀{binds:List (Str×Value)} {m:Str->Option Value},(∀v,(x,v)∉binds)->bindC kindOf binds m x=m x
 |[],_,_=>rfl
 |(n,v)::r,m,h=>by
  unfold bindC;rw[qd fun w hw=>h w (Qq _ hw)];split
  ·rfl
  ·have:x≠n:=by rintro rfl;exact h v Qx
   simp[this]
theorem qc{kindOf:Str->Option NameKind}{x:Str}{v:Value}:∀{P:List Str} {vs:List Value} {i:Nat} {m:Str->Option Value},P.Nodup->P[i]?=some x->vs[i]?=some v->kindOf x=some .local->
  bindL kindOf (P.zip vs) m x=some v
 |[],_,_,_,_,h,_,_=>by simp at h
 |_::_,[],_,_,_,_,h,_=>by simp at h
 |p::P,w::vs,0,m,nd,h1,h2,hk=>by
  simp at h1 h2;subst h1;subst h2;show bindL kindOf ((p,w)::P.zip vs) m p=_;unfold bindL;rw[qb fun v hv=>(ZX.mp nd).1 (List.of_mem_zip hv).1,if_pos hk];simp
 |p::P,w::vs,i+1,m,nd,h1,h2,hk=>by
  show bindL kindOf ((p,w)::P.zip vs) m x=_;unfold bindL;exact qc (i:=i) (ZX.mp nd).2 (by simpa using h1) (by simpa using h2) hk
theorem qe{kindOf:Str->Option NameKind}{x:Str}{v:Value}:∀{P:List Str} {vs:List Value} {i:Nat} {m:Str->Option Value},P.Nodup->P[i]?=some x->vs[i]?=some v->kindOf x≠some .local->
  bindC kindOf (P.zip vs) m x=some v
 |[],_,_,_,_,h,_,_=>by simp at h
 |_::_,[],_,_,_,_,h,_=>by simp at h
 |p::P,w::vs,0,m,nd,h1,h2,hk=>by
  simp at h1 h2;subst h1;subst h2;show bindC kindOf ((p,w)::P.zip vs) m p=_;unfold bindC;rw[qd fun v hv=>(ZX.mp nd).1 (List.of_mem_zip hv).1,if_neg hk];simp
 |p::P,w::vs,i+1,m,nd,h1,h2,hk=>by
  show bindC kindOf ((p,w)::P.zip vs) m x=_;unfold bindC;exact qe (i:=i) (ZX.mp nd).2 (by simpa using h1) (by simpa using h2) hk
def start(N:List Str)(vs:List V):St:=vs.map some++Qa (N.length-vs.length) none
def tj(CX:CXT)(P:Program)(w:World)(K:Q1)(mg:Str->Option Value)(base:Heap)(N:List Str)(qual:Str)(scope:Scope)(f:Addr)(cd:Value)(A:Around)(outer:List Env)(s:Shared)(H:Hp)(E:XK):Cx where
 prog:=P
 w:=w
 K:=K
 mg:=mg
 base:=base
 A:=A.deeper (envOfC qual scope s.heap.objs.size f cd)
 N:=N
 s₀:=s
 H₀:=H
 env:=envOfC qual scope s.heap.objs.size f cd
 outer:=outer
 stack:=envOfC qual scope s.heap.objs.size f cd::outer
 ex:=[]
 calm:=true
 fn:=fun _=>true
 pn:=[]
 xe:=fun e s'=>wpAny (model P w) (A.deeper (envOfC qual scope s.heap.objs.size f cd)) (leaving (envOfC qual scope s.heap.objs.size f cd) e) (fun _ s''=>CX outer H s E e s'') (fun e' s''=>CX outer H s E e' s'') s'
theorem tF{sc:Scope}{n:Nat}{x:Str}(h:sc.names.lookup x=some .cell):∃c,(cellsFrom n sc.names []).lookup x=some c:=by
 have q:=PySem.W.cellsFrom_some sc.names n [] (.inl h);exact Option.isSome_iff_exists.mp q
theorem xq{CX:CXT}{P:Program}{w:World}{K:Q1}{mg:Str->Option Value}{base:Heap}{N ps:List Str}{qual:Str}{scope:Scope}{f:Addr}{cd:Value}{A:Around}{outer:List Env}{s s1:Shared}{H:Hp}{E:XK}{us:List Value}{vs:List V}
  (S:aP N ps scope) (hd:A.handled=none) (e0:Eg P w K mg base A outer s H) (hl:vs.length=ps.length) (r:bP vs us)
  (x:InCallC s s.heap.objs.size (bindL (envOfC qual scope s.heap.objs.size f cd).kindOf (ps.zip us) fun _=>none) (cellsFrom (s.heap.objs.size+1) scope.names []) (bindC (envOfC qual scope s.heap.objs.size f cd).kindOf (ps.zip us) fun _=>none) s1) :
  Inv (tj CX P w K mg base N qual scope f cd A outer s H E) [] (start N vs) H s1:=by
 have hpl:ps.length<=N.length:=by have:=congrArg List.length S.pre;rw[List.length_take]at this;omega
 obtain⟨h1,tk,rfl,hk⟩:=x.done;have noA:∀b:Addr,b∉(tj CX P w K mg base N qual scope f cd A outer s H E).ex:=fun b z=>absurd (show b∈([]:List Addr)from z) (by simp);refine⟨⟨e0.mod,S.kind,rfl,rfl,QX _,fun y z c h1 h2=>?_,fun y hy=>?_,fun y c _ h=>?_,fun _=>hd,Around.frames_deeper e0.frames,.inr ⟨rfl,rfl⟩,fun b z=>absurd z (noA b),e0.bs,e0.bsz,fun b _ _=>noA b,fun b z=>absurd z (noA b),e0.funs,e0.frf⟩,
  rfl,e0.bare,Un.kept hk,⟨_,x.toInCall.ns,fun i y v h1 h2 h3=>?_⟩,fun y c h=>⟨_,x.cell y c h⟩,e0.hok.fresh (QX _),fun y c h=>?_,fun p hp=>absurd (show p∈([]:List (Addr×Obj))from hp) (by simp),e0.hok.kept hk,?_⟩
 ·exact name_of_addr x.apart (PySem.mem_of_lookup h1) (PySem.mem_of_lookup h2)
 ·have hy:scope.names.lookup y=some .cell\/scope.names.lookup y=some .free:=hy;rcases hy with hy|hy
  ·exact tF hy
  ·exact absurd rfl (S.nofree _ (PySem.mem_of_lookup hy))
 ·exact Nat.le_of_lt (x.above y c (PySem.mem_of_lookup h))
 ·have hi:i<vs.length:=by
   unfold start at h2;by_cases hi:i<vs.length
   ·exact hi
   ·rw[Qv (by simpa using hi)]at h2;rw[ZQ]at h2;split at h2<;>cases h2
  have ha:vs[i]?=some v:=by
   unfold start at h2;rw[QZ (by simpa using hi),QC]at h2;cases e:vs[i]? with
   |none=>rw[e]at h2;cases h2
   |some a=>rw[e]at h2;cases h2;rfl
  obtain⟨u,hu,rv⟩:=r.get ha;have hp:ps[i]?=some y:=by
   rw[<-S.pre,List.getElem?_take_of_lt (by omega)];exact h1
  have ndP:ps.Nodup:=by rw[<-S.pre];exact S.nd.sublist (List.take_sublist _ _)
  refine⟨u,rv,?_⟩;rcases S.par y (List.mem_of_getElem? hp)with k|k
  ·exact .inl ⟨k,qc ndP hp hu k⟩
  ·obtain⟨c,e⟩:=tF (n:=s.heap.objs.size+1) k;refine .inr ⟨.inl k,c,e,?_⟩;have q:=x.cell y c e;rw[qe ndP hp hu (by show scope.names.lookup y≠_;rw[k];decide)]at q;exact q
 ·exact e0.hok.fresh (Nat.le_of_lt (x.above y c (PySem.mem_of_lookup h)))
 ·unfold start;show _=N.length;rw[Q7,Q6,List.length_replicate];omega
theorem K1{CX:CXT}{P:Program}{w:World}{K:Q1}{mg:Str->Option Value}{base:Heap}{k:Nat}{f:Addr}{name qual:Str}{params:Arguments}{body:List Stmt}{scope:Scope}{dV kV doc pm cdv ct oc:Value}{an od:Option Addr}
  {osl:Array (Option Value)} {N ps:List Str} {sp:Sp} (lk:K.lookup f=some ⟨oc,od,.func (PySem.W.fnOf name qual params body scope dV kV doc pm an cdv ct),osl⟩) (hcd:PySem.W.codeIn K cdv qual=true) (S:aP N ps scope)
  (len:∀vs H Q E,sp vs H Q E->vs.length=ps.length)
  (hbody:∀(A:Around) (outer:List Env) (s:Shared) (H:Hp) (vs:List V) (Q:VK) (E:XK),fX k (A.deeper (envOfC qual scope s.heap.objs.size f cdv))->sp vs H Q E->
   ∃t,PSs (tj CX P w K mg base N qual scope f cdv A outer s H E) body t/\t { nx:=fun _ H'=>Q .non H',rt:=Q } (start N vs) H) :
  kh P w K mg base CX (k+1) f (PySem.W.fnOf name qual params body scope dV kV doc pm an cdv ct) ps sp:=by
 refine⟨len,fun A outer s H args us vs Q E hr e0 hb r hsp=>?_⟩;have hl:=len _ _ _ _ hsp;have KX:K.In s.heap:=e0.mod.kin.keeps fun b o e=>(e0.bs b o e).1;have lim:s.heap.NoLimit:=e0.mod.nolimit.keeps fun b o e=>(e0.bs b o e).1;have hkind:∀y∈ps.zip us,scope.names.lookup y.1=some .local\/(scope.names.lookup y.1=some .cell/\((cellsFrom (s.heap.objs.size+1) scope.names []).lookup y.1).isSome=true):=fun⟨n,v⟩ hy=>by
  rcases S.par n (List.of_mem_zip hy).1 with q|q
  ·exact .inl q
  ·exact .inr ⟨q,PySem.W.cellsFrom_some _ _ _ (.inl q)⟩
 refine codeAny_call_function hr.depth (KX _ _ lk) rfl S.co S.gen rfl (PySem.W.codeRec_of KX hcd) (hb _ _ _ _ ?_);refine wpAny_newFunctionEnv_cells S.kind hkind fun env he s1 x=>?_;subst he;refine⟨lim.keeps x.toInCall.keep,codeAny_func ?_⟩;obtain⟨t,ht,hq⟩:=hbody A outer s H vs Q E (hr.deeper _) hsp;have I:Inv (tj CX P w K mg base N qual scope f cdv A outer s H E) [] (start N vs) H s1:=xq S hr.hd e0 hl r x;refine Z4 (ht [] s1 (start N vs) H _ I hq) (fun fl s' hs=>?_) fun e s' hs=>hs;have fin:∀{σ':St} {H':Hp} {v:V} {u:Value},Inv (tj CX P w K mg base N qual scope f cdv A outer s H E) [] σ' H' s'->bV v u->Q v H'->CE outer P w H s Q u s':=
  fun{σ' H' v u} J rv q=>⟨v,H',J.os,J.bare,J.base,J.hok,rv,q⟩
 cases fl with
 |ret u=>
  obtain⟨v,σ',H',J,rv,q⟩:=hs;exact fin J rv q
 |next=>
  obtain⟨σ',H',J,q⟩:=hs;exact fin (v:=V.non) (u:=Value.none) J rfl q
 |brk=>
  obtain⟨_,_,_,q⟩:=hs;exact False.elim q
 |cont=>
  obtain⟨_,_,_,q⟩:=hs;exact False.elim q
section
variable{X:Cx}{x:Str}{p pos:Pos}{e:Expr}{es:List Expr}{t:TA}{id T:String}{r:List V->Hp->VK->Prop}
def tCB(r:List V->Hp->VK->Prop)(t:TA):TE:=fun σ H Q=>t σ H fun vs H1=>r vs H1 Q
theorem zK(hc:eZ X (.builtin id) r)(hg:Gl X x)(hm:X.mg x=none)(hv:bootBuiltins x=some (.builtin id))(ha:PA X (e::es) t)(hn:x≠"__name__":=by decide)(hdb:(x == ("__debug__":Str))=false:=by decide)
  (he:starEach (e::es) X.env=(false,eval e X.env)::starEach es X.env:=by rfl) (hpl:(backTo pos (starEach es X.env)).any (·.1)=false:=by rfl):PE X (.Call (.Name x p) (e::es) [] pos) (tCB r t):=by
 intro pins s σ H Q I h;refine wpAny_Call_Name_kw (j9 I hg hm hv ?_ hn hdb);exact PyProof.Rows.callWith_builtin1 (thn (ha pos pins s σ H _ I h) fun us s1 ⟨vs,H1,I1,r1,q1⟩=>hc pins s1 σ H1 vs us Q I1 r1 q1) he hpl
theorem wz(hc:eZ X (.type T) r)(hg:Gl X x)(hm:X.mg x=none)(hv:bootBuiltins x=some (.type T))(ha:PA X (e::es) t)(hn:x≠"__name__":=by decide)(hdb:(x == ("__debug__":Str))=false:=by decide)
  (he:starEach (e::es) X.env=(false,eval e X.env)::starEach es X.env:=by rfl) (hpl:(backTo pos (starEach es X.env)).any (·.1)=false:=by rfl):PE X (.Call (.Name x p) (e::es) [] pos) (tCB r t):=by
 intro pins s σ H Q I h;refine wpAny_Call_Name_kw (j9 I hg hm hv ?_ hn hdb);exact PyProof.Rows.callWith_type1 (thn (ha pos pins s σ H _ I h) fun us s1 ⟨vs,H1,I1,r1,q1⟩=>hc pins s1 σ H1 vs us Q I1 r1 q1) he hpl
end
end L2
namespace HT
open PySem PyProof.Rows
section
variable{prog:Program}{w:World}{A:Around}{E:Value->Shared->Prop}{s:Shared}
theorem cat_tup{t b:Addr}{vs ws:List Value}{Q:Value->Shared->Prop}(ht:IsTup s.heap t vs.toArray)(hb:IsTup s.heap b ws.toArray)(hv:vs≠[])
  (h1:ws=[]->Q (.ref t) s) (h2:ws≠[]->Q (.ref s.heap.objs.size) { s with heap:=s.heap.push { cls:=.type "tuple",data:=.seq (vs++ws).toArray } })
  (hsz:vs.length+ws.length<=sizeLine):wpAny (model prog w) A (binaryOp .Add (.ref t) (.ref b)) Q E s:=by
 obtain⟨⟨cls,dd,data,sl⟩,ho,hc,n,hd⟩:=id ht;obtain⟨⟨cls2,dd2,data2,sl2⟩,ho2,hc2,n2,hd2⟩:=id hb;simp only at hc hd hc2 hd2;subst hc hd hc2 hd2;have e:vs.toArray++ws.toArray=(vs++ws).toArray:=by simp
 by_cases hw:ws=[]
 ·exact concat_meets ⟨_,ho,rfl⟩ ⟨_,ho2,rfl⟩ noFill_tuple_add seq_tuple_add PySem.F.slot_tuple_add PySem.F.entry_tuple_add (PySem.F.args_tuple_add_2 _ _)
   (tuple_addW1 t b vs.toArray ws.toArray n n2 dd dd2 sl sl2 (by simpa using hv) (by simp[hw])) ⟨ho,ho2,h1 hw⟩
 ·refine concat_meets ⟨_,ho,rfl⟩ ⟨_,ho2,rfl⟩ noFill_tuple_add seq_tuple_add PySem.F.slot_tuple_add PySem.F.entry_tuple_add (PySem.F.args_tuple_add_2 _ _)
   (tuple_addW2 t b vs.toArray ws.toArray n n2 dd dd2 sl sl2 (by simpa using hv) (by simpa using hw) (by rw[QH,QH];exact hsz)) ⟨ho,ho2,?_⟩
  rw[e];exact h2 hw
def sIx(n d:Nat):Option Int->Nat
 |none=>d
 |some v=>if v<0 then(v+(n:Int)).toNat else min v.toNat n
theorem FT(n d:Nat)(hd:d<=n)(o:Option Int):sIx n d o<=n:=by
 cases o with
 |none=>exact hd
 |some v=>
  show(if v<0 then(v+(n:Int)).toNat else min v.toNat n)<=n;by_cases hv:v<0
  ·rw[if_pos hv];omega
  ·rw[if_neg hv];exact Nat.min_le_right _ _
theorem ye(v:Int)(n d:Nat):(if v<0 then max (v+(n:Int)) 0 else min v (n:Int))=((sIx n d (some v):Nat):Int):=by
 show(if v<0 then max (v+(n:Int)) 0 else min v (n:Int))=(((if v<0 then(v+(n:Int)).toNat else min v.toNat n):Nat):Int);by_cases hv:v<0
 ·simp only[if_pos hv];omega
 ·simp only[if_neg hv];omega
theorem uP(lo hi:Option Int)(n:Nat):Builtin.Slice.sliceAdjust lo hi 1 (n:Int)=(((sIx n 0 lo:Nat):Int),((sIx n n hi:Nat):Int)):=by
 have h1:¬((1:Int)<0):=by omega
 unfold Builtin.Slice.sliceAdjust;simp only[h1,if_false];refine Prod.ext ?_ ?_
 ·cases lo with
  |none=>rfl
  |some v=>exact ye v n 0
 ·cases hi with
  |none=>rfl
  |some v=>exact ye v n n
theorem uc(i j:Nat):Builtin.Slice.slicePlaces (i:Int) (j:Int) 1=j-i:=by
 unfold Builtin.Slice.slicePlaces;have h1:(1:Int)>0:=by omega
 simp only[h1,if_true,Int.ediv_one];split<;>omega
theorem mV{v:Value}{o:Option Int}{Q:Option Int->Shared->Prop}(p:IsPart v o)(h:Q o s):wpAny (model prog w) A (Builtin.Slice.slicePartIndex v) Q E s:=by
 cases p with
 |none=>exact slicePart_none h
 |int i t=>exact slicePart_int h
theorem kj{sl:Addr}{vl vu:Value}{lo hi:Option Int}{n:Nat}{Q:Int×Int×Nat->Shared->Prop}(hs:s.heap.IsSliceOf sl vl vu .none)(pl:IsPart vl lo)(pu:IsPart vu hi)
  (h:Q (((sIx n 0 lo:Nat):Int),1,sIx n n hi-sIx n 0 lo) s):wpAny (model prog w) A (Builtin.Slice.sliceApplied (.ref sl) (pure (n:Int))) Q E s:=by
 obtain⟨os,hos,hcs,hds⟩:=id hs;unfold Builtin.Slice.sliceApplied Builtin.Slice.sliceFields;refine Q2 (Q2 (wpAny_field hos hds (x:=vl) rfl (Q2 (wpAny_field hos hds (x:=vu) rfl (Q2 (wpAny_field hos hds (x:=.none) rfl (Q9 ?_)))))));refine Q2 (slicePart_none ?_);show wpAny _ _ (if ((1:Int) == 0)=true then _ else _) _ _ s;rw[if_neg (by decide)];refine Q2 (mV pl (Q2 (mV pu (Q2 (Q9 ?_)))));show wpAny _ _ (match Builtin.Slice.sliceAdjust lo hi 1 (n:Int)with|(lo,hi)=>pure (lo,(1:Int),Builtin.Slice.slicePlaces lo hi 1)) _ _ s;rw[uP lo hi n];show wpAny _ _ (pure (((sIx n 0 lo:Nat):Int),(1:Int),Builtin.Slice.slicePlaces ((sIx n 0 lo:Nat):Int) ((sIx n n hi:Nat):Int) 1)) _ _ s;rw[uc];exact Q9 h
theorem zD(xs:Array Value)(i k:Nat):((Qr k).filterMap fun(m:Nat)=>xs[((i:Int)+(m:Int)*1).toNat]?).toArray=((xs.toList.drop i).take k).toArray:=by
 have e:(fun(m:Nat)=>xs[((i:Int)+(m:Int)*1).toNat]?)=fun m=>xs[i+m]?:=by
  funext m;have:((i:Int)+(m:Int)*1).toNat=i+m:=by omega
  rw[this]
 rw[e];have:=pick_run xs i k;rw[List.filterMap_map]at this;have e2:((fun x=>xs[x]?) ∘ fun x=>i+x)=fun m=>xs[i+m]?:=rfl;rw[e2]at this;rw[this]
theorem getItem_tuple_cut{t sl:Addr}{items:Array Value}{vl vu:Value}{lo hi:Option Int}{Q:Value->Shared->Prop}(ht:IsTup s.heap t items)(hs:s.heap.IsSliceOf sl vl vu .none)(pl:IsPart vl lo)(pu:IsPart vu hi)
  (hw:¬(sIx items.size 0 lo=0/\sIx items.size items.size hi=items.size))
  (h:Q (.ref s.heap.objs.size) { s with heap:=s.heap.push { cls:=.type "tuple",data:=.seq ((items.toList.drop (sIx items.size 0 lo)).take (sIx items.size items.size hi-sIx items.size 0 lo)).toArray } })
  (hsz:items.size<=sizeLine):wpAny (model prog w) A (getItem (.ref t) (.ref sl)) Q E s:=by
 have htake:sizeOk (.seq ((items.toList.drop (sIx items.size 0 lo)).take (sIx items.size items.size hi-sIx items.size 0 lo)).toArray):=by
  show((items.toList.drop (sIx items.size 0 lo)).take (sIx items.size items.size hi-sIx items.size 0 lo)).toArray.size<=sizeLine;rw[QH,List.length_take,List.length_drop,ZK];omega
 have hj:sIx items.size items.size hi<=items.size:=FT _ _ (QX _) hi;obtain⟨os,hos,hcs,hds⟩:=id hs;have hTs:s.TypeIs (.ref sl) "slice":=⟨os,hos,hcs⟩;unfold getItem;try with_reducible refine wpAny_holding ?_
 first|refine Q2 (Q9 ?_)|skip
 refine Q2 (wpAny_sequenceKey ht.typeIs (by decide) ?_);refine Q2 (wpAny_callSpecial?_slot (name:=Str.ofString "__getitem__") ht.typeIs PyProof.Rows.slot_tuple_getitem
  (wpAny_call_entry PyProof.Rows.slot_tuple_getitem ht.typeIs entry_tuple_getitem ?_ (args_tuple_getitem _ _)))
 show wpAny _ _ (Builtin.Tuple.tupleItemsOf (.ref t) >>= _) _ _ s;refine Q2 (tupleItemsOf_ ht ?_);refine Q2 (wpAny_typeOf hTs ?_);rw[if_pos (by decide)];refine Q2 (kj hs pl pu ?_);have hno:¬((((sIx items.size 0 lo:Nat):Int) == 0&&(1:Int) == 1&&(sIx items.size items.size hi-sIx items.size 0 lo) == items.size)=true):=by
  intro q;rw[Qs,Qs]at q;have q1:((sIx items.size 0 lo:Nat):Int)=0:=eq_of_beq q.1.1;have q2:sIx items.size items.size hi-sIx items.size 0 lo=items.size:=eq_of_beq q.2;exact hw ⟨by omega,by omega⟩
 show wpAny _ _ (if (((sIx items.size 0 lo:Nat):Int) == 0&&(1:Int) == 1&&(sIx items.size items.size hi-sIx items.size 0 lo) == items.size)=true then _ else _) _ _ s;rw[if_neg hno,zD];first
  |exact Q2 (m:=Builtin.Tuple.tupleExact _) (wpAny_newObj_type (Q9 ⟨_,rfl,Q9 h⟩) htake)
  |exact Q2 (m:=Builtin.Tuple.tupleExact _) (wpAny_newObj_type (Q2 (Q9 (Q9 ⟨_,rfl,Q9 h⟩))) htake)
  |exact Q2 (Q2 (m:=Builtin.Tuple.tupleExact _) (wpAny_newObj_type (Q9 (Q9 ⟨_,rfl,Q9 h⟩)) htake))
  |exact Q2 (Q2 (m:=Builtin.Tuple.tupleExact _) (wpAny_newObj_type (Q9 ⟨_,rfl,Q9 h⟩) htake))
end
end HT
namespace L2
open PySem PySem.Spec PyProof.Rows
abbrev TO:=St->Hp->(Option Int->Hp->Prop)->Prop
def PO(X:Cx)(e:Option Expr)(t:TO):Prop:=
 ∀(pins:List (Addr×Obj)) (s:Shared) (σ:St) (H:Hp) (Q:Option Int->Hp->Prop),Inv X pins σ H s->t σ H Q->
  wpAny (model X.prog X.w) X.A (evalPart e X.env) (fun u s'=>∃o H',Inv X pins σ H' s'/\IsPart u o/\Q o H') X.xe s
def vH:TO:=fun _ H Q=>Q none H
def FD(t:TE):TO:=fun σ H Q=>t σ H fun x H1=>∃i,x=.int i/\Q (some i) H1
section
variable{X:Cx}{e:Expr}{te:TE}{lo hi:Option Expr}{tl th:TO}{pos p2:Pos}
theorem CP:PO X none vH:=by
 intro pins s σ H Q I h;rw[evalPart_none];exact Q9 ⟨none,H,I,.none,h⟩
theorem CO(h:PE X e te):PO X (some e) (FD te):=by
 intro pins s σ H Q I hw;rw[evalPart_some];refine thn (h pins s σ H _ I hw) fun u s1 hz=>?_;obtain⟨x,H1,I1,r1,q1⟩:=hz;obtain⟨i,rfl,q⟩:=q1;obtain⟨t,rfl⟩:=r1;exact⟨some i,H1,I1,.int i t,q⟩
def SlR(X:Cx)(r:V->Option Int->Option Int->Hp->VK->Prop):Prop:=
 ∀(pins:List (Addr×Obj)) (s:Shared) (σ:St) (H:Hp) (x:V) (v vl vu:Value) (lo hi:Option Int) (sl:Addr) (Q:VK),Inv X pins σ H s->bV x v->s.heap.IsSliceOf sl vl vu .none->IsPart vl lo->IsPart vu hi->r x lo hi H Q->
  ∃T id,typeLookup (.type T) "__getitem__"=pure (some (.builtin id))/\s.TypeIs v T/\wpAny (model X.prog X.w) X.A (getItem v (.ref sl)) (EP X pins σ Q) X.xe s
theorem SlR.or{r r':V->Option Int->Option Int->Hp->VK->Prop}(h:SlR X r)(h':SlR X r'):SlR X (fun x lo hi H Q=>r x lo hi H Q\/r' x lo hi H Q):=by
 intro pins s σ H x v vl vu lo hi sl Q I rx hs pl pu q;rcases q with q|q
 ·exact h pins s σ H x v vl vu lo hi sl Q I rx hs pl pu q
 ·exact h' pins s σ H x v vl vu lo hi sl Q I rx hs pl pu q
def tSl(r:V->Option Int->Option Int->Hp->VK->Prop)(te:TE)(tl th:TO):TE:=fun σ H Q=>te σ H fun x H1=>tl σ H1 fun l H2=>th σ H2 fun u H3=>r x l u H3 Q
theorem zF{r:V->Option Int->Option Int->Hp->VK->Prop}(hr:SlR X r)(he:PE X e te)(hl:PO X lo tl)(hu:PO X hi th):PE X (.Subscript e (.Slice lo hi none p2) pos) (tSl r te tl th):=by
 intro pins s σ H Q I h;refine Subscript_ (thn (he pins s σ H _ I h) fun v s1 hz=>?_);obtain⟨x,H1,I1,r1,q1⟩:=hz;refine wpAny_Slice (thn (hl pins s1 σ H1 _ I1 q1) fun vl s2 ⟨l,H2,I2,pl,q2⟩=>thn (hu pins s2 σ H2 _ I2 q2) fun vu s3 hz=>?_);obtain⟨u,H3,I3,pu,q3⟩:=hz;rw[evalPart_none];refine Q9 ?_;have I4:Inv X pins σ H3 { s3 with heap:=s3.heap.push { cls:=.type "slice",data:=.fields #[vl,vu,.none] } }:=I3.kept (t':=s3.toks) fun b ob q=>QQ _ q;obtain⟨T,id,hT,ht,hg⟩:=hr pins { s3 with heap:=s3.heap.push { cls:=.type "slice",data:=.fields #[vl,vu,.none] } } σ H3 x v vl vu l u s3.heap.objs.size Q I4 r1 (Heap.IsSliceOf.new ..) pl pu q3;show wpAny (model X.prog X.w) X.A (subscriptTail e (.Slice lo hi none p2) v (.ref s3.heap.objs.size)) (EP X pins σ Q) X.xe { s3 with heap:=s3.heap.push { cls:=.type "slice",data:=.fields #[vl,vu,.none] } };exact tail_any (ops:=[.ref s3.heap.objs.size,v]) ht hT hg (by with_unfolding_all rfl)
def yb(xs:List V)(lo hi:Option Int):List V:=(xs.drop (HT.sIx xs.length 0 lo)).take (HT.sIx xs.length xs.length hi-HT.sIx xs.length 0 lo)
theorem me(xs:List V)(lo hi:Option Int):(yb xs lo hi).length<=xs.length:=by
 unfold yb;rw[List.length_take,List.length_drop];omega
def Ml(K:Q1):V->Option Int->Option Int->Hp->VK->Prop:=fun x lo hi H Q=>∃a xs,x=.ref a/\SqT K H a xs/\
 ¬(HT.sIx xs.length 0 lo=0/\HT.sIx xs.length xs.length hi=xs.length)/\∀p,H p=none->Q (.ref p) (upd H p (.tup (yb xs lo hi)))
theorem FQ:SlR X (Ml X.K):=by
 intro pins s σ H x v vl vu lo hi sl Q I rx hs pl pu h;obtain⟨a,xs,rfl,hx,hw,q⟩:=h;cases rx;obtain⟨its,r,ht,hz⟩:=I.tuple hx;have ed:its.toArray.size=xs.length:=by rw[QH];exact r.length.symm
 refine⟨"tuple",_,PyProof.Rows.slot_tuple_getitem.lookup,ht.typeIs,?_⟩;refine HT.getItem_tuple_cut ht hs pl pu (by rw[ed];exact hw) ?_ (by rw[ed];exact hz);rw[ed];refine⟨.ref s.heap.objs.size,_,I.laid (t':=s.toks) (o:=.tup (yb xs lo hi)) (fun b ob q=>QQ _ q) (QX _) ?_,rfl,q _ (I.hok.fresh (QX _))⟩;exact⟨Qd (me xs lo hi) hz,_,(r.drop (HT.sIx xs.length 0 lo)).take (HT.sIx xs.length xs.length hi-HT.sIx xs.length 0 lo),IsTup.new _ _⟩
def J5(K:Q1):R2:=fun x y H Q=>∃a b xs ys,x=.ref a/\y=.ref b/\SqT K H a xs/\SqT K H b ys/\xs≠[]/\xs.length+ys.length<=sizeLine/\
 (ys=[]->Q (.ref a) H)/\(ys≠[]->∀p,H p=none->Q (.ref p) (upd H p (.tup (xs++ys))))
theorem bP.nil_iff{xs:List V}{us:List Value}(r:bP xs us):us=[]↔xs=[]:=by
 cases r with
 |nil=>simp
 |cons _ _=>simp
theorem Dh:OpR X (binaryOp .Add) (J5 X.K):=by
 intro pins s σ H x y v u Q I rx ry h;obtain⟨a,b,xs,ys,rfl,rfl,ha,hb,hx,hz,q1,q2⟩:=h;cases rx;cases ry;obtain⟨its,r1,p1,_⟩:=I.tuple ha;obtain⟨its2,r2,p2,_⟩:=I.tuple hb;refine HT.cat_tup p1 p2 (fun z=>hx (r1.nil_iff.mp z)) (fun z=>⟨.ref a,H,I,rfl,q1 (r2.nil_iff.mp z)⟩) (fun z=>?_) (by rw[<-r1.length,<-r2.length];exact hz);refine⟨.ref s.heap.objs.size,_,I.laid (t':=s.toks) (o:=.tup (xs++ys)) (fun b ob q=>QQ _ q) (QX _) ?_,rfl,q2 (fun w=>z (r2.nil_iff.mpr w)) _ (I.hok.fresh (QX _))⟩;exact⟨by rw[Q7];exact hz,_,r1.append r2,IsTup.new _ _⟩
end
def ixN(n:Nat)(i:Int):Option Nat:=if 0<=i then(if i<n then some i.toNat else none)else if -(n:Int)<=i then some (i+n).toNat else none
def atI{α:Type}(xs:List α)(i:Int):Option α:=(ixN xs.length i).bind fun j=>xs[j]?
theorem xj{n:Nat}{i:Int}{j:Nat}(h:ixN n i=some j):seqIndex? i n=some j/\j<n/\-(n:Int)<=i/\i<n:=by
 unfold ixN at h;by_cases h0:0<=i
 ·rw[if_pos h0]at h;by_cases h1:i<n
  ·rw[if_pos h1]at h;have e:i.toNat=j:=Option.some.inj h;exact⟨by rw[seqIndex_of h0 h1,e],by omega,by omega,h1⟩
  ·rw[if_neg h1]at h;cases h
 ·rw[if_neg h0]at h;by_cases h1:-(n:Int)<=i
  ·rw[if_pos h1]at h;have e:(i+n).toNat=j:=Option.some.inj h;exact⟨by rw[seqIndex_neg (by omega) h1,e],by omega,h1,by omega⟩
  ·rw[if_neg h1]at h;cases h
theorem yx{α:Type}{xs:List α}{i:Int}{v:α}(h:atI xs i=some v):∃j,seqIndex? i xs.length=some j/\xs[j]?=some v/\j<xs.length/\-(xs.length:Int)<=i/\i<xs.length:=by
 unfold atI at h;cases e:ixN xs.length i with
 |none=>rw[e]at h;cases h
 |some j=>
  rw[e]at h;obtain⟨h1,h2,h3,h4⟩:=xj e;exact⟨j,h1,h,h2,h3,h4⟩
theorem mB{α:Type}{xs:List α}{j:Nat}{v:α}(h:xs[j]?=some v):atI xs (j:Int)=some v:=by
 have hj:j<xs.length:=(Q5.mp h).1;have e:ixN xs.length (j:Int)=some j:=by
  unfold ixN;rw[if_pos (by omega),if_pos (by omega)];simp
 unfold atI;rw[e];exact h
def rm(b:Expr):Prop:=∀o i,subscripted b false o i=operate [o,i] (getItem o i)
def IxR(X:Cx)(r:R2):Prop:=
 ∀(value slice:Expr) (pins:List (Addr×Obj)) (s:Shared) (σ:St) (H:Hp) (x y:V) (v u:Value) (Q:VK),Inv X pins σ H s->bV x v->bV y u->r x y H Q->
  subscripted slice false v u=operate [v,u] (getItem v u)->wpAny (model X.prog X.w) X.A (subscriptTail value slice v u) (EP X pins σ Q) X.xe s
def MtR(X:Cx)(id:String)(r:V->List V->Hp->VK->Prop):Prop:=
 ∀(pins:List (Addr×Obj)) (s:Shared) (σ:St) (H:Hp) (x:V) (xs:List V) (v:Value) (us:List Value) (Q:VK),Inv X pins σ H s->bV x v->bP xs us->r x xs H Q->
  wpAny (model X.prog X.w) X.A (call (.builtin id) (v::us)) (EP X pins σ Q) X.xe s
section
variable{X:Cx}{a b:Expr}{ta tb:TE}{pos:Pos}
theorem IxR.or{r r':R2}(h:IxR X r)(h':IxR X r'):IxR X (fun x y H Q=>r x y H Q\/r' x y H Q):=by
 intro value slice pins s σ H x y v u Q I rx ry q hs;rcases q with q|q
 ·exact h value slice pins s σ H x y v u Q I rx ry q hs
 ·exact h' value slice pins s σ H x y v u Q I rx ry q hs
theorem Kg{r:R2}(hr:IxR X r)(ha:PE X a ta)(hb:PE X b tb)(hs:rm b):PE X (.Subscript a b pos) (tOp r ta tb):=by
 intro pins s σ H Q I h;exact Subscript_ (K7 ha hb I h fun v u s2 x y H2 I2 rx ry q=>hr a b pins s2 σ H2 x y v u Q I2 rx ry q (hs _ _))
def Mo(K:Q1):R2:=fun x y H Q=>∃p xs i v,x=.ref p/\y=.int i/\SqL K H p xs/\atI xs i=some v/\Q v H
def Mn(K:Q1):R2:=fun x y H Q=>∃p xs i v,x=.ref p/\y=.int i/\SqT K H p xs/\atI xs i=some v/\Q v H
theorem Dz:IxR X (Mo X.K):=by
 intro value slice pins s σ H x y v u Q I rx ry h hs;obtain⟨p,xs,i,z,rfl,rfl,hq,he,q⟩:=h;cases rx;obtain⟨t,rfl⟩:=ry;obtain⟨its,r,pl,hz⟩:=I.list hq;obtain⟨j,h1,h2,h3,h4,h5⟩:=yx he;obtain⟨w,ew,rw'⟩:=r.get h2;have hl:=r.length;have hn:=sG;have fin:EP X pins σ Q w s:=⟨z,H,I,rw',q⟩;by_cases h0:0<=i
 ·have hj:i.toNat=j:=by
   rw[seqIndex_of h0 h5]at h1;exact Option.some.inj h1
  exact item_listR pl.isList h0 (by omega) (by rw[hj];simpa using ew) fin hs
 ·have hj:(i+(its.toArray.size:Int)).toNat=j:=by
   rw[seqIndex_neg (by omega) h4]at h1;rw[QH,<-hl];exact Option.some.inj h1
  exact subscriptTail_builtinR (x:=w) pl.isList.typeIs slot_list_getitem.lookup
   (wpAny_getItem_list_neg (Q:=fun r s'=>r=w/\EP X pins σ Q r s') pl.isList (by omega) (by rw[QH]<;>omega) (by omega) (by rw[hj];simpa using ew) ⟨rfl,fin⟩) hs
theorem Hm:IxR X (Mn X.K):=by
 intro value slice pins s σ H x y v u Q I rx ry h hs;obtain⟨p,xs,i,z,rfl,rfl,hq,he,q⟩:=h;cases rx;obtain⟨t,rfl⟩:=ry;obtain⟨its,r,pl,hz⟩:=I.tuple hq;obtain⟨j,h1,h2,h3,h4,h5⟩:=yx he;obtain⟨w,ew,rw'⟩:=r.get h2;have hl:=r.length;have hn:=sG;have fin:EP X pins σ Q w s:=⟨z,H,I,rw',q⟩;exact subscriptTail_builtinR (x:=w) pl.typeIs slot_tuple_getitem.lookup
  (getItem_tuple (j:=j) (Q:=fun r s'=>r=w/\EP X pins σ Q r s') pl (by omega) (by omega) (by rw[QH,<-hl];exact h1) (by simpa using ew) ⟨rfl,fin⟩) hs
theorem uf(its:List Value)(n j:Nat)(u:Value):Obj.mapSeq (·.setIfInBounds j u) { cls:=.type "list",data:=.seq its.toArray n }={ cls:=.type "list",data:=.seq (its.set j u).toArray n }:=by
 simp[Obj.mapSeq]
theorem Inv.lst{pins:List (Addr×Obj)}{σ:St}{H:Hp}{s:Shared}{p:Addr}{xs:List V}(I:Inv X pins σ H s)(h:H p=some (.lst xs)) :
  ∃(its:List Value) (n:Nat),bP xs its/\s.heap.get? p=some { cls:=.type "list",data:=.seq its.toArray n }/\xs.length<=sizeLine:=by
 obtain⟨z,its,n,r,e⟩:=I.hok p _ h;exact⟨its,n,r,e,z⟩
theorem Inv.lstUpd{pins:List (Addr×Obj)}{σ:St}{H:Hp}{s:Shared}{p:Addr}{xs ys:List V}{its its':List Value}{n n':Nat}{f:Obj->Obj}(I:Inv X pins σ H s)(h:H p=some (.lst xs))
  (ho:s.heap.get? p=some { cls:=.type "list",data:=.seq its.toArray n }) (hf:f { cls:=.type "list",data:=.seq its.toArray n }={ cls:=.type "list",data:=.seq its'.toArray n' }) (r:bP ys its') (hz:ys.length<=sizeLine) (t:Nat) :
  Inv X pins σ (upd H p (.lst ys)) { s with heap:=s.heap.update p f,toks:=t }:=by
 have e:(s.heap.update p f).get? p=some { cls:=.type "list",data:=.seq its'.toArray n' }:=by
  rw[Heap.get?_update_self f ho (by rw[hf]<;>rfl),hf]
 refine I.write (x:=p) (e:=p) (by rw[h];trivial) (.inl rfl) (fun b u hb q=>(Heap.get?_update_other _ _ (Ne.symm hb)).trans q) ⟨_,e⟩ ?_;exact⟨hz,its',n',r,e⟩
def J3:V->V->V->Hp->(Hp->Prop)->Prop:=fun o i v H Q=>∃p xs k j,o=.ref p/\i=.int k/\H p=some (.lst xs)/\ixN xs.length k=some j/\Q (upd H p (.lst (xs.set j v)))
theorem zi:Ld X J3:=by
 intro pins s σ H o i v ov iv u Q I ro ri rv h;obtain⟨p,xs,k,j,rfl,rfl,hp,hj,q⟩:=h;cases ro;obtain⟨t,rfl⟩:=ri;obtain⟨its,n,r,ho,hz⟩:=I.lst hp;obtain⟨h1,h2,h3,h4⟩:=xj hj;have hl:=r.length;have hn:=sG;have I':Inv X pins σ (upd H p (.lst (xs.set j v))) { s with heap:=s.heap.update p (Obj.mapSeq (·.setIfInBounds j u)) }:=
  I.lstUpd hp ho (uf its n j u) (r.set rv j) (by rw[List.length_set];exact hz) s.toks
 by_cases h0:0<=k
 ·have hk:k.toNat=j:=by
   rw[seqIndex_of h0 h4]at h1;exact Option.some.inj h1
  exact PySem.W.ki_setAt ho h0 (by omega) (by rw[QH,<-hl];exact h4) (by rw[hk];exact⟨_,I',q⟩)
 ·have hk:(k+(its.toArray.size:Int)).toNat=j:=by
   rw[seqIndex_neg (by omega) h3]at h1;rw[QH,<-hl];exact Option.some.inj h1
  exact PySem.W.ki_setBack ho (by omega) (by rw[QH,<-hl];exact h3) (by omega) (by rw[hk];exact⟨_,I',q⟩)
theorem oZ(lo hi:Option Int)(n:Nat):(sliceBounds lo hi none n).1=((HT.sIx n 0 lo:Nat):Int)/\(sliceBounds lo hi none n).2.1=((HT.sIx n n hi:Nat):Int)/\(sliceBounds lo hi none n).2.2=1:=by
 refine⟨?_,?_,rfl⟩
 ·cases lo with
  |none=>simp[sliceBounds,HT.sIx]
  |some i=>
   simp only[sliceBounds,HT.sIx,Option.getD_none,show(1:Int)>0 by decide,if_true];by_cases h:i<0
   ·simp only[h,if_true]<;>omega
   ·simp only[h,if_false]<;>omega
 ·cases hi with
  |none=>simp[sliceBounds,HT.sIx]
  |some i=>
   simp only[sliceBounds,HT.sIx,Option.getD_none,show(1:Int)>0 by decide,if_true];by_cases h:i<0
   ·simp only[h,if_true]<;>omega
   ·simp only[h,if_false]<;>omega
theorem nO(its:List Value)(lo hi:Option Int):slicePick its.toArray lo hi none=((its.drop (HT.sIx its.length 0 lo)).take (HT.sIx its.length its.length hi-HT.sIx its.length 0 lo)).toArray:=by
 obtain⟨h1,h2,h3⟩:=oZ lo hi its.toArray.size;unfold slicePick;rw[h1,h2,h3];simp only[sliceRange_one,pick_run,QH]<;>rfl
def Mm(K:Q1):V->Option Int->Option Int->Hp->VK->Prop:=fun x lo hi H Q=>∃a xs,x=.ref a/\SqL K H a xs/\∀p,H p=none->Q (.ref p) (upd H p (.lst (yb xs lo hi)))
theorem vP:SlR X (Mm X.K):=by
 intro pins s σ H x v vl vu lo hi sl Q I rx hs pl pu h;obtain⟨a,xs,rfl,hx,q⟩:=h;cases rx;obtain⟨its,r,ht,hz⟩:=I.list hx;have ed:=r.length;refine⟨"list",_,slot_list_getitem.lookup,ht.isList.typeIs,?_⟩;refine wpAny_getItem_list_slice ht.isList hs pl pu .none (by simp) ?_ (by rw[QH]<;>omega);rw[nO,<-ed];refine⟨.ref s.heap.objs.size,_,I.laid (t':=s.toks) (o:=.lst (yb xs lo hi)) (fun b ob q=>QQ _ q) (QX _) ?_,rfl,q _ (I.hok.fresh (QX _))⟩;exact⟨Qd (me xs lo hi) hz,_,0,(r.drop (HT.sIx xs.length 0 lo)).take (HT.sIx xs.length xs.length hi-HT.sIx xs.length 0 lo),QY _ rfl⟩
def mL:V->Bool
 |.non=>true
 |.bl _=>true
 |.int _=>true
 |.str _=>true
 |_=>false
def eqV:V->V->Bool
 |.non,.non=>true
 |.bl a,.bl b=>a == b
 |.bl a,.int b=>(if a then 1 else 0) == b
 |.int a,.bl b=>a == (if b then 1 else 0)
 |.int a,.int b=>a == b
 |.str a,.str b=>a == b
 |_,_=>false
theorem HP{A:Around}{s:Shared}{y x:V}{u v:Value}(ry:bV y u)(rx:bV x v)(fy:mL y=true)(fx:mL x=true):SeqAt.EqAt A s u v (eqV y x):=by
 cases y with
 |non=>
  cases ry;cases x with
  |non=>cases rx;exact SeqAt.EqAt.same _
  |bl b=>cases rx;exact SeqAt.EqAt.none_bool b
  |int b=>obtain⟨t,rfl⟩:=rx;exact SeqAt.EqAt.none_int b t
  |str b=>obtain⟨t,rfl⟩:=rx;exact SeqAt.EqAt.none_str b t
  |_=>exact absurd (show false=true from fx) QV
 |bl a=>
  cases ry;cases x with
  |non=>cases rx;exact SeqAt.EqAt.bool_none a
  |bl b=>cases rx;exact SeqAt.EqAt.bool_bool a b
  |int b=>obtain⟨t,rfl⟩:=rx;exact SeqAt.EqAt.bool_int a b t
  |str b=>obtain⟨t,rfl⟩:=rx;exact SeqAt.EqAt.bool_str a b t
  |_=>exact absurd (show false=true from fx) QV
 |int a=>
  obtain⟨t',rfl⟩:=ry;cases x with
  |non=>cases rx;exact SeqAt.EqAt.int_none a t'
  |bl b=>cases rx;exact SeqAt.EqAt.int_bool a t' b
  |int b=>obtain⟨t,rfl⟩:=rx;exact SeqAt.EqAt.int_int a t' b t
  |str b=>obtain⟨t,rfl⟩:=rx;exact SeqAt.EqAt.int_str a t' b t
  |_=>exact absurd (show false=true from fx) QV
 |str a=>
  obtain⟨t',rfl⟩:=ry;cases x with
  |non=>cases rx;exact SeqAt.EqAt.str_none a t'
  |bl b=>cases rx;exact SeqAt.EqAt.str_bool a t' b
  |int b=>obtain⟨t,rfl⟩:=rx;exact SeqAt.EqAt.str_int a t' b t
  |str b=>obtain⟨t,rfl⟩:=rx;exact SeqAt.EqAt.str_str a t' b t
  |_=>exact absurd (show false=true from fx) QV
 |_=>exact absurd (show false=true from fy) QV
def eqU(x:V)(u:Value):Bool:=match u with
 |.none=>eqV .non x
 |.bool b=>eqV (.bl b) x
 |.int i _=>eqV (.int i) x
 |.str z _=>eqV (.str z) x
 |_=>false
theorem Bl{x y:V}{u:Value}(r:bV y u)(f:mL y=true):eqU x u=eqV y x:=by
 cases y with
 |non=>cases r;rfl
 |bl b=>cases r;rfl
 |int i=>obtain⟨t,rfl⟩:=r;rfl
 |str z=>obtain⟨t,rfl⟩:=r;rfl
 |_=>exact absurd (show false=true from f) QV
theorem mC{x:V}:∀{xs:List V} {us:List Value},bP xs us->xs.all mL=true->us.any (eqU x)=xs.any fun y=>eqV y x
 |_,_,.nil,_=>rfl
 |y::xs,u::us,.cons r t,f=>by
  rw[ZV,Qs]at f;rw[Z9,Z9,Bl r f.1,mC t f.2]
theorem ju{A:Around}{s:Shared}{x:V}{v:Value}(rx:bV x v)(fx:mL x=true):∀{xs:List V} {us:List Value},bP xs us->xs.all mL=true->∀u∈us,SeqAt.EqAt A s u v (eqU x u)
 |_,_,.nil,_=>fun u hu=>by cases hu
 |y::xs,u::us,.cons r t,f=>fun u' hu=>by
  rw[ZV,Qs]at f;rcases QD.mp hu with rfl|hu
  ·rw[Bl r f.1];exact HP r rx f.1 fx
  ·exact ju rx fx t f.2 u' hu
def inV(x:V)(xs:List V):Bool:=xs.any fun y=>eqV y x
def rIn(K:Q1)(neg:Bool):R2:=fun x y H Q=>∃p xs,y=.ref p/\(SqL K H p xs\/SqT K H p xs)/\mL x=true/\xs.all mL=true/\Q (.bl (if neg then !inV x xs else inV x xs)) H
theorem pd:OpR X (compareOp .In) (rIn X.K false):=by
 intro pins s σ H x y v u Q I rx ry h;obtain⟨p,xs,rfl,hq,fx,fs,q⟩:=h;cases ry;rcases hq with hq|hq
 ·obtain⟨its,r,pl,hz⟩:=I.list hq;refine SeqAt.in_listAt (eqU x) pl.isList (fun w hw=>ju rx fx r fs w (by simpa using hw)) ⟨.bl _,H,I,rfl,?_⟩;rw[show its.toArray.any (eqU x)=its.any (eqU x)by simp,mC r fs];exact q
 ·obtain⟨its,r,pl,hz⟩:=I.tuple hq;refine SeqAt.in_tupleAt (eqU x) pl (fun w hw=>ju rx fx r fs w (by simpa using hw)) ⟨.bl _,H,I,rfl,?_⟩;rw[show its.toArray.any (eqU x)=its.any (eqU x)by simp,mC r fs];exact q
theorem o8:OpR X (compareOp .NotIn) (rIn X.K true):=by
 intro pins s σ H x y v u Q I rx ry h;obtain⟨p,xs,rfl,hq,fx,fs,q⟩:=h;cases ry;rcases hq with hq|hq
 ·obtain⟨its,r,pl,hz⟩:=I.list hq;refine SeqAt.notIn_listAt (eqU x) pl.isList (fun w hw=>ju rx fx r fs w (by simpa using hw)) ⟨.bl _,H,I,rfl,?_⟩;rw[show its.toArray.any (eqU x)=its.any (eqU x)by simp,mC r fs];exact q
 ·obtain⟨its,r,pl,hz⟩:=I.tuple hq;refine SeqAt.notIn_tupleAt (eqU x) pl (fun w hw=>ju rx fx r fs w (by simpa using hw)) ⟨.bl _,H,I,rfl,?_⟩;rw[show its.toArray.any (eqU x)=its.any (eqU x)by simp,mC r fs];exact q
theorem p6:eZ X (.builtin "len") (fun xs H Q=>∃p ys,xs=[.ref p]/\(SqL X.K H p ys\/SqT X.K H p ys)/\Q (.int ys.length) H):=by
 intro pins s σ H xs us Q I r h;obtain⟨p,ys,rfl,hq,q⟩:=h;obtain⟨u,rfl,rx⟩:=ki r;cases rx;have hn:=sG;rcases hq with hq|hq
 ·obtain⟨its,r',pl,hz⟩:=I.list hq;have ed:=r'.length;exact Calls.call_len_list pl.isList (by simp only[QH]<;>omega) ⟨.int ys.length,H,I.tok _,⟨s.toks+1,by rw[QH,ed]⟩,q⟩
 ·obtain⟨its,r',pl,hz⟩:=I.tuple hq;have ed:=r'.length;exact len_tuple pl (by simp only[QH]<;>omega) ⟨.int ys.length,H,I.tok _,⟨s.toks+1,by rw[QH,ed]⟩,q⟩
theorem eZ.or{f:Value}{r r':List V->Hp->VK->Prop}(h:eZ X f r)(h':eZ X f r'):eZ X f (fun xs H Q=>r xs H Q\/r' xs H Q):=by
 intro pins s σ H xs us Q I rs q;rcases q with q|q
 ·exact h pins s σ H xs us Q I rs q
 ·exact h' pins s σ H xs us Q I rs q
theorem p5:eZ X (.type "list") (fun xs H Q=>∃p ys,xs=[.ref p]/\(SqL X.K H p ys\/SqT X.K H p ys)/\∀l,H l=none->Q (.ref l) (upd H l (.lst ys))):=by
 intro pins s σ H xs us Q I r h;obtain⟨p,ys,rfl,hq,q⟩:=h;obtain⟨u,rfl,rx⟩:=ki r;cases rx;have fin:∀(its:List Value),bP ys its->ys.length<=sizeLine->∀(h':Heap) (c':Nat),(∀b o',s.heap.get? b=some o'->h'.get? b=some o')->
   h'.get? s.heap.objs.size=some { cls:=.type "list",dict:=none,data:=.seq its.toArray c',slots:=#[] }->EP X pins σ Q (.ref s.heap.objs.size) { s with heap:=h' }:=fun its r' hz h' c' kp e=>
  ⟨.ref s.heap.objs.size,_,I.laid (t':=s.toks) kp (QX _) (show bU X.prog X.w _ h' _ (.lst ys)from⟨hz,its,c',r',e⟩),rfl,q _ (I.hok.fresh (QX _))⟩
 rcases hq with hq|hq
 ·obtain⟨its,r',pl,hz⟩:=I.list hq;have ed:=r'.length;obtain⟨o,ho,hc,n,hd⟩:=pl.isList;exact call_list_seq p (.inl rfl) ho hc hd (fun h' c' kp e=>fin its r' hz h' c' kp e) (by simp only[QH]<;>omega)
 ·obtain⟨its,r',pl,hz⟩:=I.tuple hq;have ed:=r'.length;obtain⟨o,ho,hc,n,hd⟩:=pl;exact call_list_seq p (.inr rfl) ho hc hd (fun h' c' kp e=>fin its r' hz h' c' kp e) (by simp only[QH]<;>omega)
theorem dv:eZ X (.type "tuple") (fun xs H Q=>∃p ys,xs=[.ref p]/\((SqL X.K H p ys/\∀l,H l=none->Q (.ref l) (upd H l (.tup ys)))\/(SqT X.K H p ys/\Q (.ref p) H))):=by
 intro pins s σ H xs us Q I r h;obtain⟨p,ys,rfl,h⟩:=h;obtain⟨u,rfl,rx⟩:=ki r;cases rx;rcases h with⟨hq,q⟩|⟨hq,q⟩
 ·obtain⟨its,r',pl,hz⟩:=I.list hq;have ed:=r'.length;refine call_tuple_list pl.isList (fun h' kp=>?_) (by simp only[QH]<;>omega);have I1:Inv X pins σ H { s with heap:=h' }:=I.kept (t':=s.toks) kp;have I2:Inv X pins σ (upd H h'.objs.size (.tup ys)) { s with heap:=h'.push { cls:=.type "tuple",data:=.seq its.toArray } }:=
   I1.laid (t':=s.toks) (fun b o e=>QQ _ e) (QX _) (show bU X.prog X.w _ _ _ (.tup ys)from⟨hz,its,r',IsTup.new _ _⟩)
  exact⟨.ref h'.objs.size,_,I2,rfl,q _ (I1.hok.fresh (QX _))⟩
 ·obtain⟨its,r',pl,hz⟩:=I.tuple hq;exact call_tuple_same pl ⟨.ref p,H,I,rfl,q⟩
def tyV(K:Q1)(T:String)(x:V)(H:Hp):Prop:=match x with
 |.str _=>T="str"
 |.int _=>T="int"
 | .ref p=>(T="list"/\∃xs,SqL K H p xs)\/(T="tuple"/\∃o,K.lookup p=some o/\o.cls=.type "tuple"/\o.dict=none)\/
   (T="dict"/\((∃kvs,H p=some (.dK kvs))\/∃kvs,H p=some (.dT kvs)))\/(T="set"/\∃S n,H p=some (.set S n))
 |_=>False
theorem AJ{pins:List (Addr×Obj)}{σ:St}{H:Hp}{s:Shared}{T:String}{x:V}{v:Value}(I:Inv X pins σ H s)(r:bV x v)(ty:tyV X.K T x H) :
  s.TypeIs v T/\∀a,v=.ref a->∃ob,s.heap.get? a=some ob/\ob.dict=none:=by
 cases x with
 |str z=>
  obtain⟨t,rfl⟩:=r;cases (show T="str" from ty);exact⟨typeIs_str s z t,fun _ e=>nomatch e⟩
 |int i=>
  obtain⟨t,rfl⟩:=r;cases (show T="int" from ty);exact⟨typeIs_int s i t,fun _ e=>nomatch e⟩
 |ref p=>
  cases r;rcases ty with⟨rfl,xs,hq⟩|⟨rfl,o,hk,hc,hd⟩|⟨rfl,hk⟩|⟨rfl,S,n,hk⟩
  ·obtain⟨its,_,pl,_⟩:=I.list hq;refine⟨pl.isList.typeIs,fun a e=>?_⟩;cases e;obtain⟨o,n,e,c,hd,_⟩:=pl;exact⟨o,e,hd⟩
  ·refine⟨⟨o,I.kIn p o hk,hc⟩,fun a e=>?_⟩;cases e;exact⟨o,I.kIn _ o hk,hd⟩
  ·have z:∃o,s.heap.get? p=some o/\o.ExactDict:=by
    rcases hk with⟨kvs,hk⟩|⟨kvs,hk⟩
    ·obtain⟨_,_,_,_,o,_,_,e,ex,_⟩:=I.hok p _ hk;exact⟨o,e,ex⟩
    ·obtain⟨_,_,_,_,o,_,_,e,ex,_⟩:=I.hok p _ hk;exact⟨o,e,ex⟩
   obtain⟨o,e,ex⟩:=z;refine⟨⟨o,e,ex.1⟩,fun a e2=>?_⟩;cases e2;exact⟨o,e,ex.2.1⟩
  ·obtain⟨o,_,_,_,e,ex,_⟩:=I.hok p _ hk;refine⟨⟨o,e,ex.1⟩,fun a e2=>?_⟩;cases e2;exact⟨o,e,ex.2.1⟩
 |_=>exact False.elim ty
def Lo(K:Q1)(T:String)(r:V->List V->Hp->VK->Prop)(to:TE):TE:=fun σ H Q=>to σ H fun x H1=>tyV K T x H1/\r x [] H1 Q
def tBM(K:Q1)(T:String)(r:V->List V->Hp->VK->Prop)(to:TE)(t:TA):TE:=fun σ H Q=>to σ H fun x H1=>tyV K T x H1/\t σ H1 fun xs H2=>r x xs H2 Q
variable{o e:Expr}{es:List Expr}{to:TE}{t:TA}{name:Str}{apos cpos:Pos}{T id:String}{r:V->List V->Hp->VK->Prop}
theorem GC(pa:PlainAttrs T)(slot:Slot T name id)(hty:typeOf (.builtin id)=pure (.type "method_descriptor"))(hm:MtR X id r)(ho:PE X o to)
  (hbase:attributeBase o name X.env (eval o X.env)=eval o X.env:=by rfl) (hline:(apos.endLine == cpos.line)=true:=by rfl):PE X (.Call (.Attribute o name apos) [] [] cpos) (Lo X.K T r to):=by
 intro pins s σ H Q I h;refine wpAny_Call_method0_late hbase hline (thn (ho pins s σ H _ I h) fun v s1 hz=>?_);obtain⟨x,H1,I1,r1,ty,q1⟩:=hz;obtain⟨h1,h2⟩:=AJ I1 r1 ty;exact⟨T,id,pa,slot,hty,h1,h2,Calls.callWith_builtin rfl (PySem.evalArgs_none (hm pins s1 σ H1 x [] v [] Q I1 r1 .nil q1))⟩
theorem Kh(pa:PlainAttrs T)(slot:Slot T name id)(hty:typeOf (.builtin id)=pure (.type "method_descriptor"))(hm:MtR X id r)(ho:PE X o to)(ha:PA X (e::es) t)
  (hbase:attributeBase o name X.env (eval o X.env)=eval o X.env:=by rfl)
  (hfew:((backTo cpos (starEach (e::es) X.env)).all (fun x=>!x.1)&&(backToKw cpos (keywordEach [] X.env)).all (fun x=>x.1.isSome)
   && decide ((e::es).length+([]:List Keyword).length+(if ([]:List Keyword).isEmpty then 0 else 1)<30))=true:=by rfl)
  (hline:(apos.endLine == cpos.line)=true:=by rfl) (hs:starEach (e::es) X.env=(false,eval e X.env)::starEach es X.env:=by rfl) (hplain:(backTo cpos (starEach es X.env)).any (·.1)=false:=by rfl) :
  PE X (.Call (.Attribute o name apos) (e::es) [] cpos) (tBM X.K T r to t):=by
 intro pins s σ H Q I h;refine wpAny_Call_method_late hbase hfew hline rfl (thn (ho pins s σ H _ I h) fun v s1 hz=>?_);obtain⟨x,H1,I1,r1,ty,q1⟩:=hz;obtain⟨h1,h2⟩:=AJ I1 r1 ty;refine⟨T,id,pa,slot,hty,h1,h2,?_⟩;have hA:=ha cpos pins s1 σ H1 _ I1 q1;rw[hs]at hA ⊢;refine Calls.callWith_builtin (by show(false||(backTo cpos (starEach es X.env)).any (·.1))=false;rw[hplain]<;>rfl) (Calls.evalArgs_plain ?_);exact thn hA fun us s2 ⟨vs,H2,I2,r2,q2⟩=>hm pins s2 σ H2 x vs v us Q I2 r1 r2 q2
end
def MtM(X:Cx)(id:String)(r:V->List V->Hp->VK->Prop):Prop:=
 ∀(pins:List (Addr×Obj)) (s:Shared) (σ:St) (H:Hp) (x:V) (xs:List V) (v:Value) (us:List Value) (Q:VK),Inv X pins σ H s->bV x v->bP xs us->r x xs H Q->
  wpAny (model X.prog X.w) X.A (call (.builtin id) (v::us)) (EP X pins σ Q) X.xe s
theorem bP.one:∀{x:V} {us:List Value},bP [x] us->∃u,us=[u]/\bV x u
 |_,_,.cons r .nil=>⟨_,rfl,r⟩
theorem bP.zero:∀{us:List Value},bP [] us->us=[]
 |_,.nil=>rfl
theorem bP.dropLast{xs:List V}{us:List Value}(h:bP xs us):bP xs.dropLast us.dropLast:=by
 induction h with
 |nil=>exact .nil
 |cons r t ih=>
  cases t with
  |nil=>exact .nil
  |cons q t'=>exact .cons r ih
theorem bP.eraseIdx:∀{xs:List V} {us:List Value} (i:Nat),bP xs us->bP (xs.eraseIdx i) (us.eraseIdx i)
 |_,_,_,.nil=>.nil
 |_,_,0,.cons _ t=>t
 |_,_,i+1,.cons r t=>.cons r (bP.eraseIdx i t)
theorem uB{α:Type}(l:List α):l.eraseIdx (l.length-1)=l.dropLast:=by
 induction l with
 |nil=>rfl
 |cons a r ih=>
  cases r with
  |nil=>rfl
  |cons b r=>
   have e:(a::b::r).length-1=((b::r).length-1)+1:=by
    have h1:(a::b::r).length=r.length+2:=rfl;have h2:(b::r).length=r.length+1:=rfl;omega
   rw[e,List.eraseIdx_cons_succ,ih];all_goals rfl
theorem pq{α:Type}:∀(l:List α) (i:Nat),(l.eraseIdx i).length<=l.length
 |[],_=>QX _
 |_::_,0=>Nat.le_succ _
 |_::r,i+1=>Nat.succ_le_succ (pq r i)
section
variable{X:Cx}{pins:List (Addr×Obj)}{σ:St}{H:Hp}{s:Shared}{l:Addr}{xs ys:List V}
theorem Inv.lset{its its':List Value}{n:Nat}{f:Array Value->Array Value}{t':Nat}(I:Inv X pins σ H s)(hH:H l=some (.lst xs))
  (e:s.heap.get? l=some { cls:=.type "list",data:=.seq its.toArray n }) (hf:f its.toArray=its'.toArray) (hv:bP ys its') (hz:ys.length<=sizeLine) :
  Inv X pins σ (upd H l (.lst ys)) { s with heap:=s.heap.update l (Obj.mapSeq f),toks:=t' }:=by
 have q:=PySem.IsL.update e f;rw[hf]at q;refine I.write (x:=l) (e:=l) (by rw[hH];exact trivial) (.inl rfl) (fun b' u hb hu=>(Heap.get?_update_other s.heap (Obj.mapSeq f) (Ne.symm hb)).trans hu) ⟨_,q⟩ ?_;exact⟨hz,its',_,hv,q⟩
theorem Inv.lnew{its:List Value}{t':Nat}(I:Inv X pins σ H s)(hv:bP ys its)(hz:ys.length<=sizeLine) :
  Inv X pins σ (upd H s.heap.objs.size (.lst ys)) { s with heap:=s.heap.push { cls:=.type "list",data:=.seq its.toArray },toks:=t' }:=
 I.laid (fun _ _ q=>QQ _ q) (QX _) ⟨hz,its,0,hv,QY _ rfl⟩
theorem Inv.fresh(I:Inv X pins σ H s):H s.heap.objs.size=none:=I.hok.fresh (QX _)
theorem Inv.lstM(I:Inv X pins σ H s)(hH:H l=some (.lst xs)):xs.length<=sizeLine/\∃(its:List Value) (n:Nat),bP xs its/\xs.length=its.length/\s.heap.get? l=some { cls:=.type "list",data:=.seq its.toArray n }:=by
 obtain⟨z,its,n,r,e⟩:=I.hok l _ hH;exact⟨z,its,n,r,r.length,e⟩
end
section
variable{X:Cx}
def vZ:V->List V->Hp->VK->Prop:=fun x vs H Q=>∃l xs y,x=.ref l/\vs=[y]/\H l=some (.lst xs)/\xs.length<sizeLine/\Q .non (upd H l (.lst (xs++[y])))
theorem lJ:MtM X "list.append" vZ:=by
 intro pins s σ H x vs v us Q I rx rv h;obtain⟨l,xs,y,rfl,rfl,hH,hz,q⟩:=h;cases rx;obtain⟨u,rfl,ru⟩:=rv.one;obtain⟨z,its,n,r,hl,e⟩:=I.lstM hH;refine call_meets F.slot_list_append ⟨_,e,rfl⟩ F.entry_list_append (F.args_list_append_2 _ _) (PySem.list_append l its.toArray n u (by rw[QH];omega)) ⟨e,?_⟩;refine⟨.non,_,I.lset (its':=its++[u]) hH e (by simp) (r.append (.cons ru .nil)) ?_,rfl,q⟩;rw[Q7,Qw];omega
def Ls:V->List V->Hp->VK->Prop:=fun x vs H Q=>∃l xs y,x=.ref l/\vs=[]/\H l=some (.lst xs)/\xs[xs.length-1]?=some y/\Q y (upd H l (.lst xs.dropLast))
theorem GW:MtM X "list.pop" Ls:=by
 intro pins s σ H x vs v us Q I rx rv h;obtain⟨l,xs,y,rfl,rfl,hH,hy,q⟩:=h;cases rx;have hus:=rv.zero;subst hus;obtain⟨z,its,n,r,hl,e⟩:=I.lstM hH;obtain⟨u,hu,ru⟩:=r.get hy;have hy':its.toArray[its.toArray.size-1]?=some u:=by
  show its.toArray[its.length-1]?=some u;rw[<-ZE,<-hl];exact hu
 refine call_meets F.slot_list_pop ⟨_,e,rfl⟩ F.entry_list_pop (F.args_list_pop_1 _) (MeetsSeq.list_pop_last l its.toArray n u hy' (by rw[QH];omega)) ⟨e,?_⟩;refine⟨y,_,I.lset (its':=its.dropLast) hH e ?_ r.dropLast ?_,ru,q⟩
 ·show its.toArray.eraseIdxIfInBounds (its.toArray.size-1)=its.dropLast.toArray;rw[QH,List.eraseIdxIfInBounds_toArray,uB]
 ·rw[List.length_dropLast];omega
def AU:V->List V->Hp->VK->Prop:=fun x vs H Q=>∃l xs i k y,x=.ref l/\vs=[.int i]/\H l=some (.lst xs)/\-(2^63)<=i/\i<2^63/\seqIndex? i xs.length=some k/\xs[k]?=some y/\Q y (upd H l (.lst (xs.eraseIdx k)))
theorem zW:MtM X "list.pop" AU:=by
 intro pins s σ H x vs v us Q I rx rv h;obtain⟨l,xs,i,k,y,rfl,rfl,hH,h1,h2,hk,hy,q⟩:=h;cases rx;obtain⟨u,rfl,ru⟩:=rv.one;obtain⟨t,rfl⟩:=ru;obtain⟨z,its,n,r,hl,e⟩:=I.lstM hH;obtain⟨w,hw,rw'⟩:=r.get hy;refine call_meets F.slot_list_pop ⟨_,e,rfl⟩ F.entry_list_pop (F.args_list_pop_2 _ _)
  (MeetsSeq.list_pop_at l its.toArray n i t k w (fitsIndex_both h1 h2) (by rw[QH,<-hl];exact hk) (by rw[<-ZE];exact hw) (by rw[QH];omega)) ⟨e,?_⟩
 refine⟨y,_,I.lset (its':=its.eraseIdx k) hH e ?_ (r.eraseIdx k) ?_,rw',q⟩
 ·show its.toArray.eraseIdxIfInBounds k=(its.eraseIdx k).toArray;rw[List.eraseIdxIfInBounds_toArray]
 ·have:=pq xs k;omega
def Iu:R2:=fun x y H Q=>∃l b xs zs,x=.ref l/\y=.ref b/\H l=some (.lst xs)/\H b=some (.lst zs)/\xs.length+zs.length<=sizeLine/\∀p,H p=none->Q (.ref p) (upd H p (.lst (xs++zs)))
theorem GP:OpR X (binaryOp .Add) Iu:=by
 intro pins s σ H x y v u Q I rx ry h;obtain⟨l,b,xs,zs,rfl,rfl,hH,hB,hz,q⟩:=h;cases rx;cases ry;obtain⟨z,its,n,r,hl,e⟩:=I.lstM hH;obtain⟨z2,its2,n2,r2,hl2,e2⟩:=I.lstM hB;refine PySem.P.add_list e e2 ?_ (by rw[QH,QH];omega);have ea:its.toArray++its2.toArray=(its++its2).toArray:=by simp
 rw[ea];exact⟨.ref _,_,I.lnew (t':=s.toks) (r.append r2) (by rw[Q7];omega),rfl,q _ I.fresh⟩
end
section
variable{κ:Type}[DecidableEq κ]
def iB(kvs:List (κ×V))(k:κ):Option V:=(kvs.find? fun kv=>decide (kv.1=k)).map (·.2)
def oH(kvs:List (κ×V))(k:κ)(v:V):List (κ×V):=
 if (kvs.any fun kv=>decide (kv.1=k))=true then kvs.map (fun kv=>if kv.1=k then(kv.1,v)else kv)else kvs++[(k,v)]
theorem nJ{p:κ×V}{r:List (κ×V)}{k:κ}(e:p.1=k):iB (p::r) k=some p.2:=by simp[iB,Qp,e]
theorem nK{p:κ×V}{r:List (κ×V)}{k:κ}(e:¬p.1=k):iB (p::r) k=iB r k:=by simp[iB,Qp,e]
theorem nL(k:κ):∀kvs:List (κ×V),(kvs.any fun kv=>decide (kv.1=k))=(iB kvs k).isSome
 |[]=>rfl
 |p::r=>by
  rw[Z9];by_cases e:p.1=k
  ·simp only[nJ e,decide_eq_true e,Bool.true_or,Option.isSome_some]
  ·rw[nK e,decide_eq_false e,Bool.false_or];exact nL k r
theorem lO(kvs:List (κ×V))(k:κ)(v:V):(oH kvs k v).length<=kvs.length+1:=by
 unfold oH;split
 ·rw[Q6];omega
 ·rw[Q7,QU,List.length_nil];omega
theorem nC.isSome_eq{o:Option V}{u:Option Value}(r:nC o u):o.isSome=u.isSome:=by
 cases o with
 |none=>cases u with
  |none=>rfl
  |some _=>exact(show False from r).elim
 |some _=>cases u with
  |none=>exact(show False from r).elim
  |some _=>rfl
theorem nC.getD{o:Option V}{u:Option Value}{d:V}{d':Value}(r:nC o u)(rd:bV d d'):bV (o.getD d) (u.getD d'):=by
 cases o with
 |none=>cases u with
  |none=>exact rd
  |some _=>exact(show False from r).elim
 |some _=>cases u with
  |none=>exact(show False from r).elim
  |some _=>exact r
theorem KV.val{kvs:List (κ×V)}{vs:List (κ×Value)}(r:KV kvs vs)(k:κ):nC (iB kvs k) (valueAt vs k):=by
 unfold KV at r;induction r with
 |nil=>exact True.intro
 |@cons p q ps qs h t ih=>
  obtain⟨h1,h2⟩:=h;by_cases e:p.1=k
  ·have e':q.1=k:=h1.symm.trans e;have b:valueAt (q::qs) k=some q.2:=by simp[valueAt,Qp,e']
   rw[nJ e,b];exact h2
  ·have e':¬q.1=k:=fun z=>e (h1.trans z);have b:valueAt (q::qs) k=valueAt qs k:=by simp[valueAt,Qp,e']
   rw[nK e,b];exact ih
theorem KV.any{kvs:List (κ×V)}{vs:List (κ×Value)}(r:KV kvs vs)(k:κ):(kvs.any fun kv=>decide (kv.1=k))=vs.any fun kv=>decide (kv.1=k):=by
 unfold KV at r;induction r with
 |nil=>rfl
 |cons h t ih=>rw[Z9,Z9,ih,h.1]
theorem KV.repl{kvs:List (κ×V)}{vs:List (κ×Value)}(r:KV kvs vs)(k:κ){y:V}{u:Value}(ry:bV y u) :
  KV (kvs.map fun kv=>if kv.1=k then(kv.1,y)else kv) (vs.map fun kv=>if kv.1=k then(kv.1,u)else kv):=by
 unfold KV at r ⊢;induction r with
 |nil=>exact .nil
 |@cons p q ps qs h t ih=>
  rw[QJ,QJ];refine .cons ?_ ih;obtain⟨h1,h2⟩:=h;by_cases e:p.1=k
  ·rw[if_pos e,if_pos (h1.symm.trans e)];exact⟨h1,ry⟩
  ·rw[if_neg e,if_neg (fun z=>e (h1.trans z))];exact⟨h1,h2⟩
theorem KV.put{kvs:List (κ×V)}{vs:List (κ×Value)}(r:KV kvs vs)(k:κ){y:V}{u:Value}(ry:bV y u):KV (oH kvs k y) (stored vs k u):=by
 unfold oH stored;rw[r.any k];by_cases e:(vs.any fun kv=>decide (kv.1=k))=true
 ·rw[if_pos e,if_pos e];exact r.repl k ry
 ·rw[if_neg e,if_neg e];exact Paired.snoc r ⟨rfl,ry⟩
theorem KV.length{kvs:List (κ×V)}{vs:List (κ×Value)}(r:KV kvs vs):kvs.length=vs.length:=Paired.length r
end
theorem um{P:Program}{w:World}{k:Key}{u:Value}(r:bV (kV k) u):(cE P w).is k u=true:=by
 cases k with
 |inl i=>obtain⟨t,e⟩:=(show ∃t,u=Value.int i t from r);subst e;exact qF P w i t
 |inr x=>obtain⟨t,e⟩:=(show ∃t,u=Value.str x t from r);subst e;exact qE P w x t
theorem px{P:Program}{w:World}:∀{ks:List Key} {us:List Value},bP (ks.map kV) us->ItemsAre (cE P w) ks us
 |[],_,r=>by rw[Ql]at r;cases r;exact .nil
 |k::ks,_,r=>by
  rw[QJ]at r;cases r with
  |cons h t=>exact .cons (um h) (px t)
abbrev KT(H:Hp):List (List Key×V)->List (List Key×Addr×Value)->Prop:=Paired fun p q=>p.1=q.1/\H q.2.1=some (.tup (p.1.map kV))/\bV p.2 q.2.2
theorem KT.val{H:Hp}{kvs:List (List Key×V)}{xs:List (List Key×Addr×Value)}(r:KT H kvs xs)(k:List Key):nC (iB kvs k) ((atKey xs k).map (·.2)):=by
 induction r with
 |nil=>exact True.intro
 |@cons p q ps qs h t ih=>
  obtain⟨h1,_,h2⟩:=h;by_cases e:p.1=k
  ·have e':q.1=k:=h1.symm.trans e;have b:atKey (q::qs) k=some q.2:=by simp[atKey,Qp,e']
   rw[nJ e,b];exact h2
  ·have e':¬q.1=k:=fun z=>e (h1.trans z);have b:atKey (q::qs) k=atKey qs k:=by simp[atKey,Qp,e']
   rw[nK e,b];exact ih
theorem KT.repl{H:Hp}{kvs:List (List Key×V)}{xs:List (List Key×Addr×Value)}(r:KT H kvs xs)(k:List Key){y:V}{u:Value}(ry:bV y u) :
  KT H (kvs.map fun kv=>if kv.1=k then(kv.1,y)else kv) (xs.map (putAt k u)):=by
 induction r with
 |nil=>exact .nil
 |@cons p q ps qs h t ih=>
  rw[QJ,QJ];refine .cons ?_ ih;obtain⟨h1,h2,h3⟩:=h;unfold putAt;by_cases e:p.1=k
  ·rw[if_pos e,if_pos (h1.symm.trans e)];exact⟨h1,h2,ry⟩
  ·rw[if_neg e,if_neg (fun z=>e (h1.trans z))];exact⟨h1,h2,h3⟩
theorem KT.put{H:Hp}{kvs:List (List Key×V)}{xs:List (List Key×Addr×Value)}(r:KT H kvs xs)(k:List Key){b:Addr}{y:V}{u:Value}(hb:H b=some (.tup (k.map kV)))(ry:bV y u) :
  KT H (oH kvs k y) (storedH xs k b u):=by
 have e:(kvs.any fun kv=>decide (kv.1=k))=(atKey xs k).isSome:=by
  rw[nL,(r.val k).isSome_eq,Option.isSome_map]
 unfold oH storedH;rw[e];by_cases q:(atKey xs k).isSome=true
 ·rw[if_pos q,if_pos q];exact r.repl k ry
 ·rw[if_neg q,if_neg q];exact Paired.snoc r ⟨rfl,hb,ry⟩
theorem KT.keeps{H H':Hp}{kvs:List (List Key×V)}{xs:List (List Key×Addr×Value)}(r:KT H kvs xs)(ht:∀b ys,H b=some (.tup ys)->H' b=some (.tup ys)):KT H' kvs xs:=
 Paired.mapP r fun _ _ z=>⟨z.1,ht _ _ z.2.1,z.2.2⟩
section
variable{P:Program}{w:World}{H:Hp}{h:Heap}{a:Addr}
theorem FV{u:HO}(ok:HOk P w H h)(e:Rd H a u):bU P w H h a u:=e.ok ok
theorem pX{kvs:List (Key×V)}(ok:HOk P w H h)(e:Rd H a (.dK kvs)):kvs.length<=sizeLine/\(a == sysModules)=false/\∃vs,KV kvs vs/\h.DictOf (cE P w) a vs:=
 show bU P w H h a (.dK kvs)from FV ok e
theorem DY{kvs:List (Key×V)}(ok:HOk P w H h)(e:H a=some (.dK kvs)):kvs.length<=sizeLine/\(a == sysModules)=false/\∃vs,KV kvs vs/\h.DictOf (cE P w) a vs:=pX ok (.inl e)
theorem nc{ks:List Key}(ok:HOk P w H h)(e:H a=some (.tup (ks.map kV))):(tupleKind (cE P w)).is h ks a:=by
 obtain⟨_,its,r,o,h1,h2,n,h3⟩:=(show bU P w H h a (.tup (ks.map kV))from ok a _ e);exact⟨o,its.toArray,n,h1,h2,h3,by simpa using px r⟩
theorem qV{kvs:List (List Key×V)}(ok:HOk P w H h)(e:Rd H a (.dT kvs)):kvs.length<=sizeLine/\(a == sysModules)=false/\
  ∃xs,KT H kvs xs/\h.DictOfH (tupleKind (cE P w)) a xs:=by
 obtain⟨z,y,xs,r,o,es,ep,h1,h2,h3,h4,h5⟩:=(show bU P w H h a (.dT kvs)from FV ok e);refine⟨z,y,xs,r,o,es,ep,h1,h2,h3,h4,fun x hx=>?_,h5⟩;have all:∀{l:List (List Key×V)} {m:List (List Key×Addr×Value)},KT H l m->∀x∈m,(tupleKind (cE P w)).is h x.1 x.2.1:=by
  intro l m q;induction q with
  |nil=>intro x hx;exact nomatch hx
  |@cons p q ps qs hq t ih=>
   intro x hx;rcases QD.mp hx with e|hx
   ·subst e;exact nc ok (by rw[<-hq.1];exact hq.2.1)
   ·exact ih x hx
 exact all r x hx
theorem K3{kvs:List (List Key×V)}(ok:HOk P w H h)(e:H a=some (.dT kvs)):kvs.length<=sizeLine/\(a == sysModules)=false/\
  ∃xs,KT H kvs xs/\h.DictOfH (tupleKind (cE P w)) a xs:=qV ok (.inl e)
end
def DGet(H:Hp)(a:Addr)(y:V)(r:Option V):Prop:=
 (∃kvs k,Rd H a (.dK kvs)/\y=kV k/\r=iB kvs k)\/∃kvs k b,Rd H a (.dT kvs)/\y=.ref b/\H b=some (.tup (k.map kV))/\r=iB kvs k
def Bx(H:Hp)(a:Addr)(y v:V)(H':Hp):Prop:=
 (∃kvs k,H a=some (.dK kvs)/\y=kV k/\kvs.length<sizeLine/\H'=upd H a (.dK (oH kvs k v)))\/
 ∃kvs k b,H a=some (.dT kvs)/\y=.ref b/\H b=some (.tup (k.map kV))/\kvs.length<sizeLine/\H'=upd H a (.dT (oH kvs k v))
theorem DGet.k{H:Hp}{a:Addr}{kvs:List (Key×V)}{k:Key}(e:H a=some (.dK kvs)):DGet H a (kV k) (iB kvs k):=.inl ⟨kvs,k,.inl e,rfl,rfl⟩
theorem Bx.k{H:Hp}{a:Addr}{kvs:List (Key×V)}{k:Key}{v:V}(e:H a=some (.dK kvs))(hl:kvs.length<sizeLine):Bx H a (kV k) v (upd H a (.dK (oH kvs k v))):=.inl ⟨kvs,k,e,rfl,hl,rfl⟩
theorem Bx.t{H:Hp}{a b:Addr}{kvs:List (List Key×V)}{k:List Key}{v:V}(e:H a=some (.dT kvs))(eb:H b=some (.tup (k.map kV)))(hl:kvs.length<sizeLine) :
  Bx H a (.ref b) v (upd H a (.dT (oH kvs k v))):=.inr ⟨kvs,k,b,e,rfl,eb,hl,rfl⟩
section
variable{X:Cx}{pins:List (Addr×Obj)}{σ:St}{H:Hp}{s:Shared}{a:Addr}{y v:V}{u r:Value}{o:Option V}{A:Around}{E:Value->Shared->Prop}
theorem Inv.big(I:Inv X pins σ H s):sysModules<s.heap.objs.size:=by
 have h:mainGlobals<s.heap.objs.size:=(I.mod.glob.keeps I.bk).lt;exact Nat.lt_trans (by decide) h
theorem ya{Q:Value->Shared->Prop}(hu:A.units+1<cLine)(I:Inv X pins σ H s)(g:DGet H a y (some v))(ry:bV y u)(h:∀w' s',Inv X pins σ H s'->bV v w'->Q w' s') :
  wpAny (model X.prog X.w) A (getItem (.ref a) u) Q E s:=by
 rcases g with⟨kvs,k,e,ey,l⟩|⟨kvs,k,b,e,ey,eb,l⟩
 ·subst ey;obtain⟨z,hd,vs,rel,dd⟩:=pX I.hok e;obtain⟨w',hw,rw'⟩:=nC.some_of (v:=v) (o:=valueAt vs k) (by rw[l];exact rel.val k);exact wpAny_getItem_of (um ry) dd.mapOf hw (h w' _ (I.tok _) rw')
 ·subst ey;cases (show u=Value.ref b from ry);obtain⟨z,hd,xs,rel,dd⟩:=qV I.hok e;obtain⟨w',hw,rw'⟩:=nC.some_of (v:=v) (o:=(atKey xs k).map (·.2)) (by rw[l];exact rel.val k);obtain⟨p,hp,hp2⟩:=Qc.mp hw;refine wpAny_getItem_heap (tupleKind_room_in1 hu) (nc I.hok eb) dd hp ?_;rw[hp2];exact h w' _ (I.tok _) rw'
theorem Mx{Q:Value->Shared->Prop}(hu:A.units+1<cLine)(I:Inv X pins σ H s)(g:DGet H a y o)(ry:bV y u)(h:∀s',Inv X pins σ H s'->Q (.bool o.isSome) s') :
  wpAny (model X.prog X.w) A (compareOp .In u (.ref a)) Q E s:=by
 rcases g with⟨kvs,k,e,ey,l⟩|⟨kvs,k,b,e,ey,eb,l⟩
 ·subst ey;obtain⟨z,hd,vs,rel,dd⟩:=pX I.hok e;refine wpAny_in_of (um ry) hd dd.mapOf ?_;rw[<-(rel.val k).isSome_eq,<-l];exact h _ (I.tok _)
 ·subst ey;cases (show u=Value.ref b from ry);obtain⟨z,hd,xs,rel,dd⟩:=qV I.hok e;refine wpAny_in_heap (tupleKind_room_in1 hu) (nc I.hok eb) hd dd ?_;have q:=(rel.val k).isSome_eq;rw[Option.isSome_map]at q;rw[<-q,<-l];exact h _ (I.tok _)
theorem D1{Q:Value->Shared->Prop}(hu:A.units+1<cLine)(I:Inv X pins σ H s)(g:DGet H a y o)(ry:bV y u)(h:∀s',Inv X pins σ H s'->Q (.bool (!o.isSome)) s') :
  wpAny (model X.prog X.w) A (compareOp .NotIn u (.ref a)) Q E s:=by
 rcases g with⟨kvs,k,e,ey,l⟩|⟨kvs,k,b,e,ey,eb,l⟩
 ·subst ey;obtain⟨z,hd,vs,rel,dd⟩:=pX I.hok e;refine wpAny_notIn_of (um ry) hd dd.mapOf ?_;rw[<-(rel.val k).isSome_eq,<-l];exact h _ (I.tok _)
 ·subst ey;cases (show u=Value.ref b from ry);obtain⟨z,hd,xs,rel,dd⟩:=qV I.hok e;refine wpAny_notIn_heap (tupleKind_room_in1 hu) (nc I.hok eb) hd dd ?_;have q:=(rel.val k).isSome_eq;rw[Option.isSome_map]at q;rw[<-q,<-l];exact h _ (I.tok _)
theorem oy{h':Heap}{t':Nat}{ob:HO}(I:Inv X pins σ H s)(mu:Mut (H a))(hs:ZH a s.heap h')(he:∃q,h'.get? a=some q)(new:bU X.prog X.w (upd H a ob) h' a ob) :
  Inv X pins σ (upd H a ob) { s with heap:=h',toks:=t' }:=
 I.write (x:=a) (e:=a) mu (.inl rfl) (fun b q hb z=>(hs.2 b hb).trans z) he new
theorem HU{P:Program}{w:World}{H':Hp}{h':Heap}{kvs:List (Key×V)}{vs:List (Key×Value)}(z:kvs.length<=sizeLine)(hd:(a == sysModules)=false)(rel:KV kvs vs)(dd:h'.DictOf (cE P w) a vs) :
  bU P w H' h' a (.dK kvs):=⟨z,hd,vs,rel,dd⟩
theorem x8{H':Hp}{Q:Unit->Shared->Prop}(hu:A.units+1<cLine)(I:Inv X pins σ H s)(g:Bx H a y v H')(ry:bV y u)(rv:bV v r)(h:∀s',Inv X pins σ H' s'->Q () s') :
  wpAny (model X.prog X.w) A (setItem (.ref a) u r) Q E s:=by
 rcases g with⟨kvs,k,e,ey,l,eH⟩|⟨kvs,k,b,e,ey,eb,l,eH⟩
 ·subst ey eH;obtain⟨z,hd,vs,rel,dd⟩:=DY I.hok e;have hz:vs.length<=sizeLine:=by rw[<-rel.length];exact z
  have hl:(oH kvs k v).length<=sizeLine:=by have:=lO kvs k v;omega
  refine wpAny_setItem_pairs (hsz:=hz) (um ry) dd fun h' dd' hs=>h _ ?_;have he:∃q,h'.get? a=some q:=let ⟨q,_,_,hq,_⟩:=dd';⟨q,hq⟩
  exact oy I (by rw[e];exact True.intro) hs he (HU hl hd (rel.put k rv) dd')
 ·subst ey eH;cases (show u=Value.ref b from ry);obtain⟨z,hd,xs,rel,dd⟩:=K3 I.hok e;have hz:xs.length<=sizeLine:=by rw[<-Paired.length rel];exact z
  have hl:(oH kvs k v).length<=sizeLine:=by have:=lO kvs k v;omega
  refine wpAny_setItem_heap (hsz:=hz) (tupleKind_room_in1 hu) (nc I.hok eb) dd fun h' dd' hs=>h _ ?_;obtain⟨q,es,ep,hq,h2,h3,h4,_,h5⟩:=dd';refine oy I (by rw[e];exact True.intro) hs ⟨q,hq⟩ ⟨hl,hd,_,(rel.put k eb rv).keeps fun c ys ec=>?_,q,es,ep,hq,h2,h3,h4,h5⟩;rw[bj (Ku ec e (fun z=>nomatch z))];exact ec
end
section
variable{X:Cx}{pins:List (Addr×Obj)}{σ:St}{H:Hp}{s:Shared}{a:Addr}{kvs:List (Key×V)}{A:Around}{E:Value->Shared->Prop}
theorem K4{Q:Value->Shared->Prop}(I:Inv X pins σ H s)(e:Rd H a (.dK kvs))(h:∀t s',Inv X pins σ H s'->Q (.int kvs.length t) s'):wpAny (model X.prog X.w) A (call (.builtin "len") [.ref a]) Q E s:=by
 obtain⟨z,hd,vs,rel,dd⟩:=pX I.hok e;refine call_len_dict hd dd (by rw[<-rel.length];rw[sizeLine_eq]at z;omega) ?_;rw[<-rel.length];exact h _ _ (I.tok _)
end
def EB(i:Expr):Prop:=∀ov iv,subscripted i false ov iv=operate [ov,iv] (getItem ov iv)
theorem vJ{prog:Program}{w:World}{A:Around}{E:Value->Shared->Prop}{s:Shared}{env:Env}{value slice:Expr}{pos:Pos}{T id:String}{Q:Value->Shared->Prop}
  (hl:typeLookup (.type T) "__getitem__"=pure (some (.builtin id))) (hs:EB slice)
  (h:wpAny (model prog w) A (eval value env) (fun o s₁=>wpAny (model prog w) A (eval slice env) (fun i s₂=>s₂.TypeIs o T/\wpAny (model prog w) A (getItem o i) Q E s₂) E s₁) E s) :
  wpAny (model prog w) A (eval (.Subscript value slice pos) env) Q E s:=by
 refine Subscript_ (Z4 h (fun o s₁ h₁=>Z4 h₁ (fun i s₂ h₂=>?_) fun _ _ x=>x) fun _ _ x=>x);obtain⟨hT,h₂⟩:=h₂;unfold subscriptTail;refine Q2 ?_;rw[getitemInPython_of_ne hT.not_modules];refine Q2 (wpAny_specialOf hT hl ?_);have fin:wpAny (model prog w) A (subscripted slice false o i) (fun r s₃=>wpAny (model prog w) A (letTemporaryGo value o r >>= fun _=>pure r) Q E s₃) E s₂:=by
  rw[hs o i];exact wpAny_operating (Z4 h₂ (fun r s₃ h₃=>Q2 (wpAny_letTemporaryGo (Q9 h₃))) fun _ _ x=>x)
 first
  |exact Q9 (Q2 fin)
  |exact Q2 (Q9 (Q2 fin))
  |exact Q2 fin
theorem qW{X:Cx}{pins:List (Addr×Obj)}{σ:St}{H:Hp}{s:Shared}{a:Addr}{y:V}{o:Option V}(I:Inv X pins σ H s)(g:DGet H a y o):s.TypeIs (.ref a) "dict":=by
 rcases g with⟨kvs,k,e,_,_⟩|⟨kvs,k,b,e,_,_,_⟩
 ·obtain⟨_,_,vs,_,dd⟩:=pX I.hok e;exact dd.typeIs
 ·obtain⟨_,_,xs,_,dd⟩:=qV I.hok e;exact dd.typeIs
def FJ(td ty:TE):TE:=fun σ H Q=>td σ H fun x H1=>ty σ H1 fun y H2=>∃a v,x=.ref a/\DGet H2 a y (some v)/\Q v H2
def Ir(ty td:TE):TE:=fun σ H Q=>ty σ H fun y H1=>td σ H1 fun x H2=>∃a o,x=.ref a/\DGet H2 a y o/\Q (.bl o.isSome) H2
def qy(ty td:TE):TE:=fun σ H Q=>ty σ H fun y H1=>td σ H1 fun x H2=>∃a o,x=.ref a/\DGet H2 a y o/\Q (.bl (!o.isSome)) H2
def FU(td ty tv:TE):TS:=fun D σ H=>tv σ H fun v H1=>td σ H1 fun x H2=>ty σ H2 fun y H3=>∃a H4,x=.ref a/\Bx H3 a y v H4/\D.nx σ H4
section
variable{X:Cx}{o i value:Expr}{pos pos':Pos}{td ty tv:TE}
theorem C3(hu:X.A.units+1<cLine)(ho:PE X o td)(hi:PE X i ty)(hs:EB i):PE X (.Subscript o i pos) (FJ td ty):=by
 intro pins s σ H Q I h;refine vJ PySem.F.slot_dict_getitem.lookup hs (thn (ho pins s σ H _ I h) fun u s1 ⟨x,H1,I1,rx,q1⟩=>thn (hi pins s1 σ H1 _ I1 q1) fun iv s2 hz=>?_);obtain⟨y,H2,I2,ry,a,v,ex,g,q2⟩:=hz;subst ex;obtain rfl:u=Value.ref a:=rx;exact⟨qW I2 g,ya hu I2 g ry fun w' s3 I3 rw'=>⟨v,H2,I3,rw',q2⟩⟩
theorem GF(hu:X.A.units+1<cLine)(hi:PE X i ty)(ho:PE X o td):PC X .In i o (Ir ty td):=by
 intro pins s σ H Q I h;refine thn (hi pins s σ H _ I h) fun iv s1 ⟨y,H1,I1,ry,q1⟩=>thn (ho pins s1 σ H1 _ I1 q1) fun u s2 hz=>?_;obtain⟨x,H2,I2,rx,a,ov,ex,g,q2⟩:=hz;subst ex;obtain rfl:u=Value.ref a:=rx;exact Mx hu I2 g ry fun s3 I3=>⟨.bl ov.isSome,H2,I3,rfl,q2⟩
theorem wA(hu:X.A.units+1<cLine)(hi:PE X i ty)(ho:PE X o td):PC X .NotIn i o (qy ty td):=by
 intro pins s σ H Q I h;refine thn (hi pins s σ H _ I h) fun iv s1 ⟨y,H1,I1,ry,q1⟩=>thn (ho pins s1 σ H1 _ I1 q1) fun u s2 hz=>?_;obtain⟨x,H2,I2,rx,a,ov,ex,g,q2⟩:=hz;subst ex;obtain rfl:u=Value.ref a:=rx;exact D1 hu I2 g ry fun s3 I3=>⟨.bl (!ov.isSome),H2,I3,rfl,q2⟩
theorem CL(hu:X.A.units+1<cLine)(ho:PE X o td)(hi:PE X i ty)(hv:PE X value tv)(hs:swapsWith value (some (.Subscript o i pos')) pos.line X.env=pure false) :
  PS X (.Assign [.Subscript o i pos'] value pos) (FU td ty tv):=by
 intro pins s σ H D I h;refine wpAny_Assign_Subscript (thn (hv pins s σ H _ I h) fun r s1 ⟨v,H1,I1,rv,q1⟩=>thn (ho pins s1 σ H1 _ I1 q1) fun u s2 ⟨x,H2,I2,rx,q2⟩=>thn (hi pins s2 σ H2 _ I2 q2) fun iv s3 hz=>?_) hs;obtain⟨y,H3,I3,ry,a,H4,ex,g,q3⟩:=hz;subst ex;obtain rfl:u=Value.ref a:=rx;exact x8 hu I3 g ry rv fun s4 I4=>⟨σ,H4,I4,q3⟩
end
theorem Ap{P:Program}{w:World}{H:Hp}(h:Heap)(hb:sysModules<h.objs.size):bU P w H (h.push { cls:=.type "dict",data:=.dict #[] }) h.objs.size (.dK []):=
 ⟨Z5 _,beq_eq_false_iff_ne.mpr (Ne.symm (QL hb)),[],.nil,Heap.DictOf.new h⟩
theorem An{P:Program}{w:World}{H:Hp}(h:Heap)(hb:sysModules<h.objs.size):bU P w H (h.push { cls:=.type "dict",data:=.dict #[] }) h.objs.size (.dT []):=
 ⟨Z5 _,beq_eq_false_iff_ne.mpr (Ne.symm (QL hb)),[],.nil,_,#[],0,QY _ rfl,⟨rfl,rfl,rfl⟩,rfl,rfl,ZC⟩
def AM:TE:=fun _ H Q=>∀p,H p=none->Q (.ref p) (upd H p (.dK []))
def AL:TE:=fun _ H Q=>∀p,H p=none->Q (.ref p) (upd H p (.dT []))
section
variable{X:Cx}{pos:Pos}
theorem zI:PE X (.Dict [] [] pos) AM:=fun pins s σ H Q I h=>
 wpAny_Dict_empty ⟨.ref s.heap.objs.size,_,I.laid (a:=s.heap.objs.size) (o:=.dK []) (t':=s.toks) (fun _ _ q=>QQ _ q) (QX _) (Ap s.heap I.big),rfl,h _ (I.hok.fresh (QX _))⟩
theorem zH:PE X (.Dict [] [] pos) AL:=fun pins s σ H Q I h=>
 wpAny_Dict_empty ⟨.ref s.heap.objs.size,_,I.laid (a:=s.heap.objs.size) (o:=.dT []) (t':=s.toks) (fun _ _ q=>QQ _ q) (QX _) (An s.heap I.big),rfl,h _ (I.hok.fresh (QX _))⟩
end
def vG:List (TE×TE)->St->Hp->(List (V×V)->Hp->Prop)->Prop
 |[],_,H,Q=>Q [] H
 |(tk,tv)::r,σ,H,Q=>tk σ H fun x H1=>tv σ H1 fun y H2=>vG r σ H2 fun ps H3=>Q ((x,y)::ps) H3
abbrev VV:List (V×V)->List (Value×Value)->Prop:=Paired fun p q=>bV p.1 q.1/\bV p.2 q.2
def PPs(X:Cx)(pos:Pos)(keys:List (Option Expr))(values:List Expr)(trs:List (TE×TE)):Prop:=
 ∀(pins:List (Addr×Obj)) (s:Shared) (σ:St) (H:Hp) (Q:List (V×V)->Hp->Prop),Inv X pins σ H s->vG trs σ H Q->
  wpAny (model X.prog X.w) X.A (evalPairs (pairTrees keys values X.env pos)) (fun vs s'=>∃ps H',Inv X pins σ H' s'/\VV ps vs/\Q ps H') X.xe s
theorem CN{X:Cx}{pos:Pos}:PPs X pos [] [] []:=fun pins s σ H Q I h=>pairTrees_nil_walk ⟨[],H,I,.nil,h⟩
theorem zC{X:Cx}{pos:Pos}{k v:Expr}{ks:List (Option Expr)}{vs:List Expr}{tk tv:TE}{trs:List (TE×TE)}(hk:PE X k tk)(hv:PE X v tv)(hr:PPs X pos ks vs trs) :
  PPs X pos (some k::ks) (v::vs) ((tk,tv)::trs):=fun pins s σ H Q I h=>
 pairTrees_cons_walk (thn (hk pins s σ H _ I h) fun u s1 ⟨x,H1,I1,rx,q1⟩=>thn (hv pins s1 σ H1 _ I1 q1) fun w2 s2 ⟨y,H2,I2,ry,q2⟩=>
  thn (hr pins s2 σ H2 _ I2 q2) fun ws s3 ⟨ps,H3,I3,rel,q3⟩=>⟨(x,y)::ps,H3,I3,.cons ⟨rx,ry⟩ rel,q3⟩)
structure M2(X:Cx)(o:Expr)(m:Str)(apos:Pos)(e f:Expr)(cpos:Pos):Prop where
 base:attributeBase o m X.env (eval o X.env)=eval o X.env
 few:((backTo cpos (starEach [e,f] X.env)).all (fun x=>!x.1)&&(backToKw cpos (keywordEach [] X.env)).all (fun x=>x.1.isSome)
  && decide (([e,f]:List Expr).length+([]:List Keyword).length+(if ([]:List Keyword).isEmpty then 0 else 1)<30))=true
 line:(apos.endLine == cpos.line)=true
 trees:backTo cpos (starEach [e,f] X.env)=[(false,eval e X.env),(false,eval f X.env)]
def IsD(H:Hp)(a:Addr):Prop:=(∃kvs,Rd H a (.dK kvs))\/∃kvs,Rd H a (.dT kvs)
theorem Hq{X:Cx}{pins:List (Addr×Obj)}{σ:St}{H:Hp}{s:Shared}{a:Addr}(I:Inv X pins σ H s)(d:IsD H a) :
  s.TypeIs (.ref a) "dict"/\(∀b,Value.ref a=.ref b->∃ob,s.heap.get? b=some ob/\ob.dict=none)/\(a == sysModules)=false:=by
 rcases d with⟨kvs,e⟩|⟨kvs,e⟩
 ·obtain⟨_,hd,vs,_,dd⟩:=pX I.hok e;refine⟨dd.typeIs,fun b q=>?_,hd⟩;cases q;obtain⟨ob,_,_,h1,h2,_⟩:=dd;exact⟨ob,h1,h2.2.1⟩
 ·obtain⟨_,hd,xs,_,dd⟩:=qV I.hok e;refine⟨dd.typeIs,fun b q=>?_,hd⟩;cases q;obtain⟨ob,_,_,h1,h2,_⟩:=dd;exact⟨ob,h1,h2.2.1⟩
section
variable{X:Cx}{pins:List (Addr×Obj)}{σ:St}{H:Hp}{s:Shared}{a:Addr}{y d:V}{u r:Value}{o:Option V}{A:Around}{E:Value->Shared->Prop}
theorem HV{Q:Value->Shared->Prop}(hu:A.units+1<cLine)(I:Inv X pins σ H s)(g:DGet H a y o)(ry:bV y u)(rd:bV d r)(h:∀w' s',Inv X pins σ H s'->bV (o.getD d) w'->Q w' s') :
  wpAny (model X.prog X.w) A (call (.builtin "dict.get") [.ref a,u,r]) Q E s:=by
 rcases g with⟨kvs,k,e,ey,l⟩|⟨kvs,k,b,e,ey,eb,l⟩
 ·subst ey;obtain⟨z,hd,vs,rel,dd⟩:=pX I.hok e;refine call_meetsIn PySem.F.slot_dict_get dd.typeIs PySem.F.entry_dict_get (PySem.F.args_dict_get_3 _ _ _) (meets_dict_get_default (cE X.prog X.w) a (um ry) hd r) ⟨_,dd.mapOf,h _ _ (I.tok _) ?_⟩;rw[l];exact(rel.val k).getD rd
 ·subst ey;cases (show u=Value.ref b from ry);obtain⟨z,hd,xs,rel,dd⟩:=qV I.hok e;refine call_meetsIn PySem.F.slot_dict_get dd.typeIs PySem.F.entry_dict_get (PySem.F.args_dict_get_3 _ _ _) (meetsH_dict_get_default (tupleKind (cE X.prog X.w)) a b hd r) ⟨tupleKind_room_in1 hu,k,xs,nc I.hok eb,dd,h _ _ (I.tok _) ?_⟩;rw[l];exact(rel.val k).getD rd
end
def AN(td ty tx:TE):TE:=fun σ H Q=>td σ H fun x H1=>∃a,x=.ref a/\IsD H1 a/\ty σ H1 fun y H2=>tx σ H2 fun z H3=>∃o,DGet H3 a y o/\Q (o.getD z) H3
section
variable{X:Cx}{o e f:Expr}{apos cpos:Pos}{td ty tx:TE}
theorem zJ(hu:X.A.units+1<cLine)(ho:PE X o td)(he:PE X e ty)(hf:PE X f tx)(m:M2 X o "get" apos e f cpos):PE X (.Call (.Attribute o "get" apos) [e,f] [] cpos) (AN td ty tx):=by
 intro pins s σ H Q I h;refine wpAny_Call_method m.base m.few m.line PySem.F.plainAttrs_dict PySem.F.slot_dict_get PySem.F.type_dict_get (thn (ho pins s σ H _ I h) fun u s1 hz=>?_);obtain⟨x,H1,I1,rx,a,ex,d,q1⟩:=hz;subst ex;obtain rfl:u=Value.ref a:=rx;obtain⟨t1,t2,_⟩:=Hq I1 d;refine⟨t1,t2,?_⟩;rw[m.trees];refine Calls.callWith_builtin rfl (Calls.evalArgs_plain (Calls.spliced_cons (thn (he pins s1 σ H1 _ I1 q1) fun iv s2 ⟨y,H2,I2,ry,q2⟩=>
  Calls.spliced_cons (thn (hf pins s2 σ H2 _ I2 q2) fun fv s3 ⟨z,H3,I3,rz,ov,g,q3⟩=>Calls.spliced_nil ?_))))
 exact HV hu I3 g ry rz fun w' s4 I4 rw'=>⟨_,H3,I4,rw',q3⟩
end
end L2
namespace Att
open PySem PySem.W PySem.Calls PyProof.Rows
theorem lT{P:Params}{h:Heap}:∀(ns:List Int) (vs:List Value),WellAll P h vs (ns.map WData.int)->IntsAre vs ns:=by
 intro ns;induction ns with
 |nil=>
  intro vs w;rw[Ql]at w;cases w;exact .nil
 |cons n ns ih=>
  intro vs w;rw[QJ]at w;cases w with
  |cons a b=>
   cases a;exact .cons _ _ (ih _ b)
theorem vQ{l:OpenLaw}{n:Nat}(hn:l.most=some n){P:Params}{h:Heap}{args:List WData}{vals:List Value}
  (hpre:l.row.toRowW.claim.pre args=true) (hwl:WellAll P h vals args) :
  ∃a vs ns,vals=[Value.ref a]/\args=[WData.list (ns.map WData.int)]/\h.get? a=some { cls:=.type "list",data:=.seq vs.toArray }/\IntsAre vs ns/\ns.length<=n:=by
 have hsh:WShape.hasAll [] args [.list .int]=true:=(pre_splitW hpre).1;have hc:l.pre.holds [] { args:=args }=true:=(pre_splitW hpre).2;obtain⟨d,r,rfl,h1,h2⟩:=hasAllW_cons hsh;obtain rfl:=hasAllW_nil h2;obtain⟨xs,rfl,h3⟩:=hasW_list h1;obtain⟨ns,rfl⟩:=items_int h3;have ed:ns.length<=n:=by
  unfold OpenLaw.pre at hc;have h4:(WTm.not (.lt (.lit (.int (n:Int))) (.len (.arg 0)))).holds [] { args:=[.list (ns.map .int)] }=true:=by
   have h4:=(holds_andW hc).1;rw[hn]at h4;exact h4
  have h5:=condW_of h4 (w_not (w_lt w_lit (w_len_list (w_arg rfl))));rw[Q6]at h5;refine Nat.le_of_not_lt fun q=>?_;have q':(n:Int)<((ns.length:Nat):Int):=by omega
  first
   |(rw[decide_eq_true q']at h5;exact absurd h5 (by decide))
   |(simp at h5;omega)
 cases hwl with
 |cons w1 w2=>
  cases w2;cases w1 with
  |list ho hall=>exact⟨_,_,ns,rfl,rfl,ho,lT ns _ hall,ed⟩
theorem wx(l:OpenLaw)(args:List WData):l.row.toRowW.claim.post args (.bool true) args=true:=
 postW_of (r:=l.row.toRowW) (X:=(true == true))
  (show WShape.has [] (.bool true) .bool=true by first|rfl|decide|simp[WShape.has,WShape.arms,WShape.armsAll])
  (show(WTm.eq .res (.lit (.bool true))).value [] { args:=args,res:=some (.bool true),after:=args }=some (.bool (true == true))from w_eq_bool (w_res rfl) w_lit) rfl
theorem attach_call{l:OpenLaw}{n:Nat}{q:Program}{loose:List Str}{XP:(Str->Option Value)->Heap->Prop}{YP:World->Heap->Prop}{d:DefRec}
  (hn:l.most=some n) (hdf:d.params.defaults=[])
  (call:∀(w:World) (s₀ s₁:Shared) (mg mb:Str->Option Value) (fa:Addr) (o:Obj) (pm cd doc:Value) (a:Addr) (vs:List Value) (ns:List Int),
   Ground q loose [] XP w s₀ mg mb s₁.heap->YP w s₁.heap->
   s₁.heap.get? fa=some o->o.data=.func (docDef d.name d.params d.body d.scope pm cd doc)->s₁.heap.CodeRec cd d.name->mg d.name=some (.ref fa)->
   s₁.heap.get? a=some { cls:=.type "list",data:=.seq vs.toArray }->IntsAre vs ns->ns.length<=n->s₁.gens=#[]->
   codeAny (model l.prog w) callerA (.call (.ref fa) ⟨[.ref a],[]⟩) (fun r s'=>r=.ok (.ret (.bool true))/\OldK s₁.heap s'.heap/\s'.os=s₁.os/\AllBare s'.gens) s₁) :
  WalkO q loose XP YP l.row.toRowW d [] (fun f vs=>PySem.call f vs):=by
 intro w s₀ s₁ mg mb G Y fa o pm cd doc dV kV ho hd hcd hD hmg hg args vals as hpre hlay hrd hwl hlo;obtain rfl:dV=.none:=Dflts.none hD hdf;obtain rfl:kV=.none:=Dflts.noKw hD;obtain⟨a,vs,ns,rfl,rfl,hobj,hints,ed⟩:=vQ hn hpre hwl;refine enter_call (codeAny_mono (call w s₀ s₁ mg mb fa o pm cd doc a vs ns G Y ho (fd_plain hd) hcd hmg hobj hints ed hg) fun r s' hq=>?_);obtain⟨rfl,h2,h3,h4⟩:=hq;exact⟨.inl ⟨.bool true,.bool true,[],rfl,fun _=>rfl,.bool true,wx l _,fun _=>⟨List.Pairwise.nil,fun _ hm=>(nomatch hm)⟩⟩,h2,h3,h4⟩
end Att
namespace L2
open PySem PySem.Spec PyProof.Rows
theorem fF:∀{vs:List Value} {ns:List Int},IntsAre vs ns->bP (ns.map V.int) vs
 |_,_,.nil=>.nil
 |_,_,.cons n t h=>.cons ⟨t,rfl⟩ (fF h)
def Le(H:Hp):Prop:=∀b,H b=none\/∃o xs,H b=some (.frz o (.lst xs))
theorem z6{P:Program}{w:World}{K:Q1}{mg mb:Str->Option Value}{CX:CXT}{k:Nat}{fa a:Addr}{fd:FuncData}{x:Str}{sp:Sp}{s₁:Shared}{vs:List Value}{ns:List Int}
  (KX:K.In s₁.heap) (hns:s₁.heap.Ns mainGlobals mg) (hb:s₁.heap.Ns builtinsNs mb) (hbb:∀x:Str,x≠"__name__"->mb x=bootBuiltins x) (hlim:s₁.heap.NoLimit) (hg:s₁.gens=#[])
  (ha:s₁.heap.get? a=some { cls:=.type "list",data:=.seq vs.toArray }) (hi:IntsAre vs ns) (hl:ns.length<=sizeLine) (hr:fX k callerA)
  (F:∀base:Heap,K.In base->base.Ns mainGlobals mg->kh P w K mg base CX k fa fd [x] sp) (hbind:∀(s:Shared) (u:Value),BindsTo s fd ⟨[u],[]⟩ [(x,u)])
  (hsp:∀H:Hp,Le H->SqL K H a (ns.map V.int)->sp [.ref a] H (fun v _=>v=.bl true) fun _ _ _=>False)
  (hCX:∀H e s',CX [] H s₁ (fun _ _ _=>False) e s'->False) :
  codeAny (model P w) callerA (.call (.ref fa) ⟨[.ref a],[]⟩) (fun r s'=>r=.ok (.ret (.bool true))/\OldK s₁.heap s'.heap/\s'.os=s₁.os/\AllBare s'.gens) s₁:=by
 have rv:=fF hi;have lenV:=hi.length;have core:∀H:Hp,Le H->SqL K H a (ns.map V.int)->HOk P w H s₁.heap->(∀b,H b≠none->b=a)->(H a≠none->K.lookup a=none)->
   codeAny (model P w) callerA (.call (.ref fa) ⟨[.ref a],[]⟩) (fun r s'=>r=.ok (.ret (.bool true))/\OldK s₁.heap s'.heap/\s'.os=s₁.os/\AllBare s'.gens) s₁:=by
  intro H hO hS hok hA hK;have base_of:∀{b:Addr} {o:Obj},s₁.heap.get? b=some o->H b=none->(Ae s₁.heap H).get? b=some o:=fun e n=>Ad e n;have noA:∀{b:Addr} {o:Obj} {es:Array DictEntry} {ep:Nat},s₁.heap.get? b=some o->o.data=.dict es ep->H b=none:=fun{b o es ep} e d=>by
   cases q:H b with
   |none=>rfl
   |some u=>
    have e':b=a:=hA b (by rw[q];simp);subst e';rw[ha]at e;cases e;have d':Data.seq vs.toArray _=Data.dict es ep:=d;cases d'
  have nsK:∀{b:Addr} {m:Str->Option Value},s₁.heap.Ns b m->(Ae s₁.heap H).Ns b m:=fun{b m} ⟨o,es,ep,e,d,r⟩=>⟨o,es,ep,base_of e (noA e d),d,r⟩;have hKb:K.In (Ae s₁.heap H):=fun b o e=>base_of (KX b o e) (by
   cases q:H b with
   |none=>rfl
   |some u=>
    have e':b=a:=hA b (by rw[q];simp);subst e';rw[hK (by rw[q];simp)]at e;cases e)
  have hM:Mod K mg (Ae s₁.heap H):=⟨hKb,nsK hns,⟨mb,nsK hb,hbb⟩,let ⟨mc,h1,h2⟩:=hlim;⟨mc,nsK h1,h2⟩⟩;have e0:Eg P w K mg (Ae s₁.heap H) callerA [] s₁ H:=⟨rfl,hM,fun b o e=>Dj e,Nat.le_of_eq (xy _ _),trivial,fun b hb=>absurd (show b∈([]:List Addr)from hb) (by simp),hok,.of_eq hg⟩;refine codeAny_mono ((F _ hKb (nsK hns)).run callerA [] s₁ H ⟨[.ref a],[]⟩ [.ref a] [.ref a] _ _ hr e0 (hbind s₁ (.ref a)) (.cons rfl .nil) (hsp H hO hS)) fun r s' h=>?_;cases r with
  |error e=>exact(hCX H e s' h).elim
  |ok fl=>
   cases fl with
   |next=>exact False.elim h
   |brk=>exact False.elim h
   |cont=>exact False.elim h
   |ret u=>
    obtain⟨v,H',os,bare,un,hok',r',q⟩:=h;have q':v=.bl true:=q;subst q';obtain rfl:u=Value.bool true:=r';refine⟨rfl,OldK.of_keep fun b o e=>?_,os,bare⟩;cases q:H b with
    |none=>exact un.keep b o e q (by intro z;exact absurd (show b∈([]:List Addr)from z) (by simp)) (by simp)
    |some u=>
     rcases hO b with z|⟨ob,xs,z⟩
     ·rw[q]at z;cases z
     ·have z2:=un.frzs b ob _ z;obtain⟨e1,_⟩:=hok b _ z;obtain⟨e2,_⟩:=hok' b _ z2;rw[e]at e1;cases e1;exact e2
 cases hk:K.lookup a with
 |some o=>
  have e:=KX a o hk;rw[ha]at e;cases e;refine core (fun _=>none) (fun _=>.inl rfl) (.inr ⟨_,vs.toArray,_,hk,rfl,rfl,rfl,by rw[QH,lenV];exact hl,by simpa using rv⟩) (fun b u z=>by have z':(none:Option HO)=some u:=z;cases z') (fun b z=>absurd rfl z) fun z=>absurd rfl z
 |none=>
  refine core (fun b=>if b=a then some (.frz { cls:=.type "list",data:=.seq vs.toArray } (.lst (ns.map V.int)))else none) (fun b=>?_) (.inl (.inr ⟨{ cls:=.type "list",data:=.seq vs.toArray },if_pos rfl⟩)) (fun b u z=>?_) (fun b z=>?_) fun _=>hk
  ·by_cases hb:b=a
   ·exact .inr ⟨_,_,if_pos hb⟩
   ·exact .inl (if_neg hb)
  ·by_cases hb:b=a
   ·have z':=(if_pos hb).symm.trans z;cases z';subst hb;exact⟨ha,by rw[Q6];exact hl,vs,_,rv,ha⟩
   ·have z':=(if_neg hb).symm.trans z;cases z'
  ·by_cases hb:b=a
   ·exact hb
   ·exact absurd (if_neg hb) z
theorem Cg{l:PySem.W.OpenLaw}{n k:Nat}{q:Program}{loose:List Str}{XP:(Str->Option Value)->Heap->Prop}{YP:World->Heap->Prop}{d:DefRec}{K:Params->Q1}{CX:World->CXT}{sp:World->Sp}{x:Str}
  (hn:l.most=some n) (hn2:n<=sizeLine) (hdf:d.params.defaults=[]) (hr:fX k callerA)
  (hY:∀(w:World) (h:Heap),YP w h->(K w.params).In h)
  (F:∀(w:World) (mg:Str->Option Value) (fa:Addr) (h:Heap),(K w.params).In h->h.Ns mainGlobals mg->mg d.name=some (.ref fa)->
   ∃fd:FuncData,(∀(s:Shared) (u:Value),BindsTo s fd ⟨[u],[]⟩ [(x,u)])/\
    ∀base:Heap,(K w.params).In base->base.Ns mainGlobals mg->kh l.prog w (K w.params) mg base (CX w) k fa fd [x] (sp w))
  (hsp:∀(w:World) (H:Hp) (a:Addr) (ns:List Int),ns.length<=n->Le H->SqL (K w.params) H a (ns.map V.int)->sp w [.ref a] H (fun v _=>v=.bl true) fun _ _ _=>False)
  (hCX:∀(w:World) (H:Hp) (s:Shared) (e:Value) (s':Shared),CX w [] H s (fun _ _ _=>False) e s'->False) :
  PySem.W.WalkO q loose XP YP l.row.toRowW d [] (fun f vs=>PySem.call f vs):=by
 refine Att.attach_call hn hdf fun w s₀ s₁ mg mb fa o pm cd doc a vs ns G Y ho hd hcd hmg hobj hints ed hg=>?_;have KX:=hY w _ Y;obtain⟨fd,hb,hF⟩:=F w mg fa _ KX G.T.g hmg;exact z6 KX G.T.g G.T.b G.T.builtins G.T.nolimit hg hobj hints (Qd ed hn2) hr hF hb (fun H hO hS=>hsp w H a ns ed hO hS) fun H e s'=>hCX w H s₁ e s'
def iZ(s:Stmt)(j:Nat):Stmt:=match s with
 |.ClassDef _ _ _ body _ _ _ _ _ _ _=>body.getD j (.Pass ⟨0,0,0,0⟩)
 |_=>.Pass ⟨0,0,0,0⟩
def i6(s:Stmt):Arguments:=match s with
 |.FunctionDef _ a _ _ _ _ _ _ _ _=>a
 |_=>{ posonlyargs:=[],args:=[],vararg:=none,kwonlyargs:=[],kw_defaults:=[],kwarg:=none,defaults:=[] }
def du(s:Stmt):List Stmt:=match s with
 |.FunctionDef _ _ b _ _ _ _ _ _ _=>b
 |_=>[]
def aw(s:Stmt):Scope:=match s with
 |.FunctionDef _ _ _ _ _ _ sc _ _ _=>sc
 |_=>{ kind:=.function,names:=[],isGenerator:=false,isCoroutine:=false }
abbrev CX0:CXT:=fun _ _ _ _ _ _=>False
abbrev E0:XK:=fun _ _ _=>False
theorem zL{X:Cx}:iN CX0 X E0:=fun _ _ _ _ _ _ _ h=>h.elim
structure Fun(K:Q1)(x qual:Str)(st:Stmt)(f:Addr)(fd:FuncData):Prop where
 ex:∃(oc:Value) (od:Option Addr) (kV doc pm:Value) (an:Option Addr) (cdv ct:Value) (osl:Array (Option Value)),
  fd=PySem.W.fnOf x qual (i6 st) (du st) (aw st) .none kV doc pm an cdv ct/\K.lookup f=some ⟨oc,od,.func fd,osl⟩/\PySem.W.codeIn K cdv qual=true
 kp:PySem.W.keepIn K (.ref f)=true
section
variable{P:Program}{w:World}{K:Q1}{mg:Str->Option Value}{base:Heap}
theorem Fun.ok{x qual:Str}{st:Stmt}{f:Addr}{fd:FuncData}{N ps:List Str}{k:Nat}{sp:Sp}(F:Fun K x qual st f fd)(S:aP N ps (aw st))(len:∀vs H Q E,sp vs H Q E->vs.length=ps.length)
  (hbody:∀(cdv:Value) (A:Around) (outer:List Env) (s:Shared) (H:Hp) (vs:List V) (Q:VK) (E:XK),fX k (A.deeper (envOfC qual (aw st) s.heap.objs.size f cdv))->sp vs H Q E->
   ∃t,PSs (tj CX0 P w K mg base N qual (aw st) f cdv A outer s H E).nox (du st) t/\t { nx:=fun _ H'=>Q .non H',rt:=Q } (start N vs) H):kh P w K mg base CX0 (k+1) f fd ps sp:=by
 obtain⟨oc,od,kV,doc,pm,an,cdv,ct,osl,rfl,lk,hcd⟩:=F.ex;refine K1 lk hcd S len fun A outer s H vs Q E hr hsp=>?_;obtain⟨t,h,q⟩:=hbody cdv A outer s H vs Q E hr hsp;exact⟨t,h.nox,q⟩
theorem Fun.binds{x qual:Str}{st:Stmt}{f:Addr}{fd:FuncData}{ps:List Str}(F:Fun K x qual st f fd)
  (h:∀(kV doc pm:Value) (an:Option Addr) (cdv ct:Value) (us:List Value),us.length=ps.length->bindArgs (PySem.W.fnOf x qual (i6 st) (du st) (aw st) .none kV doc pm an cdv ct) ⟨us,[]⟩=pure (ps.zip us)):gI K fd ps []:=by
 obtain⟨oc,od,kV,doc,pm,an,cdv,ct,osl,rfl,lk,hcd⟩:=F.ex;exact .all (h kV doc pm an cdv ct)
theorem Bi{x qual:Str}{st:Stmt}{f:Addr}{oc:Value}{od an:Option Addr}{osl:Array (Option Value)}{kV doc pm cdv ct:Value}(l:K.lookup f=some ⟨oc,od,.func (PySem.W.fnOf x qual (i6 st) (du st) (aw st) .none kV doc pm an cdv ct),osl⟩)
  (c:PySem.W.codeIn K cdv qual=true) (k:PySem.W.keepIn K (.ref f)=true):Fun K x qual st f (PySem.W.fnOf x qual (i6 st) (du st) (aw st) .none kV doc pm an cdv ct):=⟨⟨oc,od,kV,doc,pm,an,cdv,ct,osl,rfl,l,c⟩,k⟩
end
theorem dg{A:Around}{k:Nat}(hr:fX k A):A.units+1<cLine:=ZR (Nat.add_le_add_left (by decide:1<=64) _) hr.units
theorem vO{n:Nat}(h:n<=1000):n<sizeLine:=ZR h (by decide)
section
variable{X:Cx}
theorem pv(i:Nat){x:Str}{pos:Pos}(hN:X.N[i]?=some x:=by rfl)(hv:Vis X.env.scope x:=by first|exact Or.inl rfl|exact Or.inr (Or.inl rfl)|exact Or.inr (Or.inr rfl))(hd:(x == ("__debug__":Str))=false:=by decide)
  (hcd:(x == ("__classdict__":Str))=false:=by decide):PE X (.Name x pos) (Iq i):=Gq hN hv hd hcd
theorem yg:eZ X (.builtin "len") (fun xs H Q=>∃a kvs,xs=[V.ref a]/\H a=some (.dK kvs)/\Q (.int kvs.length) H):=by
 intro pins s σ H xs us Q I r h;obtain⟨a,kvs,rfl,ha,q⟩:=h;obtain⟨u,rfl,ru⟩:=ki r;cases ru;exact K4 I (.inl ha) fun t s' I'=>⟨.int kvs.length,H,I',⟨t,rfl⟩,q⟩
end
theorem Er{A B:Prop}(h:B):if false=true then A else B:=by
 rw[if_neg QV];exact h
theorem Ep{A B:Prop}(h:A):if true=true then A else B:=by
 rw[if_pos rfl];exact h
def rl(H H':Hp):Prop:=∀b o,H b=some o->H' b=some o
theorem rl.refl(H:Hp):rl H H:=fun _ _ h=>h
theorem rl.trans{H H1 H2:Hp}(a:rl H H1)(b:rl H1 H2):rl H H2:=fun c o h=>b c o (a c o h)
theorem rl.free{H H':Hp}(e:rl H H'){l:Addr}(h:H' l=Option.none):H l=Option.none:=by
 cases q:H l with
 |none=>rfl
 |some o=>
  rw[e l o q]at h;cases h
end L2
namespace OG
open PySem PySem.Spec PyProof.Rows L2
structure WE(X:Cx)(e:Expr)(t:TE):Prop where
 h:PE X e t
structure WT(X:Cx)(e:Expr)(t:TT):Prop where
 h:PT X e t
structure WW(X:Cx)(e:Expr)(t:TT):Prop where
 h:PW X e t
structure WA(X:Cx)(es:List Expr)(t:TA):Prop where
 h:PA X es t
structure WS(X:Cx)(st:Stmt)(t:TS):Prop where
 h:PS X st t
structure WSs(X:Cx)(st:List Stmt)(t:TS):Prop where
 h:PSs X st t
structure WI(X:Cx)(tg iter:Expr)(wi:TI):Prop where
 h:PI X tg iter wi
structure WG(X:Cx)(target:Expr)(t:TG):Prop where
 h:PG X target t
structure WGs(X:Cx)(ts:List Expr)(t:TGs):Prop where
 h:PGs X ts t
structure WC(X:Cx)(op:CmpOp)(a b:Expr)(t:TE):Prop where
 h:PC X op a b t
structure WO(X:Cx)(e:Option Expr)(t:TO):Prop where
 h:PO X e t
section
variable{X:Cx}
theorem ao{i j pos}:WE X (.Constant (.int i) j pos) (tC (.int i)):=⟨Gy ⟩
theorem bW{b j pos}:WE X (.Constant (.bool b) j pos) (tC (.bl b)):=⟨Ki ⟩
theorem nH{j pos}:WE X (.Constant .none j pos) (tC .non):=⟨Gw ⟩
theorem bh{x j pos}:WE X (.Constant (.str x) j pos) (tC (.str x)):=⟨Gs ⟩
end
section
variable{X:Cx}
variable{a b:Expr}{pos:Pos}
theorem B6{op:CmpOp}{t:TE}(h:WC X op a b t)(h1:behindInMarks op b=false:=by first|exact nobehind _ (by decide) (by decide)|rfl):WE X (.Compare a [op] [b] pos) t:=⟨GB h.h h1⟩
theorem qo{op:CmpOp}{t:TE}(h:WC X op a b t)(h1:behindInMarks op b=false:=by first|exact nobehind _ (by decide) (by decide)|rfl):WT X (.Compare a [op] [b] pos) (tB t):=⟨Gb h.h h1⟩
end
section
variable{X:Cx}
variable{pos:Pos}
theorem BW{e:Expr}{t:TE}(h:WE X e t)(he:∀whole,isTrue e X.env whole=(do let v <-whole;standAt e.pos;holding [v] (truthy v)):=by intro _;rfl):WT X e (tB t):=⟨F9 h.h he⟩
end
section
variable{X:Cx}
variable{a:Expr}{pos:Pos}
variable{tA:TT}
theorem yR(ha:WT X a tA):WW X (.BoolOp .And [a] pos) tA:=⟨CC ha.h⟩
theorem BU(ha:WT X a tA):WW X (.BoolOp .Or [a] pos) tA:=⟨F6 ha.h⟩
end
section
variable{X:Cx}
variable{a b:Expr}{pos:Pos}
variable{tA tB':TT}{rest:List Expr}
theorem BV(ha:WT X a tA)(hb:WW X (.BoolOp .And (b::rest) pos) tB'):WW X (.BoolOp .And (a::b::rest) pos) (Lp tA tB'):=⟨F7 ha.h hb.h⟩
theorem Ft(ha:WT X a tA)(hb:WW X (.BoolOp .Or (b::rest) pos) tB'):WW X (.BoolOp .Or (a::b::rest) pos) (tOr tA tB'):=⟨Ka ha.h hb.h⟩
end
section
variable{X:Cx}
variable{a:Expr}{pos:Pos}
variable{tA:TT}
theorem BX(ha:WT X a tA):WT X (.UnaryOp .Not a pos) (Lk tA):=⟨Ga ha.h⟩
end
section
variable{X:Cx}
variable{a:Expr}{pos:Pos}
theorem B3{op}{t:TE}(h:WE X a t):WE X (.BoolOp op [a] pos) t:=⟨Gu h.h⟩
end
section
variable{X:Cx}
variable{a b:Expr}{ta tb:TE}{pos:Pos}
variable{rest:List Expr}
theorem B8(ha:WE X a ta)(hb:WE X (.BoolOp .And (b::rest) pos) tb):WE X (.BoolOp .And (a::b::rest) pos) (FN ta tb):=⟨GD ha.h hb.h⟩
theorem Fw(ha:WE X a ta)(hb:WE X (.BoolOp .Or (b::rest) pos) tb):WE X (.BoolOp .Or (a::b::rest) pos) (Lj ta tb):=⟨Ke ha.h hb.h⟩
end
section
variable{X:Cx}
variable{a:Expr}{ta:TE}{pos:Pos}
theorem B4(ha:WE X a ta):WE X (.UnaryOp .Not a pos) (FE ta):=⟨Gv ha.h⟩
end
section
variable{X:Cx}
theorem yS :WSs X [] FG:=⟨CJ ⟩
end
section
variable{X:Cx}{st:Stmt}{rest:List Stmt}{t u:TS}
theorem fD(h1:WS X st t)(h2:WSs X rest u):WSs X (st::rest) (Ei t u):=⟨zy h1.h h2.h⟩
end
section
variable{X:Cx}{st:Stmt}{t:TS}
theorem rE(h1:WS X st t):WSs X [st] t:=⟨CH h1.h⟩
end
section
variable{X:Cx}{e:Expr}{te:TE}{pos:Pos}
theorem yT(he:WE X e te)(hs:swapsWith e none pos.line X.env=pure false:=by rfl):WS X (.Expr e pos) (FI te):=⟨CK he.h hs⟩
theorem vb(he:WE X e te):WS X (.Return (some e) pos) (Li te):=⟨Ge he.h⟩
end
section
variable{X:Cx}{t u:TS}{pos:Pos}
theorem Fu{c:Expr}{a b:List Stmt}{tc:TT}(hc:WT X c tc)(ha:WSs X a t)(hb:WSs X b u):WS X (.If c a b pos) (Lm tc t u):=⟨Kb hc.h ha.h hb.h⟩
end
section
variable{X:Cx}{st:Stmt}
theorem vc :WS X st AK:=⟨zB ⟩
end
section
variable{X:Cx}{pos:Pos}
theorem aK{i:Nat}{x:Str}(hN:X.N.Nodup)(hi:X.N[i]?=some x)(hx:Loc X.env.scope x)(hf:X.fn x=true\/X.env.scope.names.lookup x=some .local:=by first|exact .inl rfl|exact .inr rfl|assumption):WG X (.Name x pos) (uA i):=⟨CV hN hi hx hf⟩
end
section
variable{X:Cx}
theorem yV :WGs X [] LM:=⟨CU ⟩
theorem ve{e:Expr}{es:List Expr}{t:TG}{u:TGs}(h1:WG X e t)(h2:WGs X es u)(hs:(assignEach (e::es) X.env).map (·.2)=assign e X.env::(assignEach es X.env).map (·.2):=by rfl):WGs X (e::es) (HB t u):=⟨zE h1.h h2.h hs⟩
end
section
variable{X:Cx}{pos:Pos}
theorem B1{es:List Expr}{k:Nat}{t:TGs}{n:Nat}(hc:X.calm=true)(h:WGs X es t)(hn:(assignEach es X.env).length=n:=by rfl)(hst:(assignEach es X.env).findIdx? (·.1)=none:=by rfl):WG X (.Tuple es k pos) (LK X.K n t):=⟨Gm hc h.h hn hst⟩
theorem B2 {o i : Expr} {to ti : TE} {t : II} (ho : WE X o to) (hi : WE X i ti) (hs : Ld X t) (ha : ∀ v, assign (.Subscript o i pos) X.env v = (do
   let ov <-holding [v] (eval o X.env)
   let iv <-holding [v,ov] (eval i X.env)
   standAt pos
   holding [v,ov,iv] (setItem ov iv v)
   release [v,ov,iv] []):=by intro _;rfl):WG X (.Subscript o i pos) (LL to ti t):=⟨Gn ho.h hi.h hs ha⟩
theorem vd{tg e:Expr}{te:TE}{g:TG}(he:WE X e te)(hg:WG X tg g)(hs:swapsWithSole [tg] e pos.line X.env=pure false:=by rfl)(hw:swappedStores [tg] e X.env=pure none:=by rfl)(h1:(assignEach [tg] X.env).map (·.2)=[assign tg X.env]:=by rfl):WS X (.Assign [tg] e pos) (FL te g):=⟨Gh he.h hg.h hs hw h1⟩
theorem va{i:Nat}{x:Str}{e:Expr}{te:TE}{pos':Pos}(hN:X.N.Nodup)(hi:X.N[i]?=some x)(hx:Loc X.env.scope x)(he:WE X e te)(hs:swapsWith e (some (.Name x pos')) pos.line X.env=pure false:=by rfl)(hf:X.fn x=true\/X.env.scope.names.lookup x=some .local:=by first|exact .inl rfl|exact .inr rfl|assumption):WS X (.Assign [.Name x pos'] e pos) (FL te (uA i)):=⟨Gd hN hi hx he.h hs hf⟩
theorem u9{c:Expr}{body:List Stmt}{tc:TT}{tb:TS}(hp:PassesOwn (model X.prog X.w) X.A X.env X.xe)(hc:WT X c tc)(hb:WSs X body tb):WS X (.While c body [] pos) (vF tc tb):=⟨zA hp hc.h hb.h⟩
end
section
variable{X:Cx}{tg:Expr}
theorem yU{l:Expr}{tl:TE}(hl:WE X l tl):WI X tg l (Hw X.K tl):=⟨CQ hl.h⟩
theorem BZ{l:Expr}{tl:TE}(hl:WE X l tl):WI X tg l (LJ X.K tl):=⟨Gk hl.h⟩
theorem tW{a:Expr}{ta:TA}{p pos:Pos}(hg:Gl X "range")(hm:X.mg "range"=none)(ha:WA X [a] ta)(hs:starEach [a] X.env=[(false,eval a X.env)]:=by rfl):WI X tg (.Call (.Name "range" p) [a] [] pos) (Hv ta):=⟨wy hg hm ha.h hs⟩
theorem qp{iter:Expr}{body:List Stmt}{wi:TI}{g:TG}{tb:TS}{pos:Pos}(hp:PassesOwn (model X.prog X.w) X.A X.env X.xe)(hc:X.calm=true)(hi:WI X tg iter wi)(hg:WG X tg g)(hb:WSs X body tb)(hs:∀x,foldedSetIterable iter X.env x=pure x:=by intro _;rfl):WS X (.For tg iter body [] pos) (Ek wi g tb):=⟨Gf hp hc hi.h hg.h hb.h hs⟩
end
section
variable{X:Cx}{a b:Expr}{ta tb:TE}{pos:Pos}
theorem Fx{op:Operator}{r:R2}(ho:OpR X (binaryOp op) r)(ha:WE X a ta)(hb:WE X b tb):WE X (.BinOp a op b pos) (tOp r ta tb):=⟨Kf ho ha.h hb.h⟩
end
section
variable{X:Cx}{a:Expr}{ta:TE}{pos:Pos}
theorem Fv{op:UnaryOp}{r:V->Hp->VK->Prop}(ho:UnR X (unaryOp op) r)(ha:WE X a ta):WE X (.UnaryOp op a pos) (tUn r ta):=⟨Kd ho ha.h⟩
end
section
variable{X:Cx}{a b:Expr}{ta tb:TE}{pos:Pos}
theorem rJ{op:CmpOp}{r:R2}(ho:OpR X (compareOp op) r)(ha:WE X a ta)(hb:WE X b tb)(hm:behindInMarks op b=false):WE X (.Compare a [op] [b] pos) (tOp r ta tb):=⟨C4 ho ha.h hb.h hm⟩
theorem nG{op:CmpOp}{r:R2}(ho:OpR X (compareOp op) r)(ha:WE X a ta)(hb:WE X b tb)(hm:behindInMarks op b=false):WT X (.Compare a [op] [b] pos) (FC (tOp r ta tb)):=⟨CF ho ha.h hb.h hm⟩
end
section
variable{X:Cx}{e:Expr}{f:Str}{pos:Pos}{ta:TE}
theorem B5(he:WE X e ta)(hb:attributeBase e f X.env (eval e X.env)=eval e X.env):WE X (.Attribute e f pos) (Ln X.K ta f):=⟨GA he.h hb⟩
end
section
variable{X:Cx}{o value:Expr}{f:Str}{pos pos':Pos}{ta tv:TE}
theorem BY(ha:WE X o ta)(hv:WE X value tv)(hs:swapsWith value (some (.Attribute o f pos')) pos.line X.env=pure false):WS X (.Assign [.Attribute o f pos'] value pos) (Lq X.K ta tv f):=⟨Gg ha.h hv.h hs⟩
end
section
variable{X:Cx}
theorem iP :WA X [] Ej:=⟨GG ⟩
end
section
variable{X:Cx}{e:Expr}{es:List Expr}{te:TE}{t:TA}
theorem dR(ha:WE X e te)(hr:WA X es t)(hs:starEach (e::es) X.env=(false,eval e X.env)::starEach es X.env:=by rfl):WA X (e::es) (ze te t):=⟨C7 ha.h hr.h hs⟩
end
section
variable{X:Cx}{es:List Expr}{t:TA}{pos:Pos}
theorem vf{x1}(h:WA X es t):WE X (.Tuple es x1 pos) (Lh t):=⟨Gr h.h⟩
theorem vh(h:WA X es t):WE X (.List es pos) (Ll t):=⟨Gx h.h⟩
end
section
variable{X:Cx}{CX:CXT}{k:Nat}{f C:Addr}{fd:FuncData}{ps:List Str}{sp:Sp}{dvs:List V}{ds:List Value}{E:XK}{m:Str}{pos apos:Pos}{e o:Expr}{es:List Expr}{ta:TE}{t:TA}
theorem yW {pl : Sem Bool} (he : WE X o ta) (c : Cls X.K C) (hm : Ik X.K C m f) (F : kh X.prog X.w X.K X.mg X.base CX k f fd ps sp) (hr : fX k X.A) (hb : gI X.K fd ps ds) (hd : bP dvs ds) (hx : iN CX X E) (ha : WA X (e :: es) t) (hst : starEach (e :: es) X.env = (false, eval e X.env) :: starEach es X.env := by rfl) (hpl : (backTo pos (starEach es X.env)).any (·.1) = false := by rfl) (ht : eval (.Call (.Attribute o m apos) (e :: es) [] pos) X.env = (do
   let ov <-eval o X.env
   standAt apos.atName
   let (f,first) <-holding [ov] (getMethod ov m pl)
   callWith pos f first (backTo pos (starEach (e::es) X.env)) (backToKw pos (keywordEach [] X.env))):=by rfl):WE X (.Call (.Attribute o m apos) (e::es) [] pos) (Cm C m sp dvs E ta t):=⟨CW he.h c hm F hr hb hd hx ha.h hst hpl ht⟩
end
section
variable{X:Cx}{CX:CXT}{k:Nat}{f C:Addr}{fd:FuncData}{ps:List Str}{sp:Sp}{dvs:List V}{ds:List Value}{E:XK}{x:Str}{p pos:Pos}{e:Expr}{es:List Expr}{t:TA}
theorem yX(M:Mk X.K C f)(F:kh X.prog X.w X.K X.mg X.base CX k f fd ps sp)(hr:fX (k+1) X.A)(hg:Gl X x)(hm:X.mg x=some (.ref C))(hb:gI X.K fd ps ds)(hd:bP dvs ds)(hx:iN CX X E)(ha:WA X (e::es) t)(hdb:(x == ("__debug__":Str))=false:=by decide)(he:starEach (e::es) X.env=(false,eval e X.env)::starEach es X.env:=by rfl)(hpl:(backTo pos (starEach es X.env)).any (·.1)=false:=by rfl):WE X (.Call (.Name x p) (e::es) [] pos) (vI C sp dvs E t):=⟨CY M F hr hg hm hb hd hx ha.h hdb he hpl⟩
end
section
variable{X:Cx}{CX:CXT}{k:Nat}{f C:Addr}{fd:FuncData}{ps:List Str}{sp:Sp}{dvs:List V}{ds:List Value}{E:XK}{x:Str}{p pos:Pos}
theorem vg(M:Mk X.K C f)(F:kh X.prog X.w X.K X.mg X.base CX k f fd ps sp)(hr:fX (k+1) X.A)(hg:Gl X x)(hm:X.mg x=some (.ref C))(hb:gI X.K fd ps ds)(hd:bP dvs ds)(hx:iN CX X E)(hdb:(x == ("__debug__":Str))=false:=by decide):WE X (.Call (.Name x p) [] [] pos) (vI C sp dvs E Ej):=⟨zG M F hr hg hm hb hd hx hdb⟩
end
section
variable{X:Cx}{x:Str}{p pos:Pos}{e:Expr}{es:List Expr}{t:TA}{id:String}{r:List V->Hp->VK->Prop}
theorem oQ(hc:eZ X (.builtin id) r)(hg:Gl X x)(hm:X.mg x=none)(hv:bootBuiltins x=some (.builtin id))(ha:WA X (e::es) t)(hn:x≠"__name__":=by decide)(hdb:(x == ("__debug__":Str))=false:=by decide)(he:starEach (e::es) X.env=(false,eval e X.env)::starEach es X.env:=by rfl)(hpl:(backTo pos (starEach es X.env)).any (·.1)=false:=by rfl):WE X (.Call (.Name x p) (e::es) [] pos) (tCB r t):=⟨zK hc hg hm hv ha.h hn hdb he hpl⟩
end
section
variable{X:Cx}{x:Str}{p pos:Pos}{e:Expr}{es:List Expr}{t:TA}{T:String}{r:List V->Hp->VK->Prop}
theorem mS(hc:eZ X (.type T) r)(hg:Gl X x)(hm:X.mg x=none)(hv:bootBuiltins x=some (.type T))(ha:WA X (e::es) t)(hn:x≠"__name__":=by decide)(hdb:(x == ("__debug__":Str))=false:=by decide)(he:starEach (e::es) X.env=(false,eval e X.env)::starEach es X.env:=by rfl)(hpl:(backTo pos (starEach es X.env)).any (·.1)=false:=by rfl):WE X (.Call (.Name x p) (e::es) [] pos) (tCB r t):=⟨wz hc hg hm hv ha.h hn hdb he hpl⟩
end
section
variable{X:Cx}
theorem rH :WO X none vH:=⟨CP ⟩
end
section
variable{X:Cx}{e:Expr}{te:TE}
theorem rG(h:WE X e te):WO X (some e) (FD te):=⟨CO h.h⟩
end
section
variable{X:Cx}{e:Expr}{te:TE}{lo hi:Option Expr}{tl th:TO}{pos p2:Pos}
theorem oP{r:V->Option Int->Option Int->Hp->VK->Prop}(hr:SlR X r)(he:WE X e te)(hl:WO X lo tl)(hu:WO X hi th):WE X (.Subscript e (.Slice lo hi none p2) pos) (tSl r te tl th):=⟨zF hr he.h hl.h hu.h⟩
end
section
variable{X:Cx}{a b:Expr}{ta tb:TE}{pos:Pos}
theorem Fy{r:R2}(hr:IxR X r)(ha:WE X a ta)(hb:WE X b tb)(hs:rm b):WE X (.Subscript a b pos) (tOp r ta tb):=⟨Kg hr ha.h hb.h hs⟩
end
section
variable{X:Cx}
variable{o:Expr}{to:TE}{name:Str}{apos cpos:Pos}{T id:String}{r:V->List V->Hp->VK->Prop}
theorem B7(pa:PlainAttrs T)(slot:Slot T name id)(hty:typeOf (.builtin id)=pure (.type "method_descriptor"))(hm:MtR X id r)(ho:WE X o to)(hbase:attributeBase o name X.env (eval o X.env)=eval o X.env:=by rfl)(hline:(apos.endLine == cpos.line)=true:=by rfl):WE X (.Call (.Attribute o name apos) [] [] cpos) (Lo X.K T r to):=⟨GC pa slot hty hm ho.h hbase hline⟩
end
section
variable{X:Cx}
variable{o e:Expr}{es:List Expr}{to:TE}{t:TA}{name:Str}{apos cpos:Pos}{T id:String}{r:V->List V->Hp->VK->Prop}
theorem vn (pa : PlainAttrs T) (slot : Slot T name id) (hty : typeOf (.builtin id) = pure (.type "method_descriptor")) (hm : MtR X id r) (ho : WE X o to) (ha : WA X (e :: es) t) (hbase : attributeBase o name X.env (eval o X.env) = eval o X.env := by rfl) (hfew : ((backTo cpos (starEach (e :: es) X.env)).all (fun x => !x.1) && (backToKw cpos (keywordEach [] X.env)).all (fun x => x.1.isSome)
   && decide ((e::es).length+([]:List Keyword).length+(if ([]:List Keyword).isEmpty then 0 else 1)<30))=true:=by rfl) (hline:(apos.endLine == cpos.line)=true:=by rfl) (hs:starEach (e::es) X.env=(false,eval e X.env)::starEach es X.env:=by rfl) (hplain:(backTo cpos (starEach es X.env)).any (·.1)=false:=by rfl):WE X (.Call (.Attribute o name apos) (e::es) [] cpos) (tBM X.K T r to t):=⟨Kh pa slot hty hm ho.h ha.h hbase hfew hline hs hplain⟩
end
section
variable{X:Cx}{o i:Expr}{pos:Pos}{td ty:TE}
theorem yZ(hu:X.A.units+1<cLine)(ho:WE X o td)(hi:WE X i ty)(hs:EB i):WE X (.Subscript o i pos) (FJ td ty):=⟨C3 hu ho.h hi.h hs⟩
end
section
variable{X:Cx}{o i:Expr}{td ty:TE}
theorem vo(hu:X.A.units+1<cLine)(hi:WE X i ty)(ho:WE X o td):WC X .In i o (Ir ty td):=⟨GF hu hi.h ho.h⟩
theorem tX(hu:X.A.units+1<cLine)(hi:WE X i ty)(ho:WE X o td):WC X .NotIn i o (qy ty td):=⟨wA hu hi.h ho.h⟩
end
section
variable{X:Cx}{o i value:Expr}{pos pos':Pos}{td ty tv:TE}
theorem rF(hu:X.A.units+1<cLine)(ho:WE X o td)(hi:WE X i ty)(hv:WE X value tv)(hs:swapsWith value (some (.Subscript o i pos')) pos.line X.env=pure false):WS X (.Assign [.Subscript o i pos'] value pos) (FU td ty tv):=⟨CL hu ho.h hi.h hv.h hs⟩
end
section
variable{X:Cx}{pos:Pos}
theorem vj :WE X (.Dict [] [] pos) AM:=⟨zI ⟩
theorem vi :WE X (.Dict [] [] pos) AL:=⟨zH ⟩
end
section
variable{X:Cx}{o e f:Expr}{apos cpos:Pos}{td ty tx:TE}
theorem vm(hu:X.A.units+1<cLine)(ho:WE X o td)(he:WE X e ty)(hf:WE X f tx)(m:M2 X o "get" apos e f cpos):WE X (.Call (.Attribute o "get" apos) [e,f] [] cpos) (AN td ty tx):=⟨zJ hu ho.h he.h hf.h m⟩
end
section
variable{X:Cx}
theorem wpv(i:Nat){x:Str}{pos:Pos}(hN:X.N[i]?=some x:=by rfl)(hv:Vis X.env.scope x:=by first|exact Or.inl rfl|exact Or.inr (Or.inl rfl)|exact Or.inr (Or.inr rfl))(hd:(x == ("__debug__":Str))=false:=by decide)(hcd:(x == ("__classdict__":Str))=false:=by decide):WE X (.Name x pos) (Iq i):=⟨pv i hN hv hd hcd⟩
end
theorem WW.pt{X:Cx}{e:Expr}{t:TT}(h:WW X e t):WT X e t:=⟨h.h.pt⟩
section
variable{X:Cx}{e:Expr}
def uW(i j:Int):Prop:=0<j/\j.natAbs.log2<9000
theorem nT:OpR X (binaryOp .FloorDiv) (rI uW fun i j=>.int (i / j)):=opI fun i j _ _ _ _ _ hc q=>by
 refine PyProof.Rows.floordiv_int (by have:=hc.1;omega) ?_ (.inl (PyProof.noPylong_of_log2 hc.2));rw[Int.fdiv_eq_ediv_of_nonneg i (Int.le_of_lt hc.1)];exact q
theorem qZ:eZ X (.builtin "isinstance") (fun xs H Q=>∃(x:V) (T:String) (t:Value) (k:Bool),xs=[x,.ty T]/\tP X.K H x t/\PySem.W.kitOne X.K t (.type T)=some k/\Q (.bl k) H):=by
 rintro pins s σ H xs us Q I r ⟨x,T,t,k,rfl,ty,e,q⟩;obtain⟨u,w',rfl,ru,rw'⟩:=Fz r;cases rw';exact xk I ru ty e fun tk=>⟨.bl k,H,I.tok tk,rfl,q⟩
end
theorem cV{H:Hp}{p:Addr}(h:H p=none)(o:HO):rl H (upd H p o):=fun b u q=>by rw[bj (cf q h)];exact q
def Def(K:Q1)(mg:Str->Option Value)(x:Str)(st:Stmt)(ps:List Str):Prop:=
 ∃f fd,Fun K x x st f fd/\gI K fd ps []/\mg x=some (.ref f)
def Has(P:Program)(w:World)(K:Q1)(mg:Str->Option Value)(base:Heap)(x:Str)(k:Nat)(ps:List Str)(sp:Sp):Prop:=
 ∃f fd,kh P w K mg base CX0 k f fd ps sp/\gI K fd ps []/\PySem.W.keepIn K (.ref f)=true/\mg x=some (.ref f)
section
variable{P:Program}{w:World}{K:Q1}{mg:Str->Option Value}{base:Heap}{x:Str}{st:Stmt}{ps N:List Str}{k j:Nat}{sp:Sp}
theorem Has.mono(h:Has P w K mg base x j ps sp)(l:j<=k):Has P w K mg base x k ps sp:=by
 obtain⟨f,fd,a,b,c,d⟩:=h;exact⟨f,fd,a.mono l,b,c,d⟩
theorem Def.has(d:Def K mg x st ps)(S:aP N ps (aw st))(len:∀vs H Q E,sp vs H Q E->vs.length=ps.length)
  (hbody:∀(f:Addr) (cdv:Value) (A:Around) (outer:List Env) (s:Shared) (H:Hp) (vs:List V) (Q:VK) (E:XK),fX k (A.deeper (envOfC x (aw st) s.heap.objs.size f cdv))->sp vs H Q E->
   ∃t,WSs (tj CX0 P w K mg base N x (aw st) f cdv A outer s H E).nox (du st) t/\t { nx:=fun _ H'=>Q .non H',rt:=Q } (start N vs) H):Has P w K mg base x (k+1) ps sp:=by
 obtain⟨f,fd,F,b,m⟩:=d;exact⟨f,fd,F.ok S len (fun cdv A outer s H vs Q E hr h=>let ⟨t,a,b⟩:=hbody f cdv A outer s H vs Q E hr h;⟨t,a.h,b⟩),b,F.kp,m⟩
end
theorem AF{X:Cx}{k:Nat}{ps:List Str}{sp:Sp}{x:Str}{p pos:Pos}{e:Expr}{es:List Expr}{t:TA}(F:Has X.prog X.w X.K X.mg X.base x k ps sp)(hr:fX k X.A)(hg:Gl X x)
  (ha:WA X (e::es) t) (hdb:(x == ("__debug__":Str))=false:=by decide) (he:starEach (e::es) X.env=(false,eval e X.env)::starEach es X.env:=by rfl) (hpl:(backTo pos (starEach es X.env)).any (·.1)=false:=by rfl) :
  WE X (.Call (.Name x p) (e::es) [] pos) (FK sp [] E0 t):=by
 obtain⟨f,fd,a,b,c,d⟩:=F;exact⟨C5 a hr hg d c b .nil zL ha.h hdb he hpl⟩
structure Blt(mg:Str->Option Value):Prop where
 len:mg "len"=none
 isinstance:mg "isinstance"=none
 int:mg "int"=none
 bool:mg "bool"=none
 str:mg "str"=none
 tuple:mg "tuple"=none
 list:mg "list"=none
 range:mg "range"=none
 min:mg "min"=none
 sum:mg "sum"=none
 all:mg "all"=none
 zip:mg "zip"=none
 sorted:mg "sorted"=none
 dict:mg "dict"=none
 enumerate:mg "enumerate"=none
 any:mg "any"=none
 max:mg "max"=none
 set:mg "set"=none
theorem AQ{n:Nat}(h:n<=1000):n<=sizeLine:=Nat.le_of_lt (vO h)
theorem ui{n:Nat}(h:n<2^60):n.log2<1920:=by
 by_cases e:n=0
 ·subst e;decide
 ·have:=(Nat.log2_lt e).mpr h;omega
theorem Aq(ns:List Int)(lo hi:Option Int):yb (ns.map V.int) lo hi=((ns.drop (HT.sIx (ns.map V.int).length 0 lo)).take (HT.sIx (ns.map V.int).length (ns.map V.int).length hi-HT.sIx (ns.map V.int).length 0 lo)).map V.int:=by
 unfold yb;rw[List.map_take,List.map_drop]
def zh(K:Q1):Sp:=fun vs H Q _=>∃(a:Addr) (ns:List Int),vs=[.ref a]/\SqL K H a (ns.map V.int)/\ns.length<=63/\∀H',Q (.bl true) H'
theorem tK:bootBuiltins "int"=some (.type "int"):=rfl
theorem yo:bootBuiltins "bool"=some (.type "bool"):=rfl
theorem fV:bootBuiltins "tuple"=some (.type "tuple"):=rfl
theorem mr:bootBuiltins "list"=some (.type "list"):=rfl
theorem mw:bootBuiltins "isinstance"=some (.builtin "isinstance"):=rfl
theorem tL:bootBuiltins "all"=some (.builtin "all"):=rfl
theorem i7:bootBuiltins "sorted"=some (.builtin "sorted"):=rfl
theorem AE{X:Cx}{x:Str}{T:String}{pos:Pos}(hg:Gl X x)(hm:X.mg x=none)(hv:bootBuiltins x=some (.type T))(hn:x≠"__name__":=by decide)(hd:(x == ("__debug__":Str))=false:=by decide):WE X (.Name x pos) (tC (.ty T)):=
 ⟨C6 hg hm hv rfl hn hd⟩
theorem yY{X:Cx}{x:Str}{i:Int}{pos:Pos}(hg:Gl X x)(hm:∃t,X.mg x=some (.int i t))(hd:(x == ("__debug__":Str))=false:=by decide):WE X (.Name x pos) (tC (.int i)):=by
 obtain⟨t,hm⟩:=hm;exact⟨CZ hg hm ⟨t,rfl⟩ hd⟩
theorem yw{α:Type}{xs:List α}{k:Int}{v:α}(h0:0<=k)(h:xs[k.toNat]?=some v):atI xs k=some v:=by
 have ek:k=((k.toNat:Nat):Int):=by omega
 rw[ek];exact mB h
theorem Fun.okW{P:Program}{w:World}{K:Q1}{mg:Str->Option Value}{base:Heap}{x qual:Str}{st:Stmt}{f:Addr}{fd:FuncData}{N ps:List Str}{k:Nat}{sp:Sp}(F:Fun K x qual st f fd)(S:aP N ps (aw st))(len:∀vs H Q E,sp vs H Q E->vs.length=ps.length)
  (hbody:∀(cdv:Value) (A:Around) (outer:List Env) (s:Shared) (H:Hp) (vs:List V) (Q:VK) (E:XK),fX k (A.deeper (envOfC qual (aw st) s.heap.objs.size f cdv))->sp vs H Q E->
   ∃t,WSs (tj CX0 P w K mg base N qual (aw st) f cdv A outer s H E).nox (du st) t/\t { nx:=fun _ H'=>Q .non H',rt:=Q } (start N vs) H):kh P w K mg base CX0 (k+1) f fd ps sp:=
 F.ok S len fun cdv A outer s H vs Q E hr h=>let ⟨t,a,b⟩:=hbody cdv A outer s H vs Q E hr h;⟨t,a.h,b⟩
def qj(env:Env):List (Str×Addr)->Prop
 |[]=>True
 |p::r=>env.cells.lookup p.1=some p.2/\qj env r
theorem qj.look{env:Env}:∀{cl:List (Str×Addr)} {y:Str} {c:Addr},qj env cl->cl.lookup y=some c->env.cells.lookup y=some c
 |[],_,_,_,h=>by simp at h
 |(n,d)::r,y,c,a,h=>by
  obtain⟨a1,a2⟩:=a;rw[List.lookup_cons]at h;by_cases e:(y == n)=true
  ·rw[e]at h;have e':y=n:=by simpa using e
   subst e';cases h;exact a1
  ·have e':(y == n)=false:=by simpa using e
   rw[e']at h;exact qj.look a2 h
abbrev cxC(X:Cx)(Nc:List Str)(scope:Scope)(cl:List (Str×Addr))(s3:Shared)(H3:Hp)(fp:List Addr):Cx where
 prog:=X.prog
 w:=X.w
 K:=X.K
 mg:=X.mg
 base:=X.base
 A:=X.A
 N:=Nc
 s₀:=s3
 H₀:=H3
 env:=compEnvC scope cl s3.heap.objs.size X.env
 outer:=X.stack
 stack:=X.stack
 ex:=fp
 fn:=fun _=>false
 calm:=X.calm
 pn:=[]
 xe:=fun _ _=>False
def stC(n:Nat)(caps:List Nat)(σ:L2.St):L2.St:=Qa n none++caps.map fun i=>(σ[i]?).getD none
def zf(wi:TI)(g:TG)(te:TE)(n:Nat)(caps:List Nat):TE:=fun σ H Q=>wi σ H fun J H1=>∀l,H1 l=none->∃W:Nat->Nat->L2.St->Hp->Prop,(∃m,W 0 m (stC n caps σ) (upd H1 l (.lst [])))/\
 ∀i m σ' H2,W i m σ' H2->(J.stop i H2/\Q (.ref l) H2)\/(J.go i H2/\∃N:L2.St->Hp->Prop,(∀σ'' H',N σ'' H'->∃m',m'<m/\W (i+1) m' σ'' H')/\
  ∀x H3,J.yld i H2 x H3->g x σ' H3 fun σ2 H4=>te σ2 H4 fun v H5=>∃ys,H5 l=some (.lst ys)/\ys.length<sizeLine/\N σ2 (upd H5 l (.lst (ys++[v]))))
theorem pY{prog:Program}{w:World}{A:Around}{R:Result->Shared->Prop}{s:Shared}{elt target iter:Expr}{scope:Scope}{pos:Pos}{it acc:Value}{env:Env}(I:Nat->Shared->Prop)
  (turn:∀n s,I n s->wpAny (model prog w) A (pyNext it) (fun r s₁=>match r with
   |none=>R (.ok .next) s₁
   | some v=>wpAny (model prog w) A (letOwnedTupleGo target it v) (fun _ s₁'=>wpAny (model prog w) A (assign target env v) (fun _ s₂=>wpAny (model prog w) A (eval elt env) (fun x s₃=>
     wpAny (model prog w) A (call (.builtin "list.append") [acc,x]) (fun _ s₄=>∃m,m<n/\I m s₄) (fun _ _=>False) s₃)
     (fun _ _=>False) s₂) (fun _ _=>False) s₁') (fun _ _=>False) s₁) (fun _ _=>False) s)
  (n:Nat) (h:I n s) :
  codeAny (model prog w) A (.compLoop (.ListComp elt [⟨target,iter,[],0⟩] scope pos) 0 it acc env) R s:=by
 refine codeAny_loop rfl I (fun n s hI=>?_) n h;show wpAny _ _ ((compTurn (.ListComp elt [⟨target,iter,[],0⟩] scope pos) 0 it acc env).onRaise (fun x=>do noteFrame x env;theTreesLotGoes x)) _ _ s;refine wpAny_noted ?_;rw[compTurn_list1];refine Q2 (wpAny_standAt (Q2 (Z4 (turn n s hI) (fun r s₁ h₁=>?_) fun _ _ h'=>h'.elim)));cases r with
 |none=>exact Q9 h₁
 |some v=>
  refine Q2 (Z4 h₁ (fun _ s₁' h₁'=>?_) fun _ _ h'=>h'.elim);exact Q2 (Z4 h₁' (fun _ s₂ h₂=>Q2 (Q2 (Z4 h₂ (fun x s₃ h₃=>Q2 (Z4 h₃
   (fun _ s₄ h₄=>Q9 (Q9 ⟨rfl,h₄⟩)) fun _ _ h'=>h'.elim)) fun _ _ h'=>h'.elim))) fun _ _ h'=>h'.elim)
section
variable{X:Cx}{pins:List (Addr×Obj)}{σ:L2.St}{H:Hp}{s:Shared}{Nc capN:List Str}{scope:Scope}{cl:List (Str×Addr)}{fp:List Addr}{n:Nat}{caps:List Nat}
def Cap(X:Cx)(scope:Scope)(cl:List (Str×Addr))(i:Nat)(y:Str):Prop:=X.N[i]?=some y/\X.env.scope.names.lookup y=some .cell/\(relabel scope X.env).names.lookup y=some .cell/\∃c,cl.lookup y=some c
theorem Inv.comp{h1:Heap}{t':Nat}(I:Inv X pins σ H s)(hc:X.calm=true)(f2:∀b∈fp,uY X pins H b)(fo:∀b∈fp,b<s.heap.objs.size)(hkind:scope.kind=.function)(hcl:qj X.env cl)
  (hhas:((relabel scope X.env).names.all fun p=>!(p.2 == .cell||p.2 == .free)||(cl.lookup p.1).isSome)=true)
  (hcap:Paired (Cap X scope cl) caps capN) (tn:List Str) (hN:Nc=tn++capN) (hn:tn.length=n)
  (hns:h1.Ns s.heap.objs.size (fun _=>none)) (hk:∀b o,s.heap.get? b=some o->h1.get? b=some o) :
  Inv (cxC X Nc scope cl s H fp) [] (stC n caps σ) H { s with heap:=h1,toks:=t' }:=by
 have lkc:∀y c,cl.lookup y=some c->X.env.cells.lookup y=some c:=fun y c e=>hcl.look e;refine⟨⟨I.ok.mod,?_,I.ok.glob,I.ok.blt,QX _,fun x y c a b=>I.ok.inj x y c (lkc _ _ a) (lkc _ _ b),fun x hx=>?_,fun x c z=>(nomatch z),I.ok.hd,I.ok.frames,.inl rfl,fun b hb=>⟨QL (fo b hb),fun x c e=>(f2 b hb).2.2.2.2.1 x c (lkc _ _ e)⟩,I.bs,Qd I.ok.bsz I.sz,
  fun b o e hb=>?_,fun b hb z=>?_,I.stack,I.stkFree⟩,rfl,I.bare,Un.kept hk,⟨_,hns,fun i y v h1' h2 h3=>?_⟩,fun y c e=>?_,I.hok.fresh (QX _),fun y c e=>I.freeC y c (lkc _ _ e),fun p hp=>(by simp at hp),I.hok.kept hk,?_⟩
 ·exact hkind
 ·have hx':(relabel scope X.env).names.lookup x=some .cell\/(relabel scope X.env).names.lookup x=some .free:=hx;have mem:∀{k},(relabel scope X.env).names.lookup x=some k->(x,k)∈(relabel scope X.env).names:=fun{k} e=>by
   generalize (relabel scope X.env).names=L at e;induction L with
   |nil=>simp at e
   |cons p r ih=>
    obtain⟨a,b⟩:=p;rw[List.lookup_cons]at e;by_cases q:(x == a)=true
    ·rw[q]at e;cases e;have:x=a:=by simpa using q
     subst this;exact Qx
    ·rw[show(x == a)=false by simpa using q]at e;exact Qq _ (ih e)
  have fin:∀{k},(k=NameKind.cell\/k=.free)->(relabel scope X.env).names.lookup x=some k->∃c,cl.lookup x=some c:=fun{k} hk' e=>by
   have:=List.all_eq_true.mp hhas _ (mem e);dsimp only at this;have q:(cl.lookup x).isSome=true:=by
    rcases hk' with z|z<;>subst z<;>simpa using this
   exact Option.isSome_iff_exists.mp q
  rcases hx' with e|e
  ·exact fin (.inl rfl) e
  ·exact fin (.inr rfl) e
 ·rcases(f2 b hb).2.2.2.1 with z|z
  ·exact I.ok.noex b o e z
  ·exact absurd (Qy (QR e) I.ok.bsz) (Nat.not_lt.mpr z)
 ·rcases QD.mp (I.stkSub b z)with q|q
  ·exact(f2 b hb).2.1 q
  ·exact(f2 b hb).2.2.1 q
 ·obtain⟨m,hm,hl⟩:=I.loc;have h2':(stC n caps σ)[i]?=some (some v):=h2;have h1'':Nc[i]?=some y:=h1';unfold stC at h2';by_cases hi:i<n
  ·rw[QZ (by simpa using hi),ZQ,if_pos hi]at h2';cases h2'
  ·rw[Qv (by simp;omega),List.length_replicate,QC]at h2';rw[hN,Qv (by omega),hn]at h1'';have key:∀(j:Nat) {caps:List Nat} {capN:List Str},Paired (Cap X scope cl) caps capN->capN[j]?=some y->(Option.map (fun i=>(σ[i]?).getD none) caps[j]?)=some (some v)->∃k,Cap X scope cl k y/\σ[k]?=some (some v):=by
    intro j;induction j with
    |zero=>
     intro caps capN P e1 e2;cases P with
     |nil=>simp at e1
     |@cons a b l r p t=>
      simp at e1 e2;subst e1;cases q:σ[a]? with
      |none=>rw[q]at e2;simp at e2
      |some w'=>rw[q]at e2;simp at e2;subst e2;exact⟨a,p,q⟩
    |succ j ih=>
     intro caps capN P e1 e2;cases P with
     |nil=>simp at e1
     |cons p t=>exact ih t (by simpa using e1) (by simpa using e2)
   obtain⟨k,⟨c1,c2,c3,c,c4⟩,e⟩:=key _ hcap h1'' h2';obtain⟨u,r,lk⟩:=hl k y v c1 e (.inr (.inl c2));refine⟨u,r,.inr ⟨.inl c3,c,c4,?_⟩⟩;rcases lk with⟨z,_⟩|⟨_,c',e',o,ho,hd⟩
   ·have z':X.env.scope.names.lookup y=some .local:=z;rw[c2]at z';cases z'
   ·rw[lkc _ _ c4]at e';cases e';exact⟨o,hk _ _ ho,hd⟩
 ·obtain⟨v,o,ho,hd⟩:=I.cell y c (lkc _ _ e);exact⟨v,o,hk _ _ ho,hd⟩
 ·show(stC n caps σ).length=Nc.length;have pl:caps.length=capN.length:=Paired.length hcap;unfold stC;rw[Q7,List.length_replicate,Q6,hN,Q7,hn,pl]
end
theorem tw{X:Cx}{Nc capN tn:List Str}{scope:Scope}{cl:List (Str×Addr)}{n:Nat}{caps:List Nat}{tg iter elt:Expr}{pos:Pos}{wi:TI}{g:TG}{te:TE}
  (hc:X.calm=true) (hi:WI X tg iter wi) (hg:∀s3 H3 fp,WG (cxC X Nc scope cl s3 H3 fp) tg g) (he:∀s3 H3 fp,WE (cxC X Nc scope cl s3 H3 fp) elt te)
  (hclos:closureFor scope X.env=pure cl) (hkind:scope.kind=.function) (hnl:∀x∈scope.names,x.2=.local->scope.names.lookup x.1=some .local) (hcell:∀x∈scope.names,x.2≠.cell)
  (hcl:qj X.env cl) (hhas:((relabel scope X.env).names.all fun p=>!(p.2 == .cell||p.2 == .free)||(cl.lookup p.1).isSome)=true)
  (hcap:Paired (Cap X scope cl) caps capN) (hN:Nc=tn++capN) (hn:tn.length=n)
  {use:Option (Value->Sem Unit)} {pins:List (Addr×Obj)} {σ:L2.St} {H:Hp} {s:Shared} {Q:VK} {Qf:Value->Shared->Prop} (I:Inv X pins σ H s) (h:zf wi g te n caps σ H Q)
  (hend:∀(D C:Addr) (s6:Shared) (H5:Hp) (m:Str->Option Value),Inv X pins σ H5 s6->s6.heap.Ns C m->H5 C=none->C≠X.env.locals->X.s₀.heap.objs.size<=C->(∀x c,X.env.cells.lookup x=some c->c≠C)->(∀p∈X.pn++pins,p.1≠C)->Q (.ref D) H5->compPost (model X.prog X.w) X.A X.xe use Qf (.ref D) C (.ok .next) s6)
  (hs:∀x,foldedSetIterable iter X.env x=pure x) :
  wpAny (model X.prog X.w) X.A (comprehension (.ListComp elt [⟨tg,iter,[],0⟩] scope pos) scope X.env (firstIterPos [⟨tg,iter,[],0⟩] pos) (newList []) (firstAsync [⟨tg,iter,[],0⟩]) (firstIter [⟨tg,iter,[],0⟩] X.env) use) Qf X.xe s:=by
 refine wpAny_comprehension_free (use:=use) (g:=⟨tg,iter,[],0⟩) (gs:=[]) rfl hs hclos hkind hnl (thn (hi.h pins s σ H _ I h) fun v s1 h1=>thn h1 fun itv s2 h2=>?_);obtain⟨it,fp,tnn,J,H2,rfl,I2,T,st2,f2,hW⟩:=h2;have hD:=I2.fresh;obtain⟨W,⟨m0,w0⟩,turn⟩:=hW _ hD;refine wpAny_newObj_type (wpAny_newFunctionEnv hcell (by intro y hy;simp at hy) (fun h₁ hns₁ hsb₁=>?_) hkind);dsimp only at hns₁ hsb₁ ⊢;have I3:Inv X pins σ (upd H2 s2.heap.objs.size (.lst [])) { s2 with heap:=s2.heap.push { cls:=.type "list",dict:=none,data:=.seq ([]:List Value).toArray },toks:=s2.toks }:=I2.lnew (its:=[]) .nil (Z5 _);generalize hs3:({ s2 with heap:=s2.heap.push { cls:=.type "list",dict:=none,data:=.seq ([]:List Value).toArray },toks:=s2.toks }:Shared)=s3 at I3;have es3:s3.heap=s2.heap.push { cls:=.type "list",dict:=none,data:=.seq ([]:List Value).toArray }:=by rw[<-hs3]
 generalize hDD:s2.heap.objs.size=D at *;have kept:∀b o,s3.heap.get? b=some o->h₁.get? b=some o:=fun b o e=>by
  have lt:=QR e;rw[es3]at lt e;exact hsb₁.extBut b o (QL lt) (QQ _ e)
 have old:∀b o,s2.heap.get? b=some o->s3.heap.get? b=some o:=fun b o e=>by rw[es3];exact QQ _ e
 have ltD:∀b∈fp,b<D:=fun b hb=>by
  obtain⟨o,e,_⟩:=T.obj 0 _ st2 b hb;rw[<-hDD];exact QR e
 have fo:∀b∈fp,b<s3.heap.objs.size:=fun b hb=>by
  obtain⟨o,e,_⟩:=T.obj 0 _ st2 b hb;exact QR (old _ _ e)
 have f3:∀b∈fp,uY X pins (upd H2 D (.lst [])) b:=fun b hb=>by
  refine⟨?_,(f2 b hb).2⟩;rw[bj (QL (ltD b hb))];exact(f2 b hb).1
 rw[<-es3]at hns₁ hsb₁ ⊢;have Ic:=fun t'=>Inv.comp (h1:=h₁) (t':=t') (Nc:=Nc) (n:=n) I3 hc f3 fo hkind hcl hhas hcap tn hN hn hns₁ kept;have stat:∀{H':Hp},(∀b∈fp,H' b=none)->∀b∈fp,uY (cxC X Nc scope cl s3 (upd H2 D (.lst [])) fp) [] H' b:=fun hn' b hb=>by
  refine⟨hn' b hb,QL (fo b hb),fun z=>?_,.inl hb,fun x c e=>(f2 b hb).2.2.2.2.1 x c (hcl.look e),fun p hp=>(by simp at hp)⟩;rcases QD.mp (I3.stkSub b z)with q|q
  ·exact(f2 b hb).2.1 q
  ·exact(f2 b hb).2.2.1 q
 have loop:∀s4:Shared,(∃t',s4={ s3 with heap:=h₁,toks:=t' })->codeAny (model X.prog X.w) X.A (.compLoop (.ListComp elt [⟨tg,iter,[],0⟩] scope pos) 0 (.ref it) (.ref D) (compEnvC scope cl s3.heap.objs.size X.env))
   (compPost (model X.prog X.w) X.A X.xe use Qf (.ref D) s3.heap.objs.size) s4:=by
  rintro s4 ⟨t',rfl⟩;refine pY (fun n' s'=>∃i σ' H',Inv (cxC X Nc scope cl s3 (upd H2 D (.lst [])) fp) [] σ' H' s'/\tnn i s'.heap/\(∀b∈fp,H' b=none)/\W i n' σ' H') ?_ m0
   ⟨0,_,_,Ic t',T.keep 0 _ _ st2 fun b hb o e=>kept _ _ (old _ _ e),fun b hb=>(f3 b hb).1,w0⟩
  rintro n' s5 ⟨i,σ5,H5,I5,st5,fr5,w5⟩;rcases turn i n' σ5 H5 w5 with⟨stop,qn⟩|⟨go,N,hN',step⟩
  ·refine thn (T.done (cxC X Nc scope cl s3 (upd H2 D (.lst [])) fp) rfl rfl rfl hc i [] s5 σ5 H5 (fun _ _=>False) I5 (stat fr5) st5 stop) fun r s6 ⟨hr,I6⟩=>?_;subst hr;obtain⟨m,hm,_⟩:=I6.loc;have I7:Inv X pins σ H5 s6:=Inv.call' (ch:=fp) I3 I6.os I6.base I6.hok I6.bare fun b hb=>⟨(f2 b hb).2.2.2.1,(f2 b hb).2.1,(f2 b hb).2.2.2.2.1,(f2 b hb).2.2.2.2.2⟩;exact hend D _ s6 H5 m I7 hm I6.free (Ne.symm (QL I3.lt)) I3.sz (fun x c e=>by
     obtain⟨v',o,ho,_⟩:=I3.cell x c e;exact QL (QR ho)) (fun p hp=>QL (QR (I3.pin p hp).1)) qn
  ·refine thn (T.item (cxC X Nc scope cl s3 (upd H2 D (.lst [])) fp) rfl rfl rfl hc i [] s5 σ5 H5 (fun _ _=>False) I5 (stat fr5) st5 go) fun r s6 ⟨u,hr,h6⟩=>?_;subst hr;refine thn h6 fun _ s7 hz=>?_;obtain⟨x,H7,I7,r7,y7,st7,fr7⟩:=hz;have I7':=I7.pinned (stat fr7) (T.obj _ _ st7);refine thn ((hg s3 (upd H2 D (.lst [])) fp).h _ s7 σ5 H7 x u _ I7' r7 (step x H7 y7)) fun _ s8 hz=>?_;obtain⟨σ8,H8,I8,q8⟩:=hz;refine thn ((he s3 (upd H2 D (.lst [])) fp).h _ s8 σ8 H8 _ I8 q8) fun v9 s9 hz=>?_;obtain⟨x9,H9,I9,r9,ys,hy,hlt,q9⟩:=hz;refine thn (lJ (X:=cxC X Nc scope cl s3 (upd H2 D (.lst [])) fp) _ s9 σ8 H9 (.ref D) [x9] (.ref D) [v9] (fun _ H'=>N σ8 H') I9 rfl (.cons r9 .nil) ⟨D,ys,x9,rfl,rfl,hy,hlt,q9⟩) fun _ s10 hz=>?_;obtain⟨_,H10,I10,_,q10⟩:=hz;obtain⟨m',hm,w10⟩:=hN' σ8 H10 q10;refine⟨m',hm,i+1,σ8,H10,I10.unpinned,T.keep _ _ _ st7 fun b hb o e=>(I10.pin (b,o) (Qz _ (Qz _ (eD hb e)))).1,fun b hb=>?_,w10⟩;obtain⟨o,e,d⟩:=T.obj _ _ st7 b hb;exact(I10.pin (b,o) (Qz _ (Qz _ (eD hb e)))).2.1
 have e4:∀t',({ s2 with heap:=h₁,toks:=t' }:Shared)={ s3 with heap:=h₁,toks:=t' }:=fun t'=>by rw[<-hs3]
 refine codeAny_compStart_list (loop _ ⟨_,e4 _⟩) (T.self _ 0 _ _ _ (T.keep 0 _ _ st2 fun b hb o e=>kept _ _ (old _ _ e)) (loop _ ⟨_,e4 _⟩))
theorem y0{X:Cx}{Nc capN tn:List Str}{scope:Scope}{cl:List (Str×Addr)}{n:Nat}{caps:List Nat}{tg iter elt:Expr}{pos:Pos}{wi:TI}{g:TG}{te:TE}
  (hc:X.calm=true) (hi:WI X tg iter wi) (hg:∀s3 H3 fp,WG (cxC X Nc scope cl s3 H3 fp) tg g) (he:∀s3 H3 fp,WE (cxC X Nc scope cl s3 H3 fp) elt te)
  (hclos:closureFor scope X.env=pure cl) (hkind:scope.kind=.function) (hnl:∀x∈scope.names,x.2=.local->scope.names.lookup x.1=some .local) (hcell:∀x∈scope.names,x.2≠.cell)
  (hcl:qj X.env cl) (hhas:((relabel scope X.env).names.all fun p=>!(p.2 == .cell||p.2 == .free)||(cl.lookup p.1).isSome)=true)
  (hcap:Paired (Cap X scope cl) caps capN) (hN:Nc=tn++capN) (hn:tn.length=n)
  (hs:∀x,foldedSetIterable iter X.env x=pure x:=by intro _;rfl) :
  WE X (.ListComp elt [⟨tg,iter,[],0⟩] scope pos) (zf wi g te n caps):=by
 constructor;intro pins s σ H Q I h;rw[eval_ListComp];refine tw hc hi hg he hclos hkind hnl hcell hcl hhas hcap hN hn I h (fun D C s6 H5 m I7 hm fr nl sz cn pn qn=>⟨m,hm,fun h' hs'=>?_⟩) hs;exact⟨.ref D,H5,I7.turned (t':=s6.toks) (it:=C) (fun b o hb e=>hs'.extBut b o hb e) fr nl (.inr sz) cn pn,rfl,qn⟩
section
variable{X:Cx}
theorem vz:∀{bs:List Bool} {us:List Value} {i:Nat} {v:Value},bP (bs.map V.bl) us->us[i]?=some v->∃b,bs[i]?=some b/\v=.bool b
 |[],_,_,_,r,e=>by cases r;simp at e
 |b::bs,_,0,_,.cons r _,e=>by
  have r':_=Value.bool b:=r;simp at e;subst e;exact⟨b,by simp,r'⟩
 |b::bs,_,i+1,v,.cons _ t,e=>by
  obtain⟨b',e1,e2⟩:=vz (i:=i) (v:=v) t (by simpa using e);exact⟨b',by simpa using e1,e2⟩
theorem Au(bs:List Bool):(Qr bs.length).all (fun i=>(bs[i]?).getD true)=bs.all id:=by
 rw[Bool.eq_iff_iff,List.all_eq_true,List.all_eq_true];constructor
 ·intro h b hb;obtain⟨i,hi,e⟩:=List.mem_iff_getElem.mp hb;have:=h i (List.mem_range.mpr hi);rw[Q4 hi,Z8,e]at this;exact this
 ·intro h i hi;have hi':=List.mem_range.mp hi;have:=h _ (List.getElem_mem hi');rw[Q4 hi',Z8];exact this
theorem Dp{h:Heap}{b:Addr}{o:Obj}(e:h.get? b=some o):¬b∈[h.objs.size]:=fun z=>by
 have z':b=h.objs.size:=by simpa using z
 exact absurd (QR e) (by rw[z'];exact Nat.lt_irrefl _)
theorem tH(hc:X.calm=true):eZ X (.builtin "all") (fun xs H Q=>∃(p:Addr) (bs:List Bool),xs=[.ref p]/\SqL X.K H p (bs.map V.bl)/\Q (.bl (bs.all id)) H):=by
 intro pins s σ H xs us Q I r h;obtain⟨p,bs,rfl,hq,q⟩:=h;obtain⟨u,rfl,rx⟩:=ki r;cases rx;obtain⟨its,rv,pl,hz⟩:=I.list hq;have ed:=rv.length;rw[Q6]at ed;refine call_all_walk (wpAny_pyIter_list pl.isList ?_);have lt:p<s.heap.objs.size:=by obtain⟨o,e,_⟩:=pl.isList;exact QR e
 refine⟨s.heap.objs.size,_,_,_,_,_,fun i=>(bs[i]?).getD true,rfl,Walks.list (show X.A.in1.handled=none from I.ok.hd hc) s.heap.objs.size p (QL lt) its.toArray,⟨⟨_,QY _ rfl,rfl,rfl⟩,pl.isList.at fun o e=>QQ _ e⟩,?_,fun h' tk hk=>?_⟩
 ·intro i v s' Q' E' hP hQ;have hP':its.toArray[i]?=some v:=hP;obtain⟨b,e1,e2⟩:=vz rv (by simpa using hP');subst e2;dsimp only at hQ;rw[e1,Z8]at hQ;exact wpAny_truthy_bool hQ
 ·have e:(Qr its.toArray.size).all (fun i=>(bs[i]?).getD true)=bs.all id:=by
   rw[QH,<-ed];exact Au bs
  rw[e];exact⟨.bl (bs.all id),H,I.kept fun b o e=>hk b o (Dp e) (QQ _ e),rfl,q⟩
end
open PySem.AutoSeq1 (wpAny_loadPart')
theorem Ar{prog:Program}{w:World}{A:Around}{E:Value->Shared->Prop}{s:Shared}{t b:Addr}{vs ws:List Value}{Q:Value->Shared->Prop}(ht:IsTup s.heap t vs.toArray)(hb:IsTup s.heap b ws.toArray)(hv:vs=[])
  (h1:Q (.ref b) s):wpAny (model prog w) A (binaryOp .Add (.ref t) (.ref b)) Q E s:=by
 obtain⟨⟨cls,dd,data,sl⟩,ho,hc,n,hd⟩:=id ht;obtain⟨⟨cls2,dd2,data2,sl2⟩,ho2,hc2,n2,hd2⟩:=id hb;simp only at hc hd hc2 hd2;subst hc hd hc2 hd2;exact concat_meets ⟨_,ho,rfl⟩ ⟨_,ho2,rfl⟩ noFill_tuple_add seq_tuple_add PySem.F.slot_tuple_add PySem.F.entry_tuple_add (PySem.F.args_tuple_add_2 _ _)
   (tuple_addW0 t b vs.toArray ws.toArray n n2 dd dd2 sl sl2 (by simp[hv])) ⟨ho,ho2,h1⟩
structure LP(H:Hp)(p xs:Addr):Prop where
 ex:∃(ns:List Int) (at' cur:Int),H p=some (.lst [.ref xs,.int at',.int cur])/\H xs=some (.lst (ns.map V.int))/\xs≠p/\0<=at'/\0<=cur
def AO(K:Q1):Sp:=fun vs H Q _=>∃(a:Addr) (ns:List Int),vs=[.ref a]/\SqL K H a (ns.map V.int)/\∀(q xs:Addr) (H':Hp),rl H H'->LP H' q xs->H q=none->Q (.ref q) H'
theorem wX{m:Int}(h0:0<=m)(h:m<2^60):m.natAbs.log2<9000:=by
 have:=ui (n:=m.natAbs) (by omega);omega
end OG
namespace OP
open PySem PySem.Spec PyProof.Rows L2 OG
inductive U where
 |non|bl (b:Bool)|int (i:Int)|str (x:Str)|tup (us:List U)|ref (l:Nat)|kl (ns:List Int)
structure Cl where
 C:Addr
 ns:List Str
inductive O where
 |lst (us:List U)|dic (kvs:List (Key×U))|ins (c:Cl) (fs:List (Option U))|fdc (ep:Nat) (kvs:List (Key×U))|dit (kvs:List (List Key×U))|fdt (ep:Nat) (kvs:List (List Key×U))|dnt (kvs:List (List (List Int)×U))|fdn (ep:Nat) (kvs:List (List (List Int)×U))
abbrev Sto:=List O
abbrev Rho:=List (Option U)
def KL(K:Q1)(H:Hp)(a:Addr)(ns:List Int):Prop:=
 (∃o,H a=some (.frz o (.lst (ns.map V.int))))\/
  ∃(o:Obj) (its:Array Value) (n:Nat),K.lookup a=some o/\o.cls=.type "list"/\o.dict=none/\o.data=.seq its n/\its.size<=sizeLine/\bP (ns.map V.int) its.toList
theorem KL.sq{K:Q1}{H:Hp}{a:Addr}{ns:List Int}(h:KL K H a ns):SqL K H a (ns.map V.int):=by
 rcases h with h|h
 ·exact .inl (.inr h)
 ·exact .inr h
mutual
def Is(K:Q1)(m:List Addr)(H:Hp):V->U->Prop
 |v,.non=>v=.non
 |v,.bl b=>v=.bl b
 |v,.int i=>v=.int i
 |v,.str x=>v=.str x
 |v,.tup us=>∃a xs,v=.ref a/\SqT K H a xs/\IsL K m H xs us
 |v,.ref l=>∃a,m[l]?=some a/\v=.ref a
 |v,.kl ns=>∃a,v=.ref a/\KL K H a ns
def IsL(K:Q1)(m:List Addr)(H:Hp):List V->List U->Prop
 |xs,[]=>xs=[]
 |xs,u::us=>∃x r,xs=x::r/\Is K m H x u/\IsL K m H r us
end
structure yN(K:Q1)(H H':Hp):Prop where
 t:∀a xs,SqT K H a xs->SqT K H' a xs
 l:∀a ns,KL K H a ns->KL K H' a ns
structure Ext(K:Q1)(m:List Addr)(H:Hp)(m':List Addr)(H':Hp):Prop where
 pre:∃t,m'=m++t
 keep:yN K H H'
section
variable{K:Q1}{m m' m'':List Addr}{H H' H'':Hp}{v x:V}{u:U}{xs ys:List V}{us ws:List U}{a q:Addr}{o:HO}
theorem Ext.refl:Ext K m H m H:=⟨⟨[],by simp⟩,fun _ _ h=>h,fun _ _ h=>h⟩
theorem Ext.trans(a:Ext K m H m' H')(b:Ext K m' H' m'' H''):Ext K m H m'' H'':=by
 obtain⟨t,rfl⟩:=a.pre;obtain⟨t',rfl⟩:=b.pre;exact⟨⟨t++t',by simp⟩,fun c ys h=>b.keep.t c ys (a.keep.t c ys h),fun c ys h=>b.keep.l c ys (a.keep.l c ys h)⟩
theorem Ext.of(k:yN K H H'):Ext K m H m H':=⟨⟨[],by simp⟩,k⟩
theorem Ext.new(k:yN K H H'):Ext K m H (m++[q]) H':=⟨⟨[q],rfl⟩,k⟩
theorem Ext.get{l:Nat}(e:Ext K m H m' H')(h:m[l]?=some a):m'[l]?=some a:=by
 obtain⟨t,rfl⟩:=e.pre;rw[QZ (Q5.mp h).1];exact h
mutual
theorem Is.mono(e:Ext K m H m' H'):∀{v:V} {u:U},Is K m H v u->Is K m' H' v u
 |v,.non,h=>by unfold Is at h ⊢;exact h
 |v,.bl b,h=>by unfold Is at h ⊢;exact h
 |v,.int i,h=>by unfold Is at h ⊢;exact h
 |v,.str x,h=>by unfold Is at h ⊢;exact h
 |v,.tup us,h=>by
  unfold Is at h ⊢;obtain⟨a,xs,e1,k,l⟩:=h;exact⟨a,xs,e1,e.keep.t _ _ k,IsL.mono e l⟩
 |v,.ref l,h=>by
  unfold Is at h ⊢;obtain⟨a,k,e1⟩:=h;exact⟨a,e.get k,e1⟩
 |v,.kl ns,h=>by
  unfold Is at h ⊢;obtain⟨a,e1,k⟩:=h;exact⟨a,e1,e.keep.l _ _ k⟩
theorem IsL.mono(e:Ext K m H m' H'):∀{xs:List V} {us:List U},IsL K m H xs us->IsL K m' H' xs us
 |xs,[],h=>by unfold IsL at h ⊢;exact h
 |xs,u::us,h=>by
  unfold IsL at h ⊢;obtain⟨x,r,e1,k,l⟩:=h;exact⟨x,r,e1,Is.mono e k,IsL.mono e l⟩
end
theorem Is.int_{i:Int}:Is K m H (.int i) (.int i):=by unfold Is;rfl
theorem Is.bl_{b:Bool}:Is K m H (.bl b) (.bl b):=by unfold Is;rfl
theorem Is.non_:Is K m H .non .non:=by unfold Is;rfl
theorem Is.str_{x:Str}:Is K m H (.str x) (.str x):=by unfold Is;rfl
theorem Is.of_int{i:Int}(h:Is K m H v (.int i)):v=.int i:=by unfold Is at h;exact h
theorem Is.of_bl{b:Bool}(h:Is K m H v (.bl b)):v=.bl b:=by unfold Is at h;exact h
theorem Is.of_non(h:Is K m H v .non):v=.non:=by unfold Is at h;exact h
theorem Is.of_str{x:Str}(h:Is K m H v (.str x)):v=.str x:=by unfold Is at h;exact h
theorem Is.of_tup(h:Is K m H v (.tup us)):∃a xs,v=.ref a/\SqT K H a xs/\IsL K m H xs us:=by unfold Is at h;exact h
theorem Is.of_ref{l:Nat}(h:Is K m H v (.ref l)):∃a,m[l]?=some a/\v=.ref a:=by unfold Is at h;exact h
theorem Is.of_kl{ns:List Int}(h:Is K m H v (.kl ns)):∃a,v=.ref a/\KL K H a ns:=by unfold Is at h;exact h
theorem Is.tup_(e:SqT K H a xs)(h:IsL K m H xs us):Is K m H (.ref a) (.tup us):=by unfold Is;exact⟨a,xs,rfl,e,h⟩
theorem Is.ref_{l:Nat}(e:m[l]?=some a):Is K m H (.ref a) (.ref l):=by unfold Is;exact⟨a,e,rfl⟩
theorem IsL.nil_:IsL K m H [] []:=by unfold IsL;rfl
theorem IsL.cons_(h:Is K m H x u)(t:IsL K m H xs us):IsL K m H (x::xs) (u::us):=by unfold IsL;exact⟨x,xs,rfl,h,t⟩
theorem IsL.of_nil(h:IsL K m H xs []):xs=[]:=by unfold IsL at h;exact h
theorem IsL.of_cons(h:IsL K m H xs (u::us)):∃x r,xs=x::r/\Is K m H x u/\IsL K m H r us:=by unfold IsL at h;exact h
theorem IsL.length:∀{xs:List V} {us:List U},IsL K m H xs us->xs.length=us.length
 |xs,[],h=>by rw[h.of_nil];rfl
 |xs,d::ds,h=>by
  obtain⟨x,r,rfl,_,t⟩:=h.of_cons;rw[QU,QU,IsL.length t]
theorem IsL.getD:∀{xs:List V} {us:List U} {i:Nat} {u:U},IsL K m H xs us->us[i]?=some u->∃x,xs[i]?=some x/\Is K m H x u
 |xs,[],i,x,h,e=>by simp at e
 |xs,d::ds,0,x,h,e=>by
  obtain⟨y,r,rfl,k,t⟩:=h.of_cons;simp at e;subst e;exact⟨y,by simp,k⟩
 |xs,d::ds,i+1,x,h,e=>by
  obtain⟨y,r,rfl,k,t⟩:=h.of_cons;obtain⟨d',e1,e2⟩:=IsL.getD (i:=i) (u:=x) t (by simpa using e);exact⟨d',by simpa using e1,e2⟩
theorem IsL.append:∀{xs:List V} {us:List U},IsL K m H xs us->IsL K m H ys ws->IsL K m H (xs++ys) (us++ws)
 |xs,[],h,k=>by rw[h.of_nil];exact k
 |xs,d::ds,h,k=>by
  obtain⟨y,r,rfl,z,t⟩:=h.of_cons;exact .cons_ z (IsL.append t k)
theorem IsL.set:∀{xs:List V} {us:List U} {j:Nat},IsL K m H xs us->Is K m H x u->IsL K m H (xs.set j x) (us.set j u)
 |xs,[],j,h,k=>by rw[h.of_nil];exact .nil_
 |xs,d::ds,0,h,k=>by
  obtain⟨y,r,rfl,z,t⟩:=h.of_cons;exact .cons_ k t
 |xs,d::ds,j+1,h,k=>by
  obtain⟨y,r,rfl,z,t⟩:=h.of_cons;exact .cons_ z (IsL.set t k)
theorem IsL.drop:∀{xs:List V} {us:List U} (n:Nat),IsL K m H xs us->IsL K m H (xs.drop n) (us.drop n)
 |xs,us,0,h=>h
 |xs,[],n+1,h=>by rw[h.of_nil];exact .nil_
 |xs,d::ds,n+1,h=>by
  obtain⟨y,r,rfl,z,t⟩:=h.of_cons;exact IsL.drop n t
theorem IsL.take:∀{xs:List V} {us:List U} (n:Nat),IsL K m H xs us->IsL K m H (xs.take n) (us.take n)
 |xs,us,0,h=>.nil_
 |xs,[],n+1,h=>by rw[h.of_nil];exact .nil_
 |xs,d::ds,n+1,h=>by
  obtain⟨y,r,rfl,z,t⟩:=h.of_cons;exact .cons_ z (IsL.take n t)
theorem IsL.erase:∀{xs:List V} {us:List U} (n:Nat),IsL K m H xs us->IsL K m H (xs.eraseIdx n) (us.eraseIdx n)
 |xs,[],n,h=>by rw[h.of_nil];exact .nil_
 |xs,d::ds,0,h=>by
  obtain⟨y,r,rfl,z,t⟩:=h.of_cons;exact t
 |xs,d::ds,n+1,h=>by
  obtain⟨y,r,rfl,z,t⟩:=h.of_cons;exact .cons_ z (IsL.erase n t)
theorem sL(h:H a=some o)(nt:∀xs,o≠.tup xs)(nf:∀ob xs,o≠.frz ob (.tup xs))(nl:∀ob xs,o≠.frz ob (.lst xs))(o':HO):yN K H (upd H a o'):=by
 refine⟨fun b xs q=>?_,fun b ns q=>?_⟩
 ·rcases q with(q|⟨ob,q⟩)|q
  ·have n:b≠a:=fun z=>by subst z;rw[q]at h;cases h;exact nt _ rfl
   exact .inl (.inl (by rw[bj n];exact q))
  ·have n:b≠a:=fun z=>by subst z;rw[q]at h;cases h;exact nf _ _ rfl
   exact .inl (.inr ⟨ob,by rw[bj n];exact q⟩)
  ·exact .inr q
 ·rcases q with⟨ob,q⟩|q
  ·have n:b≠a:=fun z=>by subst z;rw[q]at h;cases h;exact nl _ _ rfl
   exact .inl ⟨ob,by rw[bj n];exact q⟩
  ·exact .inr q
theorem fN(s:rl H H'):yN K H H':=by
 refine⟨fun b xs q=>?_,fun b ns q=>?_⟩
 ·rcases q with(q|⟨ob,q⟩)|q
  ·exact .inl (.inl (s _ _ q))
  ·exact .inl (.inr ⟨ob,s _ _ q⟩)
  ·exact .inr q
 ·rcases q with⟨ob,q⟩|q
  ·exact .inl ⟨ob,s _ _ q⟩
  ·exact .inr q
theorem bI(h:H q=none)(o':HO):yN K H (upd H q o'):=fN (cV h o')
end
abbrev NK:=List (List Int)
def hNK(ks:NK):Int:=reduceHash (Builtin.Tuple.tupleHashOf (ks.map fun k=>reduceHash (Builtin.Tuple.tupleHashOf (k.map hashInt))))
abbrev KN:List ((NK×Addr)×V)->List (NK×Addr×Value)->Prop:=Paired fun p q=>p.1.1=q.1/\p.1.2=q.2.1/\bV p.2 q.2.2
def dNo(a:Addr)(kvs:List ((NK×Addr)×V)):HO:=.ext fun h=>kvs.length<=sizeLine/\(a == sysModules)=false/\∃xs,KN kvs xs/\
 ∃o es ep,h.get? a=some o/\o.ExactDict/\o.data=.dict es ep/\es.toList=(xs.map fun x=>(⟨hNK x.1,.ref x.2.1,x.2.2⟩:DictEntry))/\(xs.map (·.1)).Nodup
def kM(K:Q1)(H:Hp)(b:Addr)(k:NK):Prop:=∃cs:List Addr,SqT K H b (cs.map V.ref)/\Paired (fun(l:List Int) c=>SqT K H c (l.map V.int)) k cs
theorem kM.mono{K:Q1}{H H':Hp}{b:Addr}{k:NK}(e:yN K H H')(h:kM K H b k):kM K H' b k:=let ⟨cs,p,q⟩:=h;⟨cs,e.t _ _ p,Paired.mapP q fun _ _ z=>e.t _ _ z⟩
def nP(kvs:List ((NK×Addr)×V)):List (NK×V):=kvs.map fun p=>(p.1.1,p.2)
def IsP{κ:Type}(K:Q1)(m:List Addr)(H:Hp)(kvs:List (κ×V))(kus:List (κ×U)):Prop:=kvs.map (·.1)=kus.map (·.1)/\IsL K m H (kvs.map (·.2)) (kus.map (·.2))
def Rf(K:Q1)(m:List Addr)(H:Hp):Option V->Option U->Prop
 |some v,some u=>Is K m H v u
 |none,none=>True
 |_,_=>False
structure InF(K:Q1)(m:List Addr)(H:Hp)(c:Cl)(fs:List (Str×V))(fus:List (Option U)):Prop where
 nd:c.ns.Nodup
 few:c.ns.length<1000
 knd:(fs.map (·.1)).Nodup
 sub:∀x∈fs.map (·.1),x∈c.ns
 len:fus.length=c.ns.length
 at_:∀(i:Nat) (x:Str),c.ns[i]?=some x->Rf K m H (fs.lookup x) ((fus[i]?).join)
theorem Rf.mono{K:Q1}{m m':List Addr}{H H':Hp}{v:Option V}{u:Option U}(e:Ext K m H m' H')(h:Rf K m H v u):Rf K m' H' v u:=by
 cases v with
 |none=>cases u with
  |none=>trivial
  |some u=>exact h.elim
 |some v=>cases u with
  |none=>exact h.elim
  |some u=>exact Is.mono e h
theorem InF.mono{K:Q1}{m m':List Addr}{H H':Hp}{c:Cl}{fs:List (Str×V)}{fus:List (Option U)}(e:Ext K m H m' H')(h:InF K m H c fs fus):InF K m' H' c fs fus:=⟨h.nd,h.few,h.knd,h.sub,h.len,fun i x q=>(h.at_ i x q).mono e⟩
def Ob(K:Q1)(m:List Addr)(H:Hp)(a:Addr):O->Prop
 |.lst us=>∃xs,H a=some (.lst xs)/\IsL K m H xs us
 |.dic kus=>∃kvs,H a=some (.dK kvs)/\IsP K m H kvs kus
 |.ins c fus=>∃dx fs,H a=some (.ins c.C dx fs)/\InF K m H c fs fus
 |.fdc ep kus=>∃ob es kvs,H a=some (.frz ob (.dK kvs))/\ob.data=.dict es ep/\IsP K m H kvs kus
 |.dit kus=>∃kvs,H a=some (.dT kvs)/\IsP K m H kvs kus
 |.fdt ep kus=>∃ob es kvs,H a=some (.frz ob (.dT kvs))/\ob.data=.dict es ep/\IsP K m H kvs kus
 |.dnt kus=>∃kvs,H a=some (dNo a kvs)/\(∀p∈kvs,kM K H p.1.2 p.1.1)/\IsP K m H (nP kvs) kus
 |.fdn ep kus=>∃ob es kvs,H a=some (.frz ob (dNo a kvs))/\ob.data=.dict es ep/\(∀p∈kvs,kM K H p.1.2 p.1.1)/\IsP K m H (nP kvs) kus
structure Sr(K:Q1)(m:List Addr)(S:Sto)(H:Hp):Prop where
 len:m.length=S.length
 nd:m.Nodup
 ob:∀(l:Nat) (a:Addr) (o:O),m[l]?=some a->S[l]?=some o->Ob K m H a o
structure Lr(K:Q1)(m:List Addr)(H:Hp)(ρ:Rho)(σ:L2.St):Prop where
 len:ρ.length=σ.length
 at_:∀(i:Nat) (u:U),ρ[i]?=some (some u)->∃v,σ[i]?=some (some v)/\Is K m H v u
section
variable{κ:Type}{K:Q1}{m m':List Addr}{H H':Hp}{S:Sto}{ρ:Rho}{σ:L2.St}{a q:Addr}{l:Nat}{o:O}{ho:HO}{us:List U}{v:V}{u:U}{kvs:List (κ×V)}{kus:List (κ×U)}
theorem IsP.mono(e:Ext K m H m' H')(h:IsP K m H kvs kus):IsP K m' H' kvs kus:=⟨h.1,h.2.mono e⟩
theorem IsP.length(h:IsP K m H kvs kus):kvs.length=kus.length:=by have:=h.2.length;simpa using this
theorem IsP.nil_:IsP (κ:=κ) K m H [] []:=⟨rfl,.nil_⟩
theorem IsP.cons_{k:κ}(h:Is K m H v u)(t:IsP K m H kvs kus):IsP K m H ((k,v)::kvs) ((k,u)::kus):=⟨by simp[t.1],.cons_ h t.2⟩
theorem IsP.ind{P:List (κ×V)->List (κ×U)->Prop}(h0:P [] [])(h1:∀k v u kvs kus,Is K m H v u->IsP K m H kvs kus->P kvs kus->P ((k,v)::kvs) ((k,u)::kus)):∀{kvs:List (κ×V)} {kus:List (κ×U)},IsP K m H kvs kus->P kvs kus
 |[],[],_=>h0
 |[],p::r,h=>by have:=h.length;simp at this
 |p::r,[],h=>by have:=h.length;simp at this
 |(k,v)::r,(k',u)::r',h=>by
  obtain⟨e,i⟩:=h;simp only[QJ,List.cons.injEq]at e;obtain⟨e1,e2⟩:=e;subst e1;obtain⟨x,t,e3,iu,it⟩:=i.of_cons;cases e3;exact h1 k v u r r' iu ⟨e2,it⟩ (IsP.ind h0 h1 (⟨e2,it⟩:IsP K m H r r'))
theorem Ob.mono(e:Ext K m H m' H')(h1:H' a=H a)(h:Ob K m H a o):Ob K m' H' a o:=by
 cases o with
 |lst us=>obtain⟨xs,k,i⟩:=h;exact⟨xs,h1.trans k,i.mono e⟩
 |dic kus=>obtain⟨xs,k,i⟩:=h;exact⟨xs,h1.trans k,i.mono e⟩
 |ins C fus=>obtain⟨dx,fs,k,i⟩:=h;exact⟨dx,fs,h1.trans k,i.mono e⟩
 |fdc ep kus=>obtain⟨ob,es,kvs,k,d,i⟩:=h;exact⟨ob,es,kvs,h1.trans k,d,i.mono e⟩
 |dit kus=>obtain⟨xs,k,i⟩:=h;exact⟨xs,h1.trans k,i.mono e⟩
 |fdt ep kus=>obtain⟨ob,es,kvs,k,d,i⟩:=h;exact⟨ob,es,kvs,h1.trans k,d,i.mono e⟩
 |dnt kus=>obtain⟨kvs,k,y,i⟩:=h;exact⟨kvs,h1.trans k,fun p hp=>(y p hp).mono e.keep,i.mono e⟩
 |fdn ep kus=>obtain⟨ob,es,kvs,k,d,y,i⟩:=h;exact⟨ob,es,kvs,h1.trans k,d,fun p hp=>(y p hp).mono e.keep,i.mono e⟩
theorem Ob.some(h:Ob K m H a o):∃ho,H a=some ho/\(∀xs,ho≠.tup xs)/\(∀ob xs,ho≠.frz ob (.tup xs))/\(∀ob xs,ho≠.frz ob (.lst xs)):=by
 cases o with
 |lst us=>obtain⟨xs,k,i⟩:=h;exact⟨_,k,by simp,by simp,by simp⟩
 |dic kus=>obtain⟨xs,k,i⟩:=h;exact⟨_,k,by simp,by simp,by simp⟩
 |ins C fus=>obtain⟨dx,fs,k,i⟩:=h;exact⟨_,k,by simp,by simp,by simp⟩
 |fdc ep kus=>obtain⟨ob,es,kvs,k,d,i⟩:=h;exact⟨_,k,by simp,by simp,by simp⟩
 |dit kus=>obtain⟨xs,k,i⟩:=h;exact⟨_,k,by simp,by simp,by simp⟩
 |fdt ep kus=>obtain⟨ob,es,kvs,k,d,i⟩:=h;exact⟨_,k,by simp,by simp,by simp⟩
 |dnt kus=>obtain⟨kvs,k,y,i⟩:=h;exact⟨_,k,by simp[dNo],by simp[dNo],by simp[dNo]⟩
 |fdn ep kus=>obtain⟨ob,es,kvs,k,d,y,i⟩:=h;exact⟨_,k,by simp,by simp[dNo],by simp[dNo]⟩
theorem Lr.mono(e:Ext K m H m' H')(h:Lr K m H ρ σ):Lr K m' H' ρ σ:=⟨h.len,fun i u e1=>let ⟨v,e2,e3⟩:=h.at_ i u e1;⟨v,e2,e3.mono e⟩⟩
theorem Lr.set(h:Lr K m H ρ σ)(i:Nat)(hv:Is K m H v u):Lr K m H (ρ.set i (some u)) (σ.set i (some v)):=by
 refine⟨by simp[h.len],fun j w e=>?_⟩;by_cases c:i=j
 ·subst c;rw[List.getElem?_set_self' ]at e;rw[List.getElem?_set_self'];have hl:=h.len;cases e1:ρ[i]? with
  |none=>rw[e1]at e;simp at e
  |some z=>
   rw[e1]at e;simp at e;subst e;have:i < σ.length:=by rw[<-hl];exact(Q5.mp e1).1
   rw[Q4 this];exact⟨v,rfl,hv⟩
 ·rw[Qu c]at e;rw[Qu c];exact h.at_ j w e
theorem Sr.get(r:Sr K m S H)(h:S[l]?=some o):∃a,m[l]?=some a/\Ob K m H a o:=by
 have hl:l<m.length:=by rw[r.len];exact(Q5.mp h).1
 exact⟨_,Q4 hl,r.ob _ _ _ (Q4 hl) h⟩
theorem Sr.at_(r:Sr K m S H)(h:m[l]?=some a):∃o,S[l]?=some o/\Ob K m H a o:=by
 have hl:l<S.length:=by rw[<-r.len];exact(Q5.mp h).1
 exact⟨_,Q4 hl,r.ob _ _ _ h (Q4 hl)⟩
theorem Sr.same(r:Sr K m S H)(s:rl H H'):Sr K m S H':=⟨r.len,r.nd,fun l a o h1 h2=>by
 have q:=r.ob l a o h1 h2;obtain⟨ho,e,_⟩:=q.some;exact q.mono (.of (fN s)) (by rw[s _ _ e,e])⟩
theorem Sr.new(r:Sr K m S H)(h:H q=none)(n:Ob K (m++[q]) (upd H q ho) q o):Sr K (m++[q]) (S++[o]) (upd H q ho):=by
 have hq:q∉m:=fun z=>by
  obtain⟨l,e⟩:=List.getElem?_of_mem z;obtain⟨o,_,k⟩:=r.at_ e;obtain⟨ho,e2,_⟩:=k.some;rw[h]at e2;cases e2
 refine⟨by simp[r.len],?_,fun l a o' h1 h2=>?_⟩
 ·rw[Qo];exact⟨r.nd,by simp,fun x hx y hy z=>by simp at hy;subst hy;subst z;exact hq hx⟩
 ·by_cases c:l<m.length
  ·rw[QZ c]at h1;rw[QZ (by rw[<-r.len];exact c)]at h2;have q':=r.ob l a o' h1 h2;obtain⟨ho',e,_⟩:=q'.some;exact q'.mono (.new (bI h _)) (by rw[bj (cf e h)])
  ·have e:l=m.length:=by
    have:=(Q5.mp h1).1;simp at this;omega
   subst e;rw[Qv (QX _)]at h1;rw[Qv (by rw[r.len];exact QX _)]at h2;simp[r.len]at h1 h2;subst h1;subst h2;exact n
theorem Sr.put(r:Sr K m S H)(h:m[l]?=some a)(n:Ob K m (upd H a ho) a o):Sr K m (S.set l o) (upd H a ho):=by
 obtain⟨o0,h0,k0⟩:=r.at_ h;obtain⟨ho',e,nt,nf,nl⟩:=k0.some;refine⟨by simp[r.len],r.nd,fun l' a' o' h1 h2=>?_⟩;by_cases c:l=l'
 ·subst c;rw[h]at h1;cases h1;rw[ZG (Q5.mp h0).1]at h2;cases h2;exact n
 ·rw[Qu c]at h2;have na:a'≠a:=fun z=>by
   subst z;obtain⟨p1,e1⟩:=Q5.mp h;obtain⟨p2,e2⟩:=Q5.mp h1;exact c ((List.getElem_inj r.nd).mp (e1.trans e2.symm))
  exact(r.ob l' a' o' h1 h2).mono (.of (sL e nt nf nl _)) (by rw[bj na])
theorem Sr.keep(r:Sr K m S H)(h:m[l]?=some a)(ho:HO):yN K H (upd H a ho):=by
 obtain⟨o0,h0,k0⟩:=r.at_ h;obtain⟨ho',e,nt,nf,nl⟩:=k0.some;exact sL e nt nf nl _
end
def iJ(K:Q1)(m:List Addr)(H:Hp)(Q:VK)(u:U)(S':Sto):Prop:=∀m' v H',Ext K m H m' H'->Sr K m' S' H'->Is K m' H' v u->Q v H'
abbrev CE:=Rho->Sto->Option (U×Sto)
abbrev CT:=Rho->Sto->Option (Bool×Sto)
abbrev CA:=Rho->Sto->Option (List U×Sto)
inductive Out where
 |nx|rt (u:U)|bk|ct
abbrev CS:=Rho->Sto->Option (Out×Rho×Sto)
def Av(K:Q1)(m:List Addr)(H:Hp)(Q:Bool->Hp->Prop)(b:Bool)(S':Sto):Prop:=∀m' H',Ext K m H m' H'->Sr K m' S' H'->Q b H'
def Lc(K:Q1)(m:List Addr)(H:Hp)(Q:List V->Hp->Prop)(us:List U)(S':Sto):Prop:=∀m' vs H',Ext K m H m' H'->Sr K m' S' H'->IsL K m' H' vs us->Q vs H'
def gw(K:Q1)(m:List Addr)(H:Hp)(Q:L2.St->Hp->Prop)(ρ':Rho)(S':Sto):Prop:=∀m' σ' H',Ext K m H m' H'->Sr K m' S' H'->Lr K m' H' ρ' σ'->Q σ' H'
def uR(K:Q1)(m:List Addr)(H:Hp)(D:yI):Out->Rho->Sto->Prop
 |.nx,ρ',S'=>gw K m H D.nx ρ' S'
 |.bk,ρ',S'=>gw K m H D.bk ρ' S'
 |.ct,ρ',S'=>gw K m H D.ct ρ' S'
 |.rt u,_,S'=>iJ K m H D.rt u S'
theorem kf{α β γ δ ε:Type}{A B C D:α->β->γ->δ->ε->Prop}{p:Prop}(h:∃a b c d e,A a b c d e/\B a b c d e/\C a b c d e/\D a b c d e)(f:∀a b c d e,A a b c d e->B a b c d e->C a b c d e->D a b c d e->p):p:=by
 obtain⟨a,b,c,d,e,h1,h2,h3,h4⟩:=h;exact f a b c d e h1 h2 h3 h4
theorem qi{α β γ δ ε ζ:Type}{A B C D:α->β->γ->δ->ε->ζ->Prop}{p:Prop}(h:∃a b c d e g,A a b c d e g/\B a b c d e g/\C a b c d e g/\D a b c d e g)(f:∀a b c d e g,A a b c d e g->B a b c d e g->C a b c d e g->D a b c d e g->p):p:=by
 obtain⟨a,b,c,d,e,g,h1,h2,h3,h4⟩:=h;exact f a b c d e g h1 h2 h3 h4
theorem LN{α β γ δ ε ζ:Type}{A B C D E:α->β->γ->δ->ε->ζ->Prop}{p:Prop}(h:∃a b c d e g,A a b c d e g/\B a b c d e g/\C a b c d e g/\D a b c d e g/\E a b c d e g)(f:∀a b c d e g,A a b c d e g->B a b c d e g->C a b c d e g->D a b c d e g->E a b c d e g->p):p:=by
 obtain⟨a,b,c,d,e,g,h1,h2,h3,h4,h5⟩:=h;exact f a b c d e g h1 h2 h3 h4 h5
def tE(K:Q1)(c:CE):TE:=fun σ H Q=>∃m ρ S u S',Sr K m S H/\Lr K m H ρ σ/\c ρ S=some (u,S')/\iJ K m H Q u S'
def tT(K:Q1)(c:CT):TT:=fun σ H Q=>∃m ρ S u S',Sr K m S H/\Lr K m H ρ σ/\c ρ S=some (u,S')/\Av K m H Q u S'
def tA(K:Q1)(c:CA):TA:=fun σ H Q=>∃m ρ S u S',Sr K m S H/\Lr K m H ρ σ/\c ρ S=some (u,S')/\Lc K m H Q u S'
def tS(K:Q1)(c:CS):TS:=fun D σ H=>∃m ρ S o ρ' S',Sr K m S H/\Lr K m H ρ σ/\c ρ S=some (o,ρ',S')/\uR K m H D o ρ' S'
abbrev QE(X:Cx)(e:Expr)(c:CE):Prop:=WE X e (tE X.K c)
abbrev QT(X:Cx)(e:Expr)(c:CT):Prop:=WT X e (tT X.K c)
abbrev QW(X:Cx)(e:Expr)(c:CT):Prop:=WW X e (tT X.K c)
abbrev QS(X:Cx)(e:Stmt)(c:CS):Prop:=WS X e (tS X.K c)
abbrev QSs(X:Cx)(e:List Stmt)(c:CS):Prop:=WSs X e (tS X.K c)
structure QA(X:Cx)(es:List Expr)(c:CA):Prop where
 h:WA X es (tA X.K c)
 len:∀ρ S us S',c ρ S=some (us,S')->us.length=es.length
section
variable{X:Cx}{e:Expr}{es:List Expr}{st:Stmt}{sts:List Stmt}
theorem _root_.OG.WE.imp{t t':TE}(h:WE X e t)(i:∀σ H Q,t' σ H Q->t σ H Q):WE X e t':=⟨fun pins s σ H Q I k=>h.h pins s σ H Q I (i σ H Q k)⟩
theorem _root_.OG.WT.imp{t t':TT}(h:WT X e t)(i:∀σ H Q,t' σ H Q->t σ H Q):WT X e t':=⟨fun pins s σ H Q I k=>h.h pins s σ H Q I (i σ H Q k)⟩
theorem _root_.OG.WW.imp{t t':TT}(h:WW X e t)(i:∀σ H Q,t' σ H Q->t σ H Q):WW X e t':=⟨fun wh pins s σ H Q I k=>h.h wh pins s σ H Q I (i σ H Q k)⟩
theorem _root_.OG.WA.imp{t t':TA}(h:WA X es t)(i:∀σ H Q,t' σ H Q->t σ H Q):WA X es t':=⟨fun pos pins s σ H Q I k=>h.h pos pins s σ H Q I (i σ H Q k)⟩
theorem _root_.OG.WS.imp{t t':TS}(h:WS X st t)(i:∀D σ H,t' D σ H->t D σ H):WS X st t':=⟨fun pins s σ H D I k=>h.h pins s σ H D I (i D σ H k)⟩
theorem _root_.OG.WSs.imp{t t':TS}(h:WSs X sts t)(i:∀D σ H,t' D σ H->t D σ H):WSs X sts t':=⟨fun pins s σ H D I k=>h.h pins s σ H D I (i D σ H k)⟩
theorem _root_.OG.WI.imp{tg:Expr}{t t':TI}(h:WI X tg e t)(i:∀σ H R,t' σ H R->t σ H R):WI X tg e t':=⟨fun pins s σ H R I k=>h.h pins s σ H R I (i σ H R k)⟩
theorem _root_.OG.WG.imp{t t':TG}(h:WG X e t)(i:∀v σ H Q,t' v σ H Q->t v σ H Q):WG X e t':=⟨fun pins s σ H v u Q I r k=>h.h pins s σ H v u Q I r (i v σ H Q k)⟩
theorem _root_.OG.WGs.imp{t t':TGs}(h:WGs X es t)(i:∀v σ H Q,t' v σ H Q->t v σ H Q):WGs X es t':=⟨fun pins s σ H v u Q I r k=>h.h pins s σ H v u Q I r (i v σ H Q k)⟩
theorem _root_.OG.WE.or{t t':TE}(h:WE X e t)(h':WE X e t'):WE X e (fun σ H Q=>t σ H Q\/t' σ H Q):=⟨fun pins s σ H Q I k=>k.elim (h.h pins s σ H Q I) (h'.h pins s σ H Q I)⟩
theorem _root_.OG.WT.or{t t':TT}(h:WT X e t)(h':WT X e t'):WT X e (fun σ H Q=>t σ H Q\/t' σ H Q):=⟨fun pins s σ H Q I k=>k.elim (h.h pins s σ H Q I) (h'.h pins s σ H Q I)⟩
theorem _root_.OG.WS.or{t t':TS}(h:WS X st t)(h':WS X st t'):WS X st (fun D σ H=>t D σ H\/t' D σ H):=⟨fun pins s σ H D I k=>k.elim (h.h pins s σ H D I) (h'.h pins s σ H D I)⟩
theorem _root_.OG.WI.or{tg:Expr}{t t':TI}(h:WI X tg e t)(h':WI X tg e t'):WI X tg e (fun σ H D=>t σ H D\/t' σ H D):=⟨fun pins s σ H D I k=>k.elim (h.h pins s σ H D I) (h'.h pins s σ H D I)⟩
end
section
variable{K:Q1}{m m':List Addr}{H H':Hp}{Q:VK}{R:L2.St->Hp->Prop}{D:yI}{u:U}{o:Out}{S':Sto}{ρ':Rho}
theorem iJ.mono(e:Ext K m H m' H')(p:iJ K m H Q u S'):iJ K m' H' Q u S':=fun m2 v H2 e2 r i=>p m2 v H2 (e.trans e2) r i
theorem Av.mono{Q:Bool->Hp->Prop}{b:Bool}(e:Ext K m H m' H')(p:Av K m H Q b S'):Av K m' H' Q b S':=fun m2 H2 e2 r=>p m2 H2 (e.trans e2) r
theorem gw.mono(e:Ext K m H m' H')(p:gw K m H R ρ' S'):gw K m' H' R ρ' S':=fun m2 v H2 e2 r i=>p m2 v H2 (e.trans e2) r i
theorem uR.mono(e:Ext K m H m' H')(p:uR K m H D o ρ' S'):uR K m' H' D o ρ' S':=by
 cases o with
 |nx=>exact gw.mono e p
 |rt u=>exact iJ.mono e p
 |bk=>exact gw.mono e p
 |ct=>exact gw.mono e p
end
def LIM:Nat:=100000
theorem lim{n:Nat}(h:n<=LIM):n<=sizeLine:=Qd h (by unfold LIM sizeLine;decide)
theorem Eo{n:Nat}(h:n<LIM):n<sizeLine:=Qy h (by unfold LIM sizeLine;decide)
def ag(i:Nat):CE:=fun ρ S=>match ρ[i]? with
 |some (some u)=>some (u,S)
 |_=>none
def cC(u:U):CE:=fun _ S=>some (u,S)
section
variable{X:Cx}{e a b c:Expr}{ca cb:CE}{pos:Pos}
theorem ae{i:Nat}(h:WE X e (Iq i)):QE X e (ag i):=h.imp fun σ H Q hz=>kf hz fun m ρ S u S' sr lr hc post=>by
 unfold ag at hc;split at hc
 ·rename_i u' e;cases hc;obtain⟨v,e1,e2⟩:=lr.at_ i u e;exact⟨v,e1,post m v H .refl sr e2⟩
 ·cases hc
theorem q_c{v:V}{u:U}(h:WE X e (tC v))(hi:∀m H,Is X.K m H v u):QE X e (cC u):=h.imp fun σ H Q hz=>kf hz fun m ρ S u' S' sr lr hc post=>by
 cases hc;exact post m v H .refl sr (hi m H)
theorem aB{i:Int}(h:WE X e (tC (.int i))):QE X e (cC (.int i)):=q_c h fun _ _=>.int_
theorem j7{i:Bool}(h:WE X e (tC (.bl i))):QE X e (cC (.bl i)):=q_c h fun _ _=>.bl_
theorem dH{i:Str}(h:WE X e (tC (.str i))):QE X e (cC (.str i)):=q_c h fun _ _=>.str_
theorem zq(h:WE X e (tC .non)):QE X e (cC .non):=q_c h fun _ _=>.non_
def cOp(f:U->U->Sto->Option (U×Sto))(ca cb:CE):CE:=fun ρ S=>(ca ρ S).bind fun p=>(cb ρ p.2).bind fun q=>f p.1 q.1 q.2
def OpP(K:Q1)(r:R2)(f:U->U->Sto->Option (U×Sto)):Prop:=
 ∀m S H x y v w u S' Q,Sr K m S H->Is K m H v x->Is K m H w y->f x y S=some (u,S')->iJ K m H Q u S'->r v w H Q
theorem wF{K:Q1}{r:R2}{f:U->U->Sto->Option (U×Sto)}(hp:OpP K r f):∀σ H Q,tE K (cOp f ca cb) σ H Q->tOp r (tE K ca) (tE K cb) σ H Q:=by
 rintro σ H Q ⟨m,ρ,S,u,S',sr,lr,hc,post⟩;obtain⟨⟨x,S1⟩,h1,h⟩:=Q0.mp hc;obtain⟨⟨y,S2⟩,h2,h3⟩:=Q0.mp h;exact⟨m,ρ,S,x,S1,sr,lr,h1,fun m1 v1 H1 e1 sr1 i1=>⟨m1,ρ,S1,y,S2,sr1,lr.mono e1,h2,fun m2 v2 H2 e2 sr2 i2=>hp m2 S2 H2 x y v1 v2 u S' Q sr2 (i1.mono e2) i2 h3 (post.mono (e1.trans e2))⟩⟩
theorem gG{op:Operator}{r:R2}{f:U->U->Sto->Option (U×Sto)}(ho:OpR X (binaryOp op) r)(hp:OpP X.K r f)(ha:QE X a ca)(hb:QE X b cb):QE X (.BinOp a op b pos) (cOp f ca cb):=(Fx ho ha hb).imp (wF hp)
theorem J9{op:CmpOp}{r:R2}{f:U->U->Sto->Option (U×Sto)}(ho:OpR X (compareOp op) r)(hp:OpP X.K r f)(ha:QE X a ca)(hb:QE X b cb)(hm:behindInMarks op b=false):QE X (.Compare a [op] [b] pos) (cOp f ca cb):=(rJ ho ha hb hm).imp (wF hp)
def aL(c:CE):CT:=fun ρ S=>(c ρ S).bind fun p=>match p.1 with
 |.bl b=>some (b,p.2)
 |_=>none
theorem jg{K:Q1}{c:CE}{t:TE}(h:∀σ H Q,tE K c σ H Q->t σ H Q):∀σ H Q,tT K (aL c) σ H Q->t σ H fun x H'=>∃k,x=.bl k/\Q k H':=by
 rintro σ H Q ⟨m,ρ,S,u,S',sr,lr,hc,post⟩;obtain⟨⟨x,S1⟩,h1,h2⟩:=Q0.mp hc;refine h σ H _ ⟨m,ρ,S,x,S1,sr,lr,h1,fun m1 v1 H1 e1 sr1 i1=>?_⟩;cases x<;>simp at h2;obtain⟨rfl,rfl⟩:=h2;exact⟨_,i1.of_bl,post m1 H1 e1 sr1⟩
theorem bz{op:CmpOp}{r:R2}{f:U->U->Sto->Option (U×Sto)}(ho:OpR X (compareOp op) r)(hp:OpP X.K r f)(ha:QE X a ca)(hb:QE X b cb)(hm:behindInMarks op b=false):QT X (.Compare a [op] [b] pos) (aL (cOp f ca cb)):=(nG ho ha hb hm).imp (jg (wF hp))
theorem j5(h:QE X e ca)(he:∀whole,isTrue e X.env whole=(do let v <-whole;standAt e.pos;holding [v] (truthy v)):=by intro _;rfl):QT X e (aL ca):=(BW h he).imp (jg fun _ _ _ z=>z)
variable{ta tb:CT}{rest:List Expr}
def uO(ta tb:CT):CT:=fun ρ S=>(ta ρ S).bind fun p=>if p.1=true then tb ρ p.2 else some (false,p.2)
def cOr(ta tb:CT):CT:=fun ρ S=>(ta ρ S).bind fun p=>if p.1=true then some (true,p.2)else tb ρ p.2
def Br(ta:CT):CT:=fun ρ S=>(ta ρ S).bind fun p=>some (!p.1,p.2)
theorem Cv(h:QW X e ta):QT X e ta:=WW.pt h
theorem m6(ha:QT X a ta):QW X (.BoolOp .And [a] pos) ta:=yR ha
theorem J8(ha:QT X a ta):QW X (.BoolOp .Or [a] pos) ta:=BU ha
theorem ub(ha:QT X a ta)(hb:QW X (.BoolOp .And (b::rest) pos) tb):QW X (.BoolOp .And (a::b::rest) pos) (uO ta tb):=(BV ha hb).imp fun σ H Q hz=>kf hz fun m ρ S u S' sr lr hc post=>by
 obtain⟨⟨x,S1⟩,h1,h2⟩:=Q0.mp hc;refine⟨m,ρ,S,x,S1,sr,lr,h1,fun m1 H1 e1 sr1=>?_⟩;cases x with
 |true=>exact Ep ⟨m1,ρ,S1,u,S',sr1,lr.mono e1,h2,post.mono e1⟩
 |false=>cases h2;exact Er (post m1 H1 e1 sr1)
theorem Mq(ha:QT X a ta)(hb:QW X (.BoolOp .Or (b::rest) pos) tb):QW X (.BoolOp .Or (a::b::rest) pos) (cOr ta tb):=(Ft ha hb).imp fun σ H Q hz=>kf hz fun m ρ S u S' sr lr hc post=>by
 obtain⟨⟨x,S1⟩,h1,h2⟩:=Q0.mp hc;refine⟨m,ρ,S,x,S1,sr,lr,h1,fun m1 H1 e1 sr1=>?_⟩;cases x with
 |true=>cases h2;exact Ep (post m1 H1 e1 sr1)
 |false=>exact Er ⟨m1,ρ,S1,u,S',sr1,lr.mono e1,h2,post.mono e1⟩
theorem o6(ha:QT X a ta):QT X (.UnaryOp .Not a pos) (Br ta):=(BX ha).imp fun σ H Q hz=>kf hz fun m ρ S u S' sr lr hc post=>by
 obtain⟨⟨x,S1⟩,h1,h2⟩:=Q0.mp hc;cases h2;exact⟨m,ρ,S,x,_,sr,lr,h1,fun m1 H1 e1 sr1=>post m1 H1 e1 sr1⟩
def ym(ca cb:CE):CE:=fun ρ S=>(ca ρ S).bind fun p=>match p.1 with
 |.bl true=>cb ρ p.2
 |.bl false=>some (.bl false,p.2)
 |_=>none
def IG(ca cb:CE):CE:=fun ρ S=>(ca ρ S).bind fun p=>match p.1 with
 |.bl false=>cb ρ p.2
 |.bl true=>some (.bl true,p.2)
 |_=>none
def yj(ca:CE):CE:=fun ρ S=>(ca ρ S).bind fun p=>match p.1 with
 |.bl b=>some (.bl (!b),p.2)
 |_=>none
theorem Cw{op}(h:QE X a ca):QE X (.BoolOp op [a] pos) ca:=B3 h
theorem AZ(ha:QE X a ca)(hb:QE X (.BoolOp .And (b::rest) pos) cb):QE X (.BoolOp .And (a::b::rest) pos) (ym ca cb):=(B8 ha hb).imp fun σ H Q hz=>kf hz fun m ρ S u S' sr lr hc post=>by
 obtain⟨⟨x,S1⟩,h1,h2⟩:=Q0.mp hc;refine⟨m,ρ,S,x,S1,sr,lr,h1,fun m1 v1 H1 e1 sr1 i1=>?_⟩;cases x with
 |bl k=>
  refine⟨k,i1.of_bl,?_⟩;cases k with
  |true=>exact Ep ⟨m1,ρ,S1,u,S',sr1,lr.mono e1,h2,post.mono e1⟩
  |false=>cases h2;exact Er (post m1 _ H1 e1 sr1 .bl_)
 |_=>simp at h2
theorem J7(ha:QE X a ca)(hb:QE X (.BoolOp .Or (b::rest) pos) cb):QE X (.BoolOp .Or (a::b::rest) pos) (IG ca cb):=(Fw ha hb).imp fun σ H Q hz=>kf hz fun m ρ S u S' sr lr hc post=>by
 obtain⟨⟨x,S1⟩,h1,h2⟩:=Q0.mp hc;refine⟨m,ρ,S,x,S1,sr,lr,h1,fun m1 v1 H1 e1 sr1 i1=>?_⟩;cases x with
 |bl k=>
  refine⟨k,i1.of_bl,?_⟩;cases k with
  |false=>exact Er ⟨m1,ρ,S1,u,S',sr1,lr.mono e1,h2,post.mono e1⟩
  |true=>cases h2;exact Ep (post m1 _ H1 e1 sr1 .bl_)
 |_=>simp at h2
theorem AY(ha:QE X a ca):QE X (.UnaryOp .Not a pos) (yj ca):=(B4 ha).imp fun σ H Q hz=>kf hz fun m ρ S u S' sr lr hc post=>by
 obtain⟨⟨x,S1⟩,h1,h2⟩:=Q0.mp hc;refine⟨m,ρ,S,x,S1,sr,lr,h1,fun m1 v1 H1 e1 sr1 i1=>?_⟩;cases x with
 |bl k=>cases h2;exact⟨k,i1.of_bl,post m1 _ H1 e1 sr1 .bl_⟩
 |_=>simp at h2
def cIf(t:CT)(ca cb:CE):CE:=fun ρ S=>(t ρ S).bind fun p=>if p.1=true then ca ρ p.2 else cb ρ p.2
variable{es:List Expr}{cr:CA}
def aD:CA:=fun _ S=>some ([],S)
def af(ca:CE)(cr:CA):CA:=fun ρ S=>(ca ρ S).bind fun p=>(cr ρ p.2).bind fun q=>some (p.1::q.1,q.2)
theorem ay:QA X [] aD:=⟨iP.imp fun σ H Q hz=>kf hz fun m ρ S u S' sr lr hc post=>by cases hc;exact post m [] H .refl sr .nil_,fun ρ S us S' h=>by cases h;rfl⟩
theorem ab(ha:QE X e ca)(hr:QA X es cr)(hs:starEach (e::es) X.env=(false,eval e X.env)::starEach es X.env:=by rfl):QA X (e::es) (af ca cr):=⟨(dR ha hr.h hs).imp fun σ H Q hz=>kf hz fun m ρ S u S' sr lr hc post=>by
 obtain⟨⟨x,S1⟩,h1,h⟩:=Q0.mp hc;obtain⟨⟨y,S2⟩,h2,h3⟩:=Q0.mp h;cases h3;exact⟨m,ρ,S,x,S1,sr,lr,h1,fun m1 v1 H1 e1 sr1 i1=>⟨m1,ρ,S1,y,S2,sr1,lr.mono e1,h2,fun m2 v2 H2 e2 sr2 i2=>post m2 _ H2 (e1.trans e2) sr2 (.cons_ (i1.mono e2) i2)⟩⟩,
 fun ρ S us S' h=>by
 obtain⟨⟨x,S1⟩,h1,h⟩:=Q0.mp h;obtain⟨⟨y,S2⟩,h2,h3⟩:=Q0.mp h;cases h3;simp[hr.len ρ S1 y S2 h2]⟩
def hU(cr:CA):CE:=fun ρ S=>(cr ρ S).bind fun p=>some (.tup p.1,p.2)
def jU(cr:CA):CE:=fun ρ S=>(cr ρ S).bind fun p=>some (.ref p.2.length,p.2++[.lst p.1])
theorem dr{m:List Addr}{S:Sto}{q:Addr}(h:m.length=S.length):(m++[q])[S.length]?=some q:=by rw[Qv (by omega)];simp[h]
theorem nR{K:Q1}{m:List Addr}{H:Hp}{S:Sto}{us:List U}{xs:List V}{Q:VK}{p:Addr}(sr:Sr K m S H)(i:IsL K m H xs us)(post:iJ K m H Q (.tup us) S)(hp:H p=none):Q (.ref p) (upd H p (.tup xs)):=
 post m _ _ (.of (bI hp _)) (sr.same (cV hp _)) (.tup_ (SqT.of aG) (i.mono (.of (bI hp _))))
theorem fb{K:Q1}{m:List Addr}{H:Hp}{S:Sto}{us:List U}{xs:List V}{Q:VK}{p:Addr}(sr:Sr K m S H)(i:IsL K m H xs us)(post:iJ K m H Q (.ref S.length) (S++[.lst us]))(hp:H p=none):Q (.ref p) (upd H p (.lst xs)):=
 post (m++[p]) _ _ (.new (bI hp _)) (sr.new hp ⟨xs,aG,i.mono (.new (bI hp _))⟩) (.ref_ (dr sr.len))
theorem fh{x1}(h:QA X es cr)(hl:es.length<=1000:=by exact Nat.le_of_ble_eq_true rfl):QE X (.Tuple es x1 pos) (hU cr):=(vf h.h).imp fun σ H Q hz=>kf hz fun m ρ S u S' sr lr hc post=>by
 obtain⟨⟨us,S1⟩,h1,h2⟩:=Q0.mp hc;cases h2;refine⟨m,ρ,S,us,_,sr,lr,h1,fun m1 v1 H1 e1 sr1 i1=>⟨AQ ?_,fun p hp=>nR sr1 i1 (post.mono e1) hp⟩⟩;rw[i1.length,h.len _ _ _ _ h1];exact hl
theorem iT(h:QA X es cr)(hl:es.length<=1000:=by exact Nat.le_of_ble_eq_true rfl):QE X (.List es pos) (jU cr):=(vh h.h).imp fun σ H Q hz=>kf hz fun m ρ S u S' sr lr hc post=>by
 obtain⟨⟨us,S1⟩,h1,h2⟩:=Q0.mp hc;cases h2;refine⟨m,ρ,S,us,_,sr,lr,h1,fun m1 v1 H1 e1 sr1 i1=>⟨AQ ?_,fun p hp=>fb sr1 i1 (post.mono e1) hp⟩⟩;rw[i1.length,h.len _ _ _ _ h1];exact hl
def cCB(f:List U->Sto->Option (U×Sto))(cr:CA):CE:=fun ρ S=>(cr ρ S).bind fun p=>f p.1 p.2
def mQ(K:Q1)(r:List V->Hp->VK->Prop)(f:List U->Sto->Option (U×Sto)):Prop:=
 ∀m S H us vs u S' Q,Sr K m S H->IsL K m H vs us->f us S=some (u,S')->iJ K m H Q u S'->r vs H Q
theorem Bq{K:Q1}{r:List V->Hp->VK->Prop}{f:List U->Sto->Option (U×Sto)}(hp:mQ K r f):∀σ H Q,tE K (cCB f cr) σ H Q->tCB r (tA K cr) σ H Q:=by
 rintro σ H Q ⟨m,ρ,S,u,S',sr,lr,hc,post⟩;obtain⟨⟨us,S1⟩,h1,h2⟩:=Q0.mp hc;exact⟨m,ρ,S,us,S1,sr,lr,h1,fun m1 v1 H1 e1 sr1 i1=>hp m1 S1 H1 us v1 u S' Q sr1 i1 h2 (post.mono e1)⟩
theorem cQ{id:String}{x:Str}{p:Pos}{r:List V->Hp->VK->Prop}{f:List U->Sto->Option (U×Sto)}(hc:eZ X (.builtin id) r)(hp:mQ X.K r f)(hg:Gl X x)(hm:X.mg x=none)(hv:bootBuiltins x=some (.builtin id))(ha:QA X (e::es) cr)(hn:x≠"__name__":=by decide)(hdb:(x == ("__debug__":Str))=false:=by decide)(he:starEach (e::es) X.env=(false,eval e X.env)::starEach es X.env:=by rfl)(hpl:(backTo pos (starEach es X.env)).any (·.1)=false:=by rfl) :
  QE X (.Call (.Name x p) (e::es) [] pos) (cCB f cr):=(oQ hc hg hm hv ha.h hn hdb he hpl).imp (Bq hp)
theorem f7{id:String}{x:Str}{p:Pos}{r:List V->Hp->VK->Prop}{f:List U->Sto->Option (U×Sto)}(hc:eZ X (.type id) r)(hp:mQ X.K r f)(hg:Gl X x)(hm:X.mg x=none)(hv:bootBuiltins x=some (.type id))(ha:QA X (e::es) cr)(hn:x≠"__name__":=by decide)(hdb:(x == ("__debug__":Str))=false:=by decide)(he:starEach (e::es) X.env=(false,eval e X.env)::starEach es X.env:=by rfl)(hpl:(backTo pos (starEach es X.env)).any (·.1)=false:=by rfl) :
  QE X (.Call (.Name x p) (e::es) [] pos) (cCB f cr):=(mS hc hg hm hv ha.h hn hdb he hpl).imp (Bq hp)
end
def vM(K:Q1)(f:List U->Sto->Option (U×Sto)):Sp:=fun vs H Q _=>∃m us S u S',IsL K m H vs us/\Sr K m S H/\f us S=some (u,S')/\iJ K m H Q u S'
abbrev Fn:=List U->Sto->Option (U×Sto)
abbrev dF(P:Program)(w:World)(K:Q1)(mg:Str->Option Value)(base:Heap)(x:Str)(k:Nat)(ps:List Str)(f:Fn):Prop:=Has P w K mg base x k ps (vM K f)
def oY(n:Nat)(us:List U):Rho:=us.map some++Qa (n-us.length) none
def fnU(n k:Nat)(c:CS):Fn:=fun us S=>if us.length=k then(c (oY n us) S).bind fun r=>match r.1 with
 |.rt u=>some (u,r.2.2)
 |.nx=>some (.non,r.2.2)
 |_=>none else none
section
variable{P:Program}{w:World}{K:Q1}{mg:Str->Option Value}{base:Heap}{x:Str}{st:Stmt}{ps N:List Str}{k:Nat}{c:CS}{f:Fn}
theorem sC{m:List Addr}{H:Hp}{vs:List V}{us:List U}(i:IsL K m H vs us):Lr K m H (oY N.length us) (L2.start N vs):=by
 have hl:=i.length;refine⟨by simp[oY,L2.start,hl],fun j u e=>?_⟩;unfold oY at e;unfold L2.start;by_cases c:j<us.length
 ·rw[QZ (by simpa using c),QC]at e;rw[QZ (by simpa [hl] using c),QC];rw[Q4 c]at e;simp at e;obtain⟨v,e1,e2⟩:=i.getD (Q4 c);rw[e1];subst e;exact⟨v,rfl,e2⟩
 ·rw[Qv (by simpa using c),ZQ]at e;split at e<;>cases e
theorem xG{X:Cx}{body:List Stmt}{Q:VK}{E:XK}{vs:List V}{H:Hp}(hK:X.K=K)(h:vM K (fnU N.length ps.length c) vs H Q E):tS X.K c { nx:=fun _ H'=>Q .non H',rt:=Q } (L2.start N vs) H:=by
 subst hK;obtain⟨m,us,S,u,S',i,sr,hf,post⟩:=h;unfold fnU at hf;split at hf
 ·obtain⟨⟨o,ρ',S2⟩,h1,h2⟩:=Q0.mp hf;refine⟨m,_,S,o,ρ',S2,sr,sC i,h1,?_⟩;cases o with
  |rt v=>cases h2;exact post
  |nx=>cases h2;exact fun m1 σ1 H1 e1 sr1 _=>post m1 _ H1 e1 sr1 .non_
  |bk=>simp at h2
  |ct=>simp at h2
 ·cases hf
theorem rP{vs:List V}{H:Hp}{Q:VK}{E:XK}{n k:Nat}(h:vM K (fnU n k c) vs H Q E):vs.length=k:=by
 obtain⟨m,us,S,u,S',i,sr,hf,post⟩:=h;unfold fnU at hf;split at hf
 ·rename_i e;rw[i.length,e]
 ·cases hf
theorem _root_.OG.Def.pure(d:Def K mg x st ps)(S:aP N ps (aw st))
  (hb:∀(f:Addr) (cdv:Value) (A:Around) (outer:List Env) (s:Shared) (H:Hp) (E:XK),fX k (A.deeper (envOfC x (aw st) s.heap.objs.size f cdv))->
   WSs (tj CX0 P w K mg base N x (aw st) f cdv A outer s H E).nox (du st) (tS K c)):dF P w K mg base x (k+1) ps (fnU N.length ps.length c):=
 d.has S (fun vs H Q E h=>rP h) fun f cdv A outer s H vs Q E hr h=>⟨_,hb f cdv A outer s H E hr,xG (X:=(tj CX0 P w K mg base N x (aw st) f cdv A outer s H E).nox) (body:=[]) (ps:=ps) rfl h⟩
theorem aT{X:Cx}{e:Expr}{es:List Expr}{cr:CA}{p pos:Pos}(F:Has X.prog X.w X.K X.mg X.base x k ps (vM X.K f))(hr:fX k X.A)(hg:Gl X x)(ha:QA X (e::es) cr)
  (hdb:(x == ("__debug__":Str))=false:=by decide) (he:starEach (e::es) X.env=(false,eval e X.env)::starEach es X.env:=by rfl) (hpl:(backTo pos (starEach es X.env)).any (·.1)=false:=by rfl) :
  QE X (.Call (.Name x p) (e::es) [] pos) (cCB f cr):=(AF F hr hg ha.h hdb he hpl).imp fun σ H Q hz=>kf hz fun m ρ S u S' sr lr hc post=>by
 obtain⟨⟨us,S1⟩,h1,h2⟩:=Q0.mp hc;exact⟨m,ρ,S,us,S1,sr,lr,h1,fun m1 v1 H1 e1 sr1 i1=>⟨m1,us,S1,u,S',by simpa using i1,sr1,h2,post.mono e1⟩⟩
end
section
variable{X:Cx}{e a c:Expr}{ca cb:CE}{pos:Pos}{st:Stmt}{sts:List Stmt}{c1 c2:CS}
def b6:CS:=fun ρ S=>some (.nx,ρ,S)
def bB(c1 c2:CS):CS:=fun ρ S=>(c1 ρ S).bind fun r=>match r.1 with
 |.nx=>c2 r.2.1 r.2.2
 |o=>some (o,r.2.1,r.2.2)
theorem bT:QSs X [] b6:=yS.imp fun D σ H hz=>qi hz fun m ρ S o ρ' S' sr lr hc post=>by cases hc;exact post m σ H .refl sr lr
theorem av(h1:QS X st c1)(h2:QSs X sts c2):QSs X (st::sts) (bB c1 c2):=(fD h1 h2).imp fun D σ H hz=>qi hz fun m ρ S o ρ' S' sr lr hc post=>by
 obtain⟨⟨o1,ρ1,S1⟩,h1,h2⟩:=Q0.mp hc;refine⟨m,ρ,S,o1,ρ1,S1,sr,lr,h1,?_⟩;cases o1 with
 |nx=>exact fun m1 σ1 H1 e1 sr1 lr1=>⟨m1,ρ1,S1,o,ρ',S',sr1,lr1,h2,post.mono e1⟩
 |rt u=>cases h2;exact post
 |bk=>cases h2;exact post
 |ct=>cases h2;exact post
theorem aA(h1:QS X st c1):QSs X [st] c1:=rE h1
def Bs:CS:=fun _ _=>none
theorem zp:QS X st Bs:=vc.imp fun D σ H hz=>qi hz fun m ρ S o ρ' S' sr lr hc post=>by cases hc
def fq(ca:CE):CS:=fun ρ S=>(ca ρ S).bind fun p=>some (.nx,ρ,p.2)
theorem dq(he:QE X e ca)(hs:swapsWith e none pos.line X.env=pure false:=by rfl):QS X (.Expr e pos) (fq ca):=(yT he hs).imp fun D σ H hz=>qi hz fun m ρ S o ρ' S' sr lr hc post=>by
 obtain⟨⟨u,S1⟩,h1,h2⟩:=Q0.mp hc;cases h2;exact⟨m,ρ,S,u,_,sr,lr,h1,fun m1 v1 H1 e1 sr1 i1=>post m1 σ H1 e1 sr1 (lr.mono e1)⟩
def eV(ca:CE):CS:=fun ρ S=>(ca ρ S).bind fun p=>some (.rt p.1,ρ,p.2)
theorem a6(he:QE X e ca):QS X (.Return (some e) pos) (eV ca):=(vb he).imp fun D σ H hz=>qi hz fun m ρ S o ρ' S' sr lr hc post=>by
 obtain⟨⟨u,S1⟩,h1,h2⟩:=Q0.mp hc;cases h2;exact⟨m,ρ,S,u,_,sr,lr,h1,post⟩
def eB(t:CT)(c1 c2:CS):CS:=fun ρ S=>(t ρ S).bind fun p=>if p.1=true then c1 ρ p.2 else c2 ρ p.2
theorem cD{t:CT}{s1 s2:List Stmt}(hc:QT X c t)(h1:QSs X s1 c1)(h2:QSs X s2 c2):QS X (.If c s1 s2 pos) (eB t c1 c2):=(Fu hc h1 h2).imp fun D σ H hz=>qi hz fun m ρ S o ρ' S' sr lr hc post=>by
 obtain⟨⟨x,S1⟩,h1,h2⟩:=Q0.mp hc;refine⟨m,ρ,S,x,S1,sr,lr,h1,fun m1 H1 e1 sr1=>?_⟩;cases x with
 |true=>exact Ep ⟨m1,ρ,S1,o,ρ',S',sr1,lr.mono e1,h2,post.mono e1⟩
 |false=>exact Er ⟨m1,ρ,S1,o,ρ',S',sr1,lr.mono e1,h2,post.mono e1⟩
abbrev CG:=U->Rho->Sto->Option (Rho×Sto)
def tG(K:Q1)(g:CG):TG:=fun v σ H Q=>∃m ρ S u ρ' S',Sr K m S H/\Lr K m H ρ σ/\Is K m H v u/\g u ρ S=some (ρ',S')/\gw K m H Q ρ' S'
abbrev QG(X:Cx)(e:Expr)(g:CG):Prop:=WG X e (tG X.K g)
def gNm(i:Nat):CG:=fun u ρ S=>some (ρ.set i (some u),S)
theorem bQ{i:Nat}(h:WG X e (uA i)):QG X e (gNm i):=h.imp fun v σ H Q hz=>LN hz fun m ρ S u ρ' S' sr lr iu hc post=>by
 cases hc;exact post m _ H .refl sr (lr.set i iu)
def gC:List Nat->List U->Rho->Option Rho
 |[],[],ρ=>some ρ
 |i::is,u::us,ρ=>gC is us (ρ.set i (some u))
 |_,_,_=>none
def tGs(K:Q1)(is:List Nat):TGs:=fun vs σ H Q=>∃m ρ S us ρ',Sr K m S H/\Lr K m H ρ σ/\IsL K m H vs us/\gC is us ρ=some ρ'/\gw K m H Q ρ' S
abbrev QGs(X:Cx)(es:List Expr)(is:List Nat):Prop:=WGs X es (tGs X.K is)
theorem jQ:QGs X [] []:=yV.imp fun v σ H Q ⟨m,ρ,S,us,ρ',sr,lr,iu,hc,post⟩=>by
 cases us with
 |nil=>cases hc;exact⟨iu.of_nil,post m σ H .refl sr lr⟩
 |cons a r=>simp[gC]at hc
theorem cK{i:Nat}{is:List Nat}{es:List Expr}(h:WG X e (uA i))(h2:QGs X es is)(hs:(assignEach (e::es) X.env).map (·.2)=assign e X.env::(assignEach es X.env).map (·.2):=by rfl):QGs X (e::es) (i::is):=(ve h h2 hs).imp fun v σ H Q ⟨m,ρ,S,us,ρ',sr,lr,iu,hc,post⟩=>by
 cases us with
 |nil=>simp[gC]at hc
 |cons u r=>
  obtain⟨x,xr,rfl,i1,i2⟩:=iu.of_cons;exact⟨x,xr,rfl,m,ρ.set i (some u),S,r,ρ',sr,lr.set i i1,i2,hc,post⟩
def gTp(is:List Nat):CG:=fun u ρ S=>match u with
 |.tup us=>(gC is us ρ).bind fun ρ'=>some (ρ',S)
 |_=>none
theorem mW:∀{is:List Nat} {us:List U} {ρ ρ':Rho},gC is us ρ=some ρ'->us.length=is.length
 |[],[],_,_,_=>rfl
 |[],_::_,_,_,h=>by simp[gC]at h
 |_::_,[],_,_,h=>by simp[gC]at h
 |i::is,u::us,ρ,ρ',h=>by
  have:=mW (is:=is) (us:=us) h;simp[this]
theorem mZ{is:List Nat}{es:List Expr}{k:Nat}(hc:X.calm=true)(h:QGs X es is)(hn:(assignEach es X.env).length=is.length:=by rfl)(hst:(assignEach es X.env).findIdx? (·.1)=none:=by rfl):QG X (.Tuple es k pos) (gTp is):=(B1 hc h hn hst).imp fun v σ H Q hz=>LN hz fun m ρ S u ρ' S' sr lr iu hc post=>by
 cases u with
 |tup us=>
  obtain⟨ρ2,h1,h2⟩:=Q0.mp hc;cases h2;obtain⟨a,xs,rfl,sq,il⟩:=iu.of_tup;refine⟨a,xs,rfl,sq,?_,m,ρ,S,us,ρ',sr,lr,il,h1,post⟩;rw[il.length];exact mW h1
 |_=>simp[gTp]at hc
def Ex(ca:CE)(g:CG):CS:=fun ρ S=>(ca ρ S).bind fun p=>(g p.1 ρ p.2).bind fun q=>some (.nx,q.1,q.2)
theorem Ea{K:Q1}{g:CG}:∀D σ H,tS K (Ex ca g) D σ H->FL (tE K ca) (tG K g) D σ H:=by
 rintro D σ H ⟨m,ρ,S,o,ρ',S',sr,lr,hc,post⟩;obtain⟨⟨u,S1⟩,h1,h2⟩:=Q0.mp hc;obtain⟨⟨ρ2,S2⟩,h3,h4⟩:=Q0.mp h2;cases h4;exact⟨m,ρ,S,u,S1,sr,lr,h1,fun m1 v1 H1 e1 sr1 i1=>⟨m1,ρ,S1,u,_,_,sr1,lr.mono e1,i1,h3,gw.mono e1 post⟩⟩
theorem AX{tg:Expr}{g:CG}(he:QE X e ca)(hg:QG X tg g)(hs:swapsWithSole [tg] e pos.line X.env=pure false:=by rfl)(hw:swappedStores [tg] e X.env=pure none:=by rfl)
  (h1:(assignEach [tg] X.env).map (·.2)=[assign tg X.env]:=by rfl):QS X (.Assign [tg] e pos) (Ex ca g):=(vd he hg hs hw h1).imp Ea
def cY(i:Nat)(ca:CE):CS:=fun ρ S=>(ca ρ S).bind fun p=>some (.nx,ρ.set i (some p.1),p.2)
theorem aU{i:Nat}{x:Str}{pos':Pos}(hN:X.N.Nodup)(hi:X.N[i]?=some x)(hx:Loc X.env.scope x)(he:QE X e ca)(hs:swapsWith e (some (.Name x pos')) pos.line X.env=pure false:=by rfl)(hf:X.fn x=true\/X.env.scope.names.lookup x=some .local:=by first|exact .inl rfl|exact .inr rfl|assumption) :
  QS X (.Assign [.Name x pos'] e pos) (cY i ca):=(va hN hi hx he hs hf).imp fun D σ H hz=>qi hz fun m ρ S o ρ' S' sr lr hc post=>by
 obtain⟨⟨u,S1⟩,h1,h2⟩:=Q0.mp hc;cases h2;exact⟨m,ρ,S,u,_,sr,lr,h1,fun m1 v1 H1 e1 sr1 i1=>post m1 _ H1 e1 sr1 ((lr.mono e1).set i i1)⟩
abbrev CI:=Rho->Sto->Option (List U×(Sto->Prop)×Sto)
def yG(K:Q1)(J:It)(m:List Addr)(H:Hp)(us:List U)(ok:Sto->Prop):Prop:=∀m2 S2 H2 i,Ext K m H m2 H2->Sr K m2 S2 H2->ok S2->
 (∀u,us[i]?=some u->J.go i H2/\∀x H3,J.yld i H2 x H3->Ext K m2 H2 m2 H3/\Sr K m2 S2 H3/\Is K m2 H3 x u)/\(us.length<=i->J.stop i H2)
def tI(K:Q1)(ci:CI):TI:=fun σ H R=>∃m ρ S us ok S',Sr K m S H/\Lr K m H ρ σ/\ci ρ S=some (us,ok,S')/\∀m' H' J,Ext K m H m' H'->Sr K m' S' H'->yG K J m' H' us ok->R J H'
abbrev QI(X:Cx)(tg iter:Expr)(ci:CI):Prop:=WI X tg iter (tI X.K ci)
open Classical in
def eA(ok:Sto->Prop)(g:CG)(cb:CS):List U->CS
 |[]=>fun ρ S=>if ok S then some (.nx,ρ,S)else none
 |u::us=>fun ρ S=>if ok S then(g u ρ S).bind fun p=>(cb p.1 p.2).bind fun r=>match r.1 with
  |.nx=>eA ok g cb us r.2.1 r.2.2
  |.ct=>eA ok g cb us r.2.1 r.2.2
  |.bk=>some (.nx,r.2.1,r.2.2)
  |.rt v=>some (.rt v,r.2.1,r.2.2)else none
def nA(ci:CI)(g:CG)(cb:CS):CS:=fun ρ S=>(ci ρ S).bind fun p=>eA p.2.1 g cb p.1 ρ p.2.2
theorem md{α:Type}{us:List α}{i:Nat}{u:α}(h:us[i]?=some u):us.drop i=u::us.drop (i+1):=by
 obtain⟨hl,e⟩:=Q5.mp h;rw[List.drop_eq_getElem_cons hl,e]
theorem sD{K:Q1}{g:CG}{cb:CS}{J:It}{us:List U}{ok:Sto->Prop}{D:yI}{m1:List Addr}{H1:Hp}{ρ ρ':Rho}{σ:L2.St}{S1 S':Sto}{o:Out}(sr1:Sr K m1 S1 H1)(lr1:Lr K m1 H1 ρ σ)(ito:yG K J m1 H1 us ok)(h2:eA ok g cb us ρ S1=some (o,ρ',S'))(post:uR K m1 H1 D o ρ' S') :
  ∃W:Nat->Nat->L2.St->Hp->Prop,(∃n,W 0 n σ H1)/\∀i n σ H,W i n σ H->
   (J.stop i H/\D.nx σ H)\/(J.go i H/\∃N:L2.St->Hp->Prop,(∀σ' H',N σ' H'->∃n',n'<n/\W (i+1) n' σ' H')/\∀x H',J.yld i H x H'->tG K g x σ H' fun σ2 H2=>tS K cb { D with nx:=N,ct:=N,bk:=D.nx } σ2 H2):=by
 let W:Nat->Nat->L2.St->Hp->Prop:=fun i n σ2 H2=>n=us.length-i/\i<=us.length/\∃m2 ρ2 S2,Ext K m1 H1 m2 H2/\Sr K m2 S2 H2/\Lr K m2 H2 ρ2 σ2/\eA ok g cb (us.drop i) ρ2 S2=some (o,ρ',S')
 refine⟨W,⟨us.length,by simp,Z5 _,m1,ρ,S1,.refl,sr1,lr1,by simpa using h2⟩,?_⟩;rintro i n σ2 H2 ⟨rfl,hi,m2,ρ2,S2,e2,sr2,lr2,hl⟩;by_cases hlt:i<us.length
 ·have hu:=Q4 hlt;rw[md hu]at hl;unfold eA at hl;split at hl
  ·rename_i hok;obtain⟨⟨ρ3,S3⟩,h3,hl⟩:=Q0.mp hl;obtain⟨⟨o4,ρ4,S4⟩,h4,hl⟩:=Q0.mp hl;obtain⟨hgo,hy⟩:=(ito m2 S2 H2 i e2 sr2 hok).1 _ hu;refine .inr ⟨hgo,W (i+1) (us.length-(i+1)),fun σ' H' w'=>⟨_,by omega,w'⟩,fun x H3 y=>?_⟩;obtain⟨e3,sr3,ix⟩:=hy x H3 y;refine⟨m2,ρ2,S2,_,ρ3,S3,sr3,lr2.mono e3,ix,h3,fun m4 σ4 H4 e4 sr4 lr4=>⟨m4,ρ3,S3,o4,ρ4,S4,sr4,lr4,h4,?_⟩⟩;have e14:=(e2.trans e3).trans e4;have nxt:eA ok g cb (us.drop (i+1)) ρ4 S4=some (o,ρ',S')->gw K m4 H4 (W (i+1) (us.length-(i+1))) ρ4 S4:=fun hn m5 σ5 H5 e5 sr5 lr5=>⟨rfl,hlt,m5,ρ4,S4,e14.trans e5,sr5,lr5,hn⟩;cases o4 with
   |nx=>exact nxt hl
   |ct=>exact nxt hl
   |bk=>cases hl;exact gw.mono e14 post
   |rt v=>cases hl;exact iJ.mono e14 post
  ·cases hl
 ·have e:i=us.length:=by omega
  subst e;rw[List.drop_length]at hl;unfold eA at hl;split at hl
  ·rename_i hok;cases hl;exact .inl ⟨(ito m2 _ H2 _ e2 sr2 hok).2 (QX _),post m2 σ2 H2 e2 sr2 lr2⟩
  ·cases hl
theorem DP{K:Q1}{ci:CI}{g:CG}{cb:CS}:∀D σ H,tS K (nA ci g cb) D σ H->Ek (tI K ci) (tG K g) (tS K cb) D σ H:=by
 rintro D σ H ⟨m,ρ,S,o,ρ',S',sr,lr,hc,post⟩;obtain⟨⟨us,ok,S1⟩,h1,h2⟩:=Q0.mp hc;exact⟨m,ρ,S,us,ok,S1,sr,lr,h1,fun m1 H1 J e1 sr1 ito=>sD sr1 (lr.mono e1) ito h2 (uR.mono e1 post)⟩
theorem jq{tg iter:Expr}{body:List Stmt}{ci:CI}{g:CG}{cb:CS}(hp:PassesOwn (model X.prog X.w) X.A X.env X.xe)(hc:X.calm=true)(hi:QI X tg iter ci)(hg:QG X tg g)(hb:QSs X body cb)(hs:∀x,foldedSetIterable iter X.env x=pure x:=by intro _;rfl):QS X (.For tg iter body [] pos) (nA ci g cb):=(qp hp hc hi hg hb hs).imp DP
def ef(t:CT)(cb:CS):Nat->CS
 |0=>fun _ _=>none
 |n+1=>fun ρ S=>(t ρ S).bind fun p=>if p.1=true then(cb ρ p.2).bind fun r=>match r.1 with
  |.nx=>ef t cb n r.2.1 r.2.2
  |.ct=>ef t cb n r.2.1 r.2.2
  |.bk=>some (.nx,r.2.1,r.2.2)
  |.rt v=>some (.rt v,r.2.1,r.2.2)else some (.nx,ρ,p.2)
theorem vq{K:Q1}{t:CT}{cb:CS}{n:Nat}:∀D σ H,tS K (ef t cb n) D σ H->vF (tT K t) (tS K cb) D σ H:=by
 rintro D σ H ⟨m,ρ,S,o,ρ',S',sr,lr,hc,post⟩;let W:Nat->L2.St->Hp->Prop:=fun n σ2 H2=>∃m2 ρ2 S2,Ext K m H m2 H2/\Sr K m2 S2 H2/\Lr K m2 H2 ρ2 σ2/\ef t cb n ρ2 S2=some (o,ρ',S')
 refine⟨W,⟨n,m,ρ,S,.refl,sr,lr,hc⟩,?_⟩;rintro k σ2 H2 ⟨m2,ρ2,S2,e2,sr2,lr2,hl⟩;cases k with
 |zero=>cases hl
 |succ k=>
  unfold ef at hl;obtain⟨⟨x,S3⟩,h3,hl⟩:=Q0.mp hl;refine⟨m2,ρ2,S2,x,S3,sr2,lr2,h3,fun m3 H3 e3 sr3=>?_⟩;have e13:=e2.trans e3;cases x with
  |true=>
   rw[if_pos rfl]at hl;refine Ep ?_;obtain⟨⟨o4,ρ4,S4⟩,h4,hl⟩:=Q0.mp hl;refine⟨W k,fun σ' H' w'=>⟨k,Nat.lt_succ_self _,w'⟩,m3,ρ2,S3,o4,ρ4,S4,sr3,lr2.mono e3,h4,?_⟩;have nxt:ef t cb k ρ4 S4=some (o,ρ',S')->gw K m3 H3 (W k) ρ4 S4:=fun hn m5 σ5 H5 e5 sr5 lr5=>⟨m5,ρ4,S4,e13.trans e5,sr5,lr5,hn⟩;cases o4 with
   |nx=>exact nxt hl
   |ct=>exact nxt hl
   |bk=>cases hl;exact gw.mono e13 post
   |rt v=>cases hl;exact iJ.mono e13 post
  |false=>
   rw[if_neg QV]at hl;refine Er ?_;cases hl;exact post m3 σ2 H3 e13 sr3 (lr2.mono e3)
theorem zo{body:List Stmt}{t:CT}{cb:CS}(n:Nat)(hp:PassesOwn (model X.prog X.w) X.A X.env X.xe)(hc:QT X c t)(hb:QSs X body cb):QS X (.While c body [] pos) (ef t cb n):=(u9 hp hc hb).imp vq
def iTp(ca:CE):CI:=fun ρ S=>(ca ρ S).bind fun p=>match p.1 with
 |.tup us=>some (us,fun _=>True,p.2)
 |.ref l=>match p.2[l]? with
  |some (.lst us)=>some (us,fun S=>S[l]?=some (.lst us),p.2)
  |_=>none
 |_=>none
theorem Hn{K:Q1}{m:List Addr}{H:Hp}{us:List U}{a:Addr}{xs:List V}(sq:SqT K H a xs)(il:IsL K m H xs us):yG K (Itt K a) m H us (fun _=>True):=by
 intro m2 S2 H2 i e2 sr2 _;have sq2:=e2.keep.t _ _ sq;have il2:=il.mono e2;refine⟨fun u hu=>?_,fun hi=>⟨xs,sq2,by rw[il2.length];exact hi⟩⟩;obtain⟨x,hx,ix⟩:=il2.getD hu;refine⟨⟨xs,x,sq2,hx⟩,fun y H3 hy=>?_⟩;obtain⟨rfl,hy⟩:=hy;have:=hy xs sq2;rw[hx]at this;cases this;exact⟨.refl,sr2,ix⟩
theorem Ho{K:Q1}{m:List Addr}{H:Hp}{us:List U}{a:Addr}{l:Nat}(hl:m[l]?=some a):yG K (Itl K a) m H us (fun S=>S[l]?=some (.lst us)):=by
 intro m2 S2 H2 i e2 sr2 hok;obtain⟨a',ha',xs,hx,il⟩:=sr2.get hok;rw[e2.get hl]at ha';cases ha';refine⟨fun u hu=>?_,fun hi=>⟨xs,SqL.of hx,by rw[il.length];exact hi⟩⟩;obtain⟨x,hx',ix⟩:=il.getD hu;refine⟨⟨xs,x,SqL.of hx,hx'⟩,fun y H3 hy=>?_⟩;obtain⟨rfl,hy⟩:=hy;have:=hy xs (SqL.of hx);rw[hx']at this;cases this;exact⟨.refl,sr2,ix⟩
theorem e8{tg:Expr}(h:QE X e ca):QI X tg e (iTp ca):=((BZ h).or (yU h)).imp fun σ H R hz=>qi hz fun m ρ S us ok S' sr lr hc post=>by
 obtain⟨⟨u,S1⟩,h1,h2⟩:=Q0.mp hc;cases u with
 |tup ws=>
  cases h2;refine .inl ⟨m,ρ,S,.tup us,_,sr,lr,h1,fun m1 v1 H1 e1 sr1 i1=>?_⟩;obtain⟨a,xs,rfl,sq,il⟩:=i1.of_tup;exact⟨a,rfl,⟨xs,sq⟩,post m1 H1 _ e1 sr1 (Hn sq il)⟩
 |ref l=>
  simp only at h2;split at h2
  ·rename_i us' hS;cases h2;refine .inr ⟨m,ρ,S,.ref l,_,sr,lr,h1,fun m1 v1 H1 e1 sr1 i1=>?_⟩;obtain⟨a,hl,rfl⟩:=i1.of_ref;obtain⟨a',ha',xs,hx,il⟩:=sr1.get hS;rw[hl]at ha';cases ha';exact⟨a,rfl,⟨xs,SqL.of hx⟩,post m1 H1 _ e1 sr1 (Ho hl)⟩
  ·cases h2
 |_=>simp at h2
def cq(lo:Int)(n:Nat):List U:=(Qr n).map fun i=>.int (lo+(i:Nat))
theorem z9{K:Q1}{m:List Addr}{H:Hp}{lo:Int}{n:Nat}:yG K (Itr lo n) m H (cq lo n) (fun _=>True):=by
 intro m2 S2 H2 i e2 sr2 _;refine⟨fun u hu=>?_,fun hi=>by show n<=i;simpa [cq] using hi⟩;unfold cq at hu;rw[QC]at hu;by_cases c:i<n
 ·rw[List.getElem?_range c]at hu;simp at hu;subst hu;refine⟨c,fun y H3 hy=>?_⟩;obtain⟨rfl,rfl⟩:=hy;exact⟨.refl,sr2,.int_⟩
 ·rw[Z7 (by simpa using c)]at hu;cases hu
def cX(cr:CA):CI:=fun ρ S=>(cr ρ S).bind fun p=>match p.1 with
 |[.int j]=>if -(2^62)<=j/\j<2^62 then some (cq 0 j.toNat,fun _=>True,p.2)else none
 |_=>none
theorem fK{tg:Expr}{cr:CA}{p:Pos}(hg:Gl X "range")(hm:X.mg "range"=none)(ha:QA X [a] cr)(hs:starEach [a] X.env=[(false,eval a X.env)]:=by rfl):QI X tg (.Call (.Name "range" p) [a] [] pos) (cX cr):=(tW hg hm ha.h hs).imp fun σ H R hz=>qi hz fun m ρ S us ok S' sr lr hc post=>by
 obtain⟨⟨ws,S1⟩,h1,h2⟩:=Q0.mp hc;simp only at h2;split at h2
 ·rename_i j;split at h2
  ·rename_i hj;cases h2;refine⟨m,ρ,S,_,S',sr,lr,h1,fun m1 v1 H1 e1 sr1 i1=>?_⟩;obtain⟨x,r,rfl,ix,ir⟩:=i1.of_cons;rw[ir.of_nil,ix.of_int];exact⟨j,rfl,hj.1,hj.2,post m1 H1 _ e1 sr1 z9⟩
  ·cases h2
 ·cases h2
end
def fI(g:Int->Int->Option U):U->U->Sto->Option (U×Sto)
 |.int i,.int j,S=>(g i j).bind fun u=>some (u,S)
 |_,_,_=>none
section
variable{X:Cx}{K:Q1}
theorem Iw{C:Int->Int->Prop}{gV:Int->Int->V}{g:Int->Int->Option U}(h:∀i j u,g i j=some u->C i j/\∀m H,Is K m H (gV i j) u):OpP K (rI C gV) (fI g):=by
 intro m S H x y v w u S' Q sr ix iy hf post;cases x<;>cases y<;>simp only[fI]at hf<;>try cases hf
 rename_i i j;obtain⟨u1,h1,h2⟩:=Q0.mp hf;cases h2;obtain⟨hc,hi⟩:=h i j u h1;exact⟨i,j,ix.of_int,iy.of_int,hc,post m _ H .refl sr (hi m H)⟩
theorem zO{gV:Int->Int->V}{g:Int->Int->Option U}(h:∀i j u,g i j=some u->∀m H,Is K m H (gV i j) u):OpP K (rI0 gV) (fI g):=by
 intro m S H x y v w u S' Q sr ix iy hf post;cases x<;>cases y<;>simp only[fI]at hf<;>try cases hf
 rename_i i j;obtain⟨u1,h1,h2⟩:=Q0.mp hf;cases h2;exact⟨i,j,ix.of_int,iy.of_int,post m _ H .refl sr (h i j u h1 m H)⟩
def zm(K:Q1):R2:=fun x y H Q=>∃a b xs ys,x=.ref a/\y=.ref b/\SqT K H a xs/\SqT K H b ys/\xs.length+ys.length<=sizeLine/\∀q H',rl H H'->SqT K H' q (xs++ys)->Q (.ref q) H'
theorem Di:OpR X (binaryOp .Add) (zm X.K):=by
 intro pins s σ H x y v u Q I rx ry h;obtain⟨a,b,xs,ys,rfl,rfl,ha,hb,hz,q⟩:=h;by_cases e:xs=[]
 ·cases rx;cases ry;obtain⟨its,r1,p1,_⟩:=I.tuple ha;obtain⟨its2,r2,p2,_⟩:=I.tuple hb;refine Ar p1 p2 (r1.nil_iff.mpr e) ⟨.ref b,H,I,rfl,q b H (.refl _) (by rw[e];exact hb)⟩
 ·refine Dh pins s σ H _ _ v u Q I rx ry ⟨a,b,xs,ys,rfl,rfl,ha,hb,e,hz,fun z=>q a H (.refl _) (by rw[z,QB];exact ha),fun _ p hp=>q p _ (cV hp _) (SqT.of aG)⟩
def xJ:U->U->Sto->Option (U×Sto)
 |.tup a,.tup b,S=>if a.length+b.length<=LIM then some (.tup (a++b),S)else none
 |_,_,_=>none
theorem zM:OpP K (zm K) xJ:=by
 intro m S H x y v w u S' Q sr ix iy hf post;cases x<;>cases y<;>simp only[xJ]at hf<;>try cases hf
 split at hf<;>try cases hf
 rename_i hl;obtain⟨a,xs,rfl,sa,la⟩:=ix.of_tup;obtain⟨b,ys,rfl,sb,lb⟩:=iy.of_tup;refine⟨a,b,xs,ys,rfl,rfl,sa,sb,lim (by rw[la.length,lb.length];exact hl),fun q H' s sq=>?_⟩;exact post m _ H' (.of (fN s)) (sr.same s) (.tup_ sq ((la.append lb).mono (.of (fN s))))
def lZ:U->U->Sto->Option (U×Sto)
 |.ref l,.ref k,S=>match S[l]?,S[k]? with
  |some (.lst a),some (.lst b)=>if a.length+b.length<=LIM then some (.ref S.length,S++[.lst (a++b)])else none
  |_,_=>none
 |_,_,_=>none
theorem zP:OpP K Iu lZ:=by
 intro m S H x y v w u S' Q sr ix iy hf post;cases x<;>cases y<;>simp only[lZ]at hf<;>try cases hf
 rename_i l k;split at hf<;>try cases hf
 rename_i a b h1 h2;split at hf<;>try cases hf
 rename_i hl;obtain⟨p,hp,rfl⟩:=ix.of_ref;obtain⟨q,hq,rfl⟩:=iy.of_ref;obtain⟨p',hp',xs,hx,il⟩:=sr.get h1;obtain⟨q',hq',ys,hy,il'⟩:=sr.get h2;rw[hp]at hp';cases hp';rw[hq]at hq';cases hq';exact⟨p,q,xs,ys,rfl,rfl,hx,hy,lim (by rw[il.length,il'.length];exact hl),fun r hr=>fb sr (il.append il') post hr⟩
def xK:U->U->Sto->Option (U×Sto)
 |.str a,.str b,S=>if a.length+b.length<=LIM then some (.str (a++b),S)else none
 |_,_,_=>none
theorem zN:OpP K (fun x y H Q=>∃i j,x=.str i/\y=.str j/\i.length+j.length<=sizeLine/\Q (.str (i++j)) H) xK:=by
 intro m S H x y v w u S' Q sr ix iy hf post;cases x<;>cases y<;>simp only[xK]at hf<;>try cases hf
 split at hf<;>try cases hf
 rename_i hl;exact⟨_,_,ix.of_str,iy.of_str,lim hl,post m _ H .refl sr .str_⟩
def ke:U->U->Sto->Option (U×Sto)
 |.int i,.int j,S=>some (.int (i+j),S)
 |.tup a,.tup b,S=>if a.length+b.length<=LIM then some (.tup (a++b),S)else none
 |.str a,.str b,S=>if a.length+b.length<=LIM then some (.str (a++b),S)else none
 |.ref l,.ref k,S=>lZ (.ref l) (.ref k) S
 |_,_,_=>none
theorem iV:OpR X (binaryOp .Add) (fun x y H Q=>rI0 (fun i j=>.int (i+j)) x y H Q\/(Iu x y H Q\/(zm X.K x y H Q\/∃i j,x=.str i/\y=.str j/\i.length+j.length<=sizeLine/\Q (.str (i++j)) H))):=GQ.or (GP.or (Di.or ud))
theorem iU:OpP K (fun x y H Q=>rI0 (fun i j=>.int (i+j)) x y H Q\/(Iu x y H Q\/(zm K x y H Q\/∃i j,x=.str i/\y=.str j/\i.length+j.length<=sizeLine/\Q (.str (i++j)) H))) ke:=by
 intro m S H x y v w u S' Q sr ix iy hf post;cases x<;>cases y<;>simp only[ke]at hf<;>try cases hf
 ·exact .inl ⟨_,_,ix.of_int,iy.of_int,post m _ H .refl sr .int_⟩
 ·exact .inr (.inr (.inr (zN m S H _ _ v w u S' Q sr ix iy hf post)))
 ·exact .inr (.inr (.inl (zM m S H _ _ v w u S' Q sr ix iy hf post)))
 ·exact .inr (.inl (zP m S H _ _ v w u S' Q sr ix iy hf post))
def HH:=fI fun i j=>some (.int (i-j))
theorem GH:OpP K (rI0 fun i j=>.int (i-j)) HH:=zO fun i j u h m H=>by cases h;exact .int_
instance {i j:Int}:Decidable (By i j):=by unfold By;exact inferInstance
def lY:=fI fun i j=>if By i j then some (.int (i*j))else none
theorem o7:OpP K (rI By fun i j=>.int (i*j)) lY:=Iw fun i j u h=>by
 split at h
 ·rename_i c;cases h;exact⟨c,fun m H=>.int_⟩
 ·cases h
instance {i j:Int}:Decidable (uW i j):=by unfold uW;exact inferInstance
def Ak:=fI fun i j=>if uW i j then some (.int (i / j))else none
theorem Dd:OpP K (rI uW fun i j=>.int (i / j)) Ak:=Iw fun i j u h=>by
 split at h
 ·rename_i c;cases h;exact⟨c,fun m H=>.int_⟩
 ·cases h
def pL:=fI fun i j=>if 0<j then some (.int (i % j))else none
theorem qC:OpP K (rI (fun _ j=>0<j) fun i j=>.int (i % j)) pL:=Iw fun i j u h=>by
 split at h
 ·rename_i c;cases h;exact⟨c,fun m H=>.int_⟩
 ·cases h
instance {i j:Int}:Decidable (ED i j):=by unfold ED;exact inferInstance
def Es:=fI fun i j=>if ED i j then some (.int (i^j.toNat))else none
theorem GI:OpP K (rI ED fun i j=>.int (i^j.toNat)) Es:=Iw fun i j u h=>by
 split at h
 ·rename_i c;cases h;exact⟨c,fun m H=>.int_⟩
 ·cases h
def fLt:=fI fun i j=>some (.bl (decide (i<j)))
def fLe:=fI fun i j=>some (.bl (decide (i<=j)))
def fGt:=fI fun i j=>some (.bl (decide (j<i)))
def fGe:=fI fun i j=>some (.bl (decide (j<=i)))
theorem Kk:OpP K (rI0 fun i j=>.bl (decide (i<j))) fLt:=zO fun i j u h m H=>by cases h;exact .bl_
theorem Kn:OpP K (rI0 fun i j=>.bl (decide (j<i))) fGt:=zO fun i j u h m H=>by cases h;exact .bl_
theorem Ms:OpP K (rI0 fun i j=>.bl (decide (j<=i))) fGe:=zO fun i j u h m H=>by cases h;exact .bl_
def eqS:U->U->Option Bool
 |.int i,.int j=>some (decide (i=j))
 |.bl i,.bl j=>some (decide (i=j))
 |.str i,.str j=>some (decide (i=j))
 |.non,.non=>some true
 |.non,.int _=>some false|.int _,.non=>some false
 |.non,.bl _=>some false|.bl _,.non=>some false
 |.non,.str _=>some false|.str _,.non=>some false
 |.int _,.str _=>some false|.str _,.int _=>some false
 |.bl _,.str _=>some false|.str _,.bl _=>some false
 |_,_=>none
def fEq:U->U->Sto->Option (U×Sto):=fun x y S=>(eqS x y).bind fun b=>some (.bl b,S)
def fNe:U->U->Sto->Option (U×Sto):=fun x y S=>(eqS x y).bind fun b=>some (.bl (!b),S)
theorem Bm{m:List Addr}{H:Hp}{x y:U}{v w:V}{b:Bool}(ix:Is K m H v x)(iy:Is K m H w y)(h:eqS x y=some b):J2 v w=true/\decide (v=w)=b:=by
 cases x<;>cases y<;>simp only[eqS]at h<;>(first|cases h|skip);all_goals
  (first|(have e1:=ix.of_int)|(have e1:=ix.of_bl)|(have e1:=ix.of_str)|(have e1:=ix.of_non))
  (first|(have e2:=iy.of_int)|(have e2:=iy.of_bl)|(have e2:=iy.of_str)|(have e2:=iy.of_non))
  subst e1 e2;exact⟨rfl,by simp⟩
theorem sh:OpP K rEq fEq:=by
 intro m S H x y v w u S' Q sr ix iy hf post;obtain⟨b,h1,h2⟩:=Q0.mp hf;cases h2;obtain⟨e1,e2⟩:=Bm ix iy h1;exact⟨e1,by rw[e2];exact post m _ H .refl sr .bl_⟩
theorem A2:OpP K rNe fNe:=by
 intro m S H x y v w u S' Q sr ix iy hf post;obtain⟨b,h1,h2⟩:=Q0.mp hf;cases h2;obtain⟨e1,e2⟩:=Bm ix iy h1;exact⟨e1,by rw[e2];exact post m _ H .refl sr .bl_⟩
def xl:U->Bool
 |.non=>true
 |_=>false
def HI:U->U->Sto->Option (U×Sto)
 |x,.non,S=>some (.bl (xl x),S)
 |_,_,_=>none
def qQ:U->U->Sto->Option (U×Sto)
 |x,.non,S=>some (.bl (!xl x),S)
 |_,_,_=>none
theorem sP{m:List Addr}{H:Hp}{x:U}{v:V}(ix:Is K m H v x):decide (v=.non)=xl x:=by
 cases x with
 |non=>rw[ix.of_non];rfl
 |bl b=>rw[ix.of_bl];rfl
 |int i=>rw[ix.of_int];rfl
 |str i=>rw[ix.of_str];rfl
 |tup us=>obtain⟨a,xs,rfl,_⟩:=ix.of_tup;rfl
 |ref l=>obtain⟨a,_,rfl⟩:=ix.of_ref;rfl
 |kl ns=>obtain⟨a,rfl,_⟩:=ix.of_kl;rfl
theorem Kl:OpP K (fun x y H Q=>y=.non/\Q (.bl (decide (x=.non))) H) HI:=by
 intro m S H x y v w u S' Q sr ix iy hf post;cases y<;>simp only[HI]at hf<;>cases hf;exact⟨iy.of_non,by rw[sP ix];exact post m _ H .refl sr .bl_⟩
theorem A1:OpP K (fun x y H Q=>y=.non/\Q (.bl (!decide (x=.non))) H) qQ:=by
 intro m S H x y v w u S' Q sr ix iy hf post;cases y<;>simp only[qQ]at hf<;>cases hf;exact⟨iy.of_non,by rw[sP ix];exact post m _ H .refl sr .bl_⟩
section
variable{κ:Type}[DecidableEq κ]
def aR{α:Type}(kvs:List (κ×α))(k:κ):Option α:=(kvs.find? fun kv=>decide (kv.1=k)).map (·.2)
def fj{α:Type}(kvs:List (κ×α))(k:κ)(v:α):List (κ×α):=
 if (kvs.any fun kv=>decide (kv.1=k))=true then kvs.map (fun kv=>if kv.1=k then(kv.1,v)else kv)else kvs++[(k,v)]
variable{m:List Addr}{H:Hp}{kvs:List (κ×V)}{kus:List (κ×U)}{k:κ}{v:V}{u:U}
theorem IsP.val(h:IsP K m H kvs kus):Rf K m H (iB kvs k) (aR kus k):=by
 refine IsP.ind (P:=fun kvs kus=>Rf K m H (iB kvs k) (aR kus k)) trivial (fun k' v u kvs kus i _ ih=>?_) h;by_cases e:k'=k
 ·subst e;simp[iB,aR,Qp,Rf,i]
 ·simp only[iB,aR,Qp,decide_eq_false e]at ih ⊢;exact ih
theorem IsP.any_(h:IsP K m H kvs kus):(kvs.any fun kv=>decide (kv.1=k))=(kus.any fun kv=>decide (kv.1=k)):=
 IsP.ind (P:=fun kvs kus=>(kvs.any fun kv=>decide (kv.1=k))=(kus.any fun kv=>decide (kv.1=k))) rfl (fun k' v u kvs kus i _ ih=>by simp only[Z9,ih]) h
theorem IsP.append{kvs':List (κ×V)}{kus':List (κ×U)}(h:IsP K m H kvs kus)(h':IsP K m H kvs' kus'):IsP K m H (kvs++kvs') (kus++kus'):=⟨by simp[h.1,h'.1],by simpa using h.2.append h'.2⟩
theorem IsP.put(h:IsP K m H kvs kus)(i:Is K m H v u):IsP K m H (oH kvs k v) (fj kus k u):=by
 unfold oH fj;rw[h.any_];split
 ·refine IsP.ind (P:=fun kvs kus=>IsP K m H (kvs.map fun kv=>if kv.1=k then(kv.1,v)else kv) (kus.map fun kv=>if kv.1=k then(kv.1,u)else kv)) .nil_ (fun k' v' u' kvs kus i' _ ih=>?_) h;simp only[QJ];by_cases e:k'=k
  ·simp only[e,if_true];exact .cons_ i ih
  ·simp only[e,if_false];exact .cons_ i' ih
 ·exact h.append (.cons_ i .nil_)
end
def km:U->Option Key
 |.int i=>some (.inl i)
 |.str x=>some (.inr x)
 |_=>none
theorem iY{m:List Addr}{H:Hp}{x:U}{v:V}{k:Key}(ix:Is K m H v x)(h:km x=some k):v=kV k:=by
 cases x<;>simp only[km]at h<;>cases h
 ·exact ix.of_int
 ·exact ix.of_str
def g6:U->Bool
 |.non=>true|.bl _=>true|.int _=>true|.str _=>true|_=>false
def eqF:U->U->Bool
 |.non,.non=>true
 |.bl a,.bl b=>a == b
 |.bl a,.int b=>(if a then 1 else 0) == b
 |.int a,.bl b=>a == (if b then 1 else 0)
 |.int a,.int b=>a == b
 |.str a,.str b=>a == b
 |_,_=>false
def inU(x:U)(us:List U):Bool:=us.any fun y=>eqF y x
theorem qO{m:List Addr}{H:Hp}{x:U}{v:V}(ix:Is K m H v x)(h:g6 x=true):mL v=true:=by
 cases x with
 |non=>rw[ix.of_non];rfl
 |bl b=>rw[ix.of_bl];rfl
 |int i=>rw[ix.of_int];rfl
 |str i=>rw[ix.of_str];rfl
 |tup us=>cases h
 |ref l=>cases h
 |kl l=>cases h
theorem HN{m:List Addr}{H:Hp}{x y:U}{v w:V}(ix:Is K m H v x)(iy:Is K m H w y)(hx:g6 x=true)(hy:g6 y=true):eqV v w=eqF x y:=by
 cases x<;>(first|cases hx|skip)<;>cases y<;>(first|cases hy|skip);all_goals
  (first|(have e1:=ix.of_int)|(have e1:=ix.of_bl)|(have e1:=ix.of_str)|(have e1:=ix.of_non))
  (first|(have e2:=iy.of_int)|(have e2:=iy.of_bl)|(have e2:=iy.of_str)|(have e2:=iy.of_non))
  subst e1 e2;rfl
theorem og{m:List Addr}{H:Hp}:∀{xs:List V} {us:List U},IsL K m H xs us->us.all g6=true->xs.all mL=true
 |xs,[],h,_=>by rw[h.of_nil];rfl
 |xs,u::us,h,k=>by
  obtain⟨x,r,rfl,i,t⟩:=h.of_cons;rw[ZV,Qs]at k ⊢;exact⟨qO i k.1,og t k.2⟩
theorem xv{m:List Addr}{H:Hp}{x:U}{v:V}(ix:Is K m H v x)(hx:g6 x=true):∀{xs:List V} {us:List U},IsL K m H xs us->us.all g6=true->inV v xs=inU x us
 |xs,[],h,_=>by rw[h.of_nil];rfl
 |xs,u::us,h,k=>by
  obtain⟨y,r,rfl,i,t⟩:=h.of_cons;rw[ZV,Qs]at k;have ih:=xv ix hx t k.2;unfold inV inU at ih ⊢;rw[Z9,Z9,ih,HN i ix k.1 hx]
theorem _root_.L2.DGet.kz{H:Hp}{a:Addr}{ob:Obj}{kvs:List (Key×V)}{k:Key}(e:H a=some (.frz ob (.dK kvs))):DGet H a (kV k) (iB kvs k):=.inl ⟨kvs,k,.inr ⟨ob,e⟩,rfl,rfl⟩
def fIn(neg:Bool):U->U->Sto->Option (U×Sto):=fun x y S=>match y with
 |.tup us=>if g6 x=true/\us.all g6=true then some (.bl (if neg then !inU x us else inU x us),S)else none
 |.ref l=>match S[l]? with
  |some (.lst us)=>if g6 x=true/\us.all g6=true then some (.bl (if neg then !inU x us else inU x us),S)else none
  |some (.dic kus)=>(km x).bind fun k=>some (.bl (if neg then !(aR kus k).isSome else(aR kus k).isSome),S)
  |some (.fdc ep kus)=>(km x).bind fun k=>some (.bl (if neg then !(aR kus k).isSome else(aR kus k).isSome),S)
  |_=>none
 |_=>none
theorem Rf.isSome{m:List Addr}{H:Hp}{v:Option V}{u:Option U}(h:Rf K m H v u):v.isSome=u.isSome:=by
 cases v<;>cases u<;>first|rfl|exact h.elim
theorem xt{ca cb:CE}{neg:Bool}(t2:TE->TE->TE)(h2:∀ta tb σ H Q,(ta σ H fun y H1=>tb σ H1 fun x H2=>∃a o,x=.ref a/\DGet H2 a y o/\Q (.bl (if neg then !o.isSome else o.isSome)) H2)->t2 ta tb σ H Q):∀σ H Q,tE K (cOp (fIn neg) ca cb) σ H Q->tOp (rIn K neg) (tE K ca) (tE K cb) σ H Q\/t2 (tE K ca) (tE K cb) σ H Q:=by
 rintro σ H Q ⟨m,ρ,S,u,S',sr,lr,hc,post⟩;obtain⟨⟨x,S1⟩,h1,h⟩:=Q0.mp hc;obtain⟨⟨y,S2⟩,h3,h4⟩:=Q0.mp h;cases y with
 |tup us=>
  simp only[fIn]at h4;split at h4<;>try cases h4
  rename_i hf;refine .inl ⟨m,ρ,S,x,S1,sr,lr,h1,fun m1 v1 H1 e1 sr1 i1=>⟨m1,ρ,S1,.tup us,S',sr1,lr.mono e1,h3,fun m2 v2 H2 e2 sr2 i2=>?_⟩⟩;obtain⟨a,xs,rfl,sa,la⟩:=i2.of_tup;refine⟨a,xs,rfl,.inr sa,qO (i1.mono e2) hf.1,og la hf.2,?_⟩;rw[xv (i1.mono e2) hf.1 la hf.2];exact post m2 _ H2 (e1.trans e2) sr2 .bl_
 |ref l=>
  simp only[fIn]at h4;split at h4<;>try cases h4
  ·rename_i us hS;split at h4<;>try cases h4
   rename_i hf;refine .inl ⟨m,ρ,S,x,S1,sr,lr,h1,fun m1 v1 H1 e1 sr1 i1=>⟨m1,ρ,S1,.ref l,S',sr1,lr.mono e1,h3,fun m2 v2 H2 e2 sr2 i2=>?_⟩⟩;obtain⟨a,ha,rfl⟩:=i2.of_ref;obtain⟨a',ha',xs,hx,la⟩:=sr2.get hS;rw[ha]at ha';cases ha';refine⟨a,xs,rfl,.inl (SqL.of hx),qO (i1.mono e2) hf.1,og la hf.2,?_⟩;rw[xv (i1.mono e2) hf.1 la hf.2];exact post m2 _ H2 (e1.trans e2) sr2 .bl_
  ·rename_i kus hS;obtain⟨k,hk,h5⟩:=Q0.mp h4;cases h5;refine .inr (h2 _ _ _ _ _ ⟨m,ρ,S,x,S1,sr,lr,h1,fun m1 v1 H1 e1 sr1 i1=>⟨m1,ρ,S1,.ref l,S',sr1,lr.mono e1,h3,fun m2 v2 H2 e2 sr2 i2=>?_⟩⟩);obtain⟨a,ha,rfl⟩:=i2.of_ref;obtain⟨a',ha',kvs,hx,ip⟩:=sr2.get hS;rw[ha]at ha';cases ha';have ek:=iY (i1.mono e2) hk;subst ek;refine⟨a,_,rfl,DGet.k hx,?_⟩;rw[(IsP.val ip).isSome];exact post m2 _ H2 (e1.trans e2) sr2 .bl_
  ·rename_i ep kus hS;obtain⟨k,hk,h5⟩:=Q0.mp h4;cases h5;refine .inr (h2 _ _ _ _ _ ⟨m,ρ,S,x,S1,sr,lr,h1,fun m1 v1 H1 e1 sr1 i1=>⟨m1,ρ,S1,.ref l,S',sr1,lr.mono e1,h3,fun m2 v2 H2 e2 sr2 i2=>?_⟩⟩);obtain⟨a,ha,rfl⟩:=i2.of_ref;obtain⟨a',ha',ob,es,kvs,hx,hd,ip⟩:=sr2.get hS;rw[ha]at ha';cases ha';have ek:=iY (i1.mono e2) hk;subst ek;refine⟨a,_,rfl,DGet.kz hx,?_⟩;rw[(IsP.val ip).isSome];exact post m2 _ H2 (e1.trans e2) sr2 .bl_
 |_=>simp[fIn]at h4
variable{e a b:Expr}{ca cb:CE}{pos:Pos}
theorem Mr(hu:X.A.units+1<cLine)(ha:QE X a ca)(hb:QE X b cb)(hm:behindInMarks .In b=false):QE X (.Compare a [.In] [b] pos) (cOp (fIn false) ca cb):=
 ((rJ pd ha hb hm).or (B6 (vo hu ha hb) hm)).imp (xt (neg:=false) Ir fun _ _ _ _ _ h=>h)
theorem FX(hu:X.A.units+1<cLine)(ha:QE X a ca)(hb:QE X b cb)(hm:behindInMarks .In b=false):QT X (.Compare a [.In] [b] pos) (aL (cOp (fIn false) ca cb)):=
 ((nG pd ha hb hm).or (qo (vo hu ha hb) hm)).imp (jg (xt (neg:=false) Ir fun _ _ _ _ _ h=>h))
theorem rY(hu:X.A.units+1<cLine)(ha:QE X a ca)(hb:QE X b cb)(hm:behindInMarks .NotIn b=false):QT X (.Compare a [.NotIn] [b] pos) (aL (cOp (fIn true) ca cb)):=
 ((nG o8 ha hb hm).or (qo (tX hu ha hb) hm)).imp (jg (xt (neg:=true) qy fun _ _ _ _ _ h=>h))
def fIx:U->U->Sto->Option (U×Sto):=fun x y S=>match x with
 |.tup us=>match y with
  |.int i=>(atI us i).bind fun u=>some (u,S)
  |_=>none
 |.ref l=>match S[l]? with
  |some (.lst us)=>(match y with
   |.int i=>(atI us i).bind fun u=>some (u,S)
   |_=>none)
  |some (.dic kus)=>(km y).bind fun k=>(aR kus k).bind fun u=>some (u,S)
  |some (.fdc ep kus)=>(km y).bind fun k=>(aR kus k).bind fun u=>some (u,S)
  |_=>none
 |.kl ns=>match y with
  |.int i=>(atI (ns.map U.int) i).bind fun u=>some (u,S)
  |_=>none
 |_=>none
theorem sR{K:Q1}{m:List Addr}{H:Hp}:∀ns:List Int,IsL K m H (ns.map V.int) (ns.map U.int)
 |[]=>.nil_
 |n::ns=>.cons_ .int_ (sR ns)
theorem yv{m:List Addr}{H:Hp}{xs:List V}{us:List U}{i:Int}{u:U}(l:IsL K m H xs us)(h:atI us i=some u):∃v,atI xs i=some v/\Is K m H v u:=by
 unfold atI at h ⊢;rw[l.length];obtain⟨j,e1,e2⟩:=Q0.mp h;rw[e1];obtain⟨v,e3,e4⟩:=l.getD e2;exact⟨v,e3,e4⟩
theorem bJ(hu:X.A.units+1<cLine)(ha:QE X a ca)(hb:QE X b cb)(hs:rm b)(hs2:EB b):QE X (.Subscript a b pos) (cOp fIx ca cb):=
 ((Fy (Dz.or Hm) ha hb hs).or (yZ hu ha hb hs2)).imp fun σ H Q hz=>kf hz fun m ρ S u S' sr lr hc post=>by
 obtain⟨⟨x,S1⟩,h1,h⟩:=Q0.mp hc;obtain⟨⟨y,S2⟩,h3,h4⟩:=Q0.mp h;cases x with
 |tup us=>
  simp only[fIx]at h4;split at h4<;>try cases h4
  rename_i i;obtain⟨w,hw,h5⟩:=Q0.mp h4;cases h5;refine .inl ⟨m,ρ,S,_,S1,sr,lr,h1,fun m1 v1 H1 e1 sr1 i1=>⟨m1,ρ,S1,_,S',sr1,lr.mono e1,h3,fun m2 v2 H2 e2 sr2 i2=>.inr ?_⟩⟩;obtain⟨a,xs,rfl,sa,la⟩:=(i1.mono e2).of_tup;obtain⟨z,ez,iz⟩:=yv la hw;exact⟨a,xs,i,z,rfl,i2.of_int,sa,ez,post m2 _ H2 (e1.trans e2) sr2 iz⟩
 |ref l=>
  simp only[fIx]at h4;split at h4<;>try cases h4
  ·rename_i us hS;split at h4<;>try cases h4
   rename_i i;obtain⟨w,hw,h5⟩:=Q0.mp h4;cases h5;refine .inl ⟨m,ρ,S,_,S1,sr,lr,h1,fun m1 v1 H1 e1 sr1 i1=>⟨m1,ρ,S1,_,S',sr1,lr.mono e1,h3,fun m2 v2 H2 e2 sr2 i2=>.inl ?_⟩⟩;obtain⟨a,ha,rfl⟩:=(i1.mono e2).of_ref;obtain⟨a',ha',xs,hx,la⟩:=sr2.get hS;rw[ha]at ha';cases ha';obtain⟨z,ez,iz⟩:=yv la hw;exact⟨a,xs,i,z,rfl,i2.of_int,SqL.of hx,ez,post m2 _ H2 (e1.trans e2) sr2 iz⟩
  ·rename_i kus hS;obtain⟨k,hk,h5⟩:=Q0.mp h4;obtain⟨w,hw,h6⟩:=Q0.mp h5;cases h6;refine .inr ⟨m,ρ,S,_,S1,sr,lr,h1,fun m1 v1 H1 e1 sr1 i1=>⟨m1,ρ,S1,_,S',sr1,lr.mono e1,h3,fun m2 v2 H2 e2 sr2 i2=>?_⟩⟩;obtain⟨a,ha,rfl⟩:=(i1.mono e2).of_ref;obtain⟨a',ha',kvs,hx,ip⟩:=sr2.get hS;rw[ha]at ha';cases ha';have ek:=iY i2 hk;subst ek;have rf:=IsP.val (k:=k) ip;rw[hw]at rf;cases hv:iB kvs k with
   |none=>rw[hv]at rf;exact rf.elim
   |some z=>
    rw[hv]at rf;exact⟨a,z,rfl,by have:=DGet.k (k:=k) hx;rw[hv]at this;exact this,post m2 _ H2 (e1.trans e2) sr2 rf⟩
  ·rename_i ep kus hS;obtain⟨k,hk,h5⟩:=Q0.mp h4;obtain⟨w,hw,h6⟩:=Q0.mp h5;cases h6;refine .inr ⟨m,ρ,S,_,S1,sr,lr,h1,fun m1 v1 H1 e1 sr1 i1=>⟨m1,ρ,S1,_,S',sr1,lr.mono e1,h3,fun m2 v2 H2 e2 sr2 i2=>?_⟩⟩;obtain⟨a,ha,rfl⟩:=(i1.mono e2).of_ref;obtain⟨a',ha',ob,es,kvs,hx,hd,ip⟩:=sr2.get hS;rw[ha]at ha';cases ha';have ek:=iY i2 hk;subst ek;have rf:=IsP.val (k:=k) ip;rw[hw]at rf;cases hv:iB kvs k with
   |none=>rw[hv]at rf;exact rf.elim
   |some z=>
    rw[hv]at rf;exact⟨a,z,rfl,by have:=DGet.kz (k:=k) hx;rw[hv]at this;exact this,post m2 _ H2 (e1.trans e2) sr2 rf⟩
 |kl ns=>
  simp only[fIx]at h4;split at h4<;>try cases h4
  rename_i i;obtain⟨w,hw,h5⟩:=Q0.mp h4;cases h5;refine .inl ⟨m,ρ,S,_,S1,sr,lr,h1,fun m1 v1 H1 e1 sr1 i1=>⟨m1,ρ,S1,_,S',sr1,lr.mono e1,h3,fun m2 v2 H2 e2 sr2 i2=>.inl ?_⟩⟩;obtain⟨a,rfl,ka⟩:=(i1.mono e2).of_kl;obtain⟨z,ez,iz⟩:=yv (sR (K:=X.K) (m:=m2) (H:=H2) ns) hw;exact⟨a,_,i,z,rfl,i2.of_int,ka.sq,ez,post m2 _ H2 (e1.trans e2) sr2 iz⟩
 |_=>simp[fIx]at h4
def lX:U->U->U->Sto->Option Sto:=fun o i v S=>match o with
 |.ref l=>match S[l]? with
  |some (.lst us)=>(match i with
   |.int k=>(ixN us.length k).bind fun j=>some (S.set l (.lst (us.set j v)))
   |_=>none)
  |some (.dic kus)=>(km i).bind fun k=>if kus.length<LIM then some (S.set l (.dic (fj kus k v)))else none
  |_=>none
 |_=>none
def d5(co ci cv:CE):CS:=fun ρ S=>(cv ρ S).bind fun p=>(co ρ p.2).bind fun q=>(ci ρ q.2).bind fun r=>(lX q.1 r.1 p.1 r.2).bind fun S'=>some (.nx,ρ,S')
theorem cw{o i:Expr}{co ci cv:CE}{pos':Pos}(hu:X.A.units+1<cLine)(ho:QE X o co)(hi:QE X i ci)(hv:QE X e cv)
  (hs0:swapsWithSole [.Subscript o i pos'] e pos.line X.env=pure false:=by rfl) (hw:swappedStores [.Subscript o i pos'] e X.env=pure none:=by rfl)
  (h1:(assignEach [.Subscript o i pos'] X.env).map (·.2)=[assign (.Subscript o i pos') X.env]:=by rfl)
  (hs:swapsWith e (some (.Subscript o i pos')) pos.line X.env=pure false:=by rfl)
  (ha:∀v,assign (.Subscript o i pos') X.env v=(do
   let ov <-holding [v] (eval o X.env)
   let iv <-holding [v,ov] (eval i X.env)
   standAt pos'
   holding [v,ov,iv] (setItem ov iv v)
   release [v,ov,iv] []):=by intro _;rfl):QS X (.Assign [.Subscript o i pos'] e pos) (d5 co ci cv):=
 ((vd hv (B2 ho hi zi ha) hs0 hw h1).or (rF hu ho hi hv hs)).imp fun D σ H hz=>qi hz fun m ρ S o ρ' S' sr lr hc post=>by
 obtain⟨⟨v,S1⟩,h1,h⟩:=Q0.mp hc;obtain⟨⟨ou,S2⟩,h2,h⟩:=Q0.mp h;obtain⟨⟨iu,S3⟩,h3,h⟩:=Q0.mp h;obtain⟨S4,h4,h⟩:=Q0.mp h;cases h;cases ou with
 |ref l=>
  simp only[lX]at h4;split at h4<;>try cases h4
  ·rename_i us hS;split at h4<;>try cases h4
   rename_i k;obtain⟨j,hj,h5⟩:=Q0.mp h4;cases h5;refine .inl ⟨m,ρ,S,v,S1,sr,lr,h1,fun m1 v1 H1 e1 sr1 i1=>⟨m1,ρ,S1,_,S2,sr1,lr.mono e1,h2,fun m2 v2 H2 e2 sr2 i2=>⟨m2,ρ,S2,_,S3,sr2,lr.mono (e1.trans e2),h3,fun m3 v3 H3 e3 sr3 i3=>?_⟩⟩⟩;obtain⟨a,ha,rfl⟩:=(i2.mono e3).of_ref;obtain⟨a',ha',xs,hx,la⟩:=sr3.get hS;rw[ha]at ha';cases ha';have e13:=(e1.trans e2).trans e3;have ek:Ext X.K m3 H3 m3 (upd H3 a (.lst (xs.set j v1))):=.of (sr3.keep ha _);refine⟨a,xs,k,j,rfl,i3.of_int,hx,by rw[la.length];exact hj,post m3 σ _ (e13.trans ek) (sr3.put ha ⟨_,aG,((la.set (i1.mono (e2.trans e3)))).mono ek⟩) (lr.mono (e13.trans ek))⟩
  ·rename_i kus hS;obtain⟨k,hk,h5⟩:=Q0.mp h4;split at h5<;>try cases h5
   have ed:kus.length<LIM:=by assumption
   refine .inr ⟨m,ρ,S,v,S1,sr,lr,h1,fun m1 v1 H1 e1 sr1 i1=>⟨m1,ρ,S1,_,S2,sr1,lr.mono e1,h2,fun m2 v2 H2 e2 sr2 i2=>⟨m2,ρ,S2,_,S3,sr2,lr.mono (e1.trans e2),h3,fun m3 v3 H3 e3 sr3 i3=>?_⟩⟩⟩;obtain⟨a,ha,rfl⟩:=(i2.mono e3).of_ref;obtain⟨a',ha',kvs,hx,ip⟩:=sr3.get hS;rw[ha]at ha';cases ha';have ek:=iY i3 hk;subst ek;have e13:=(e1.trans e2).trans e3;have ee:Ext X.K m3 H3 m3 (upd H3 a (.dK (oH kvs k v1))):=.of (sr3.keep ha _);exact⟨a,_,rfl,Bx.k hx (Eo (by rw[IsP.length ip];exact ed)),post m3 σ _ (e13.trans ee) (sr3.put ha ⟨_,aG,(IsP.put ip (i1.mono (e2.trans e3))).mono ee⟩) (lr.mono (e13.trans ee))⟩
 |_=>simp[lX]at h4
end
theorem jt{α:Type}[DecidableEq α]:∀{l l':List α},l.Nodup->(∀x∈l,x∈l')->l.length<=l'.length
 |[],_,_,_=>Z5 _
 |x::r,l',nd,s=>by
  obtain⟨h1,h2⟩:=ZX.mp nd;have hx:=s x Qx;have:=jt (l:=r) (l':=l'.erase x) h2 fun y hy=>(List.mem_erase_of_ne (fun z=>h1 (by rw[<-z];exact hy))).mpr (s y (Qq _ hy));rw[List.length_erase_of_mem hx]at this;have hp:=List.length_pos_of_mem hx;rw[QU];omega
theorem eS(f:Str)(v:V):∀fs:List (Str×V),(mI f v fs).map (·.1)=if f∈fs.map (·.1)then fs.map (·.1)else fs.map (·.1)++[f]
 |[]=>by simp[mI]
 |(g,x)::r=>by
  unfold mI;by_cases e:g=f
  ·simp[e]
  ·have ih:=eS f v r;rw[if_neg e,QJ,QJ,ih];by_cases c:f∈r.map (·.1)
   ·rw[if_pos c,if_pos (Qq _ c)]
   ·rw[if_neg c,if_neg (fun z=>by rcases QD.mp z with z|z;exact e z.symm;exact c z)];rfl
section
variable{X:Cx}{K:Q1}{m:List Addr}{H:Hp}{c:Cl}{fs:List (Str×V)}{fus:List (Option U)}
theorem InF.room(h:InF K m H c fs fus):fs.length<1000:=by
 have:=jt h.knd h.sub;rw[Q6]at this;have:=h.few;omega
theorem lL{f:Str}:∀{fs:List (Str×V)},f∉fs.map (·.1)->fs.lookup f=none
 |[],_=>rfl
 |(g,x)::r,h=>by
  rw[List.lookup_cons];have h1:(f == g)=false:=by
   apply beq_eq_false_iff_ne.mpr;intro z;exact h (by rw[z];exact Qx)
  rw[h1];exact lL fun z=>h (Qq _ z)
theorem InF.none_{f:Str}(h:InF K m H c fs fus)(hf:f∉c.ns):fs.lookup f=none:=lL fun z=>hf (h.sub f z)
theorem InF.put{f:Str}{i:Nat}{v:V}{u:U}(h:InF K m H c fs fus)(hi:c.ns[i]?=some f)(hv:Is K m H v u):InF K m H c (mI f v fs) (fus.set i (some u)):=by
 have hfm:f∈c.ns:=List.mem_of_getElem? hi;refine⟨h.nd,h.few,?_,fun x hx=>?_,by simp[h.len],fun j x hj=>?_⟩
 ·rw[eS];split
  ·exact h.knd
  ·rename_i hn;rw[Qo];exact⟨h.knd,by simp,fun a ha b hb z=>by simp at hb;subst hb;subst z;exact hn ha⟩
 ·rw[eS]at hx;split at hx
  ·exact h.sub x hx
  ·rcases Qg.mp hx with z|z
   ·exact h.sub x z
   ·simp at z;subst z;exact hfm
 ·rw[iX];by_cases e:i=j
  ·subst e;rw[hi]at hj;cases hj;rw[if_pos rfl];have:i<fus.length:=by rw[h.len];exact(Q5.mp hi).1
   rw[ZG this];exact hv
  ·have ne:x≠f:=fun z=>by
    subst z;obtain⟨p1,e1⟩:=Q5.mp hi;obtain⟨p2,e2⟩:=Q5.mp hj;exact e ((List.getElem_inj h.nd).mp (e1.trans e2.symm))
   rw[if_neg ne,Qu e];exact h.at_ j x hj
theorem InF.new(nd:c.ns.Nodup)(few:c.ns.length<1000):InF K m H c [] (Qa c.ns.length none):=by
 refine⟨nd,few,by simp,fun x hx=>by simp at hx,by simp,fun i x hi=>?_⟩;rw[ZQ];split<;>exact trivial
open Classical in
def HJ(c:Cl)(i:Nat)(x:U)(S:Sto):Option (U×Sto):=match x with
 |.ref l=>match S[l]? with
  |some (.ins c' fus)=>if c'=c then(fus[i]?).join.bind fun u=>some (u,S)else none
  |_=>none
 |_=>none
def eY(c:Cl)(i:Nat)(ca:CE):CE:=fun ρ S=>(ca ρ S).bind fun p=>HJ c i p.1 p.2
open Classical in
def xM(c:Cl)(i:Nat)(x v:U)(S:Sto):Option Sto:=match x with
 |.ref l=>match S[l]? with
  |some (.ins c' fus)=>if c'=c then some (S.set l (.ins c (fus.set i (some v))))else none
  |_=>none
 |_=>none
def mP(c:Cl)(i:Nat)(ca cv:CE):CS:=fun ρ S=>(cv ρ S).bind fun p=>(ca ρ p.2).bind fun q=>(xM c i q.1 p.1 q.2).bind fun S'=>some (.nx,ρ,S')
variable{e:Expr}{ca cv:CE}{pos:Pos}{f:Str}{i:Nat}
theorem dI(hcl:Cls X.K c.C)(hna:iO X.K c.C f)(hi:c.ns[i]?=some f)(h:QE X e ca)(hb:attributeBase e f X.env (eval e X.env)=eval e X.env:=by rfl):QE X (.Attribute e f pos) (eY c i ca):=(B5 h hb).imp fun σ H Q hz=>kf hz fun m ρ S u S' sr lr hc post=>by
 obtain⟨⟨x,S1⟩,h1,h2⟩:=Q0.mp hc;refine⟨m,ρ,S,x,S1,sr,lr,h1,fun m1 v1 H1 e1 sr1 i1=>?_⟩;cases x with
 |ref l=>
  simp only[HJ]at h2;split at h2<;>try cases h2
  rename_i c' fus hS;split at h2<;>try cases h2
  rename_i hc';subst hc';obtain⟨w,hw,h3⟩:=Q0.mp h2;cases h3;obtain⟨a,ha,rfl⟩:=i1.of_ref;obtain⟨a',ha',dx,fs,hx,inf⟩:=sr1.get hS;rw[ha]at ha';cases ha';have rf:=inf.at_ i f hi;rw[hw]at rf;cases hv:fs.lookup f with
  |none=>rw[hv]at rf;exact rf.elim
  |some z=>
   rw[hv]at rf;exact⟨a,_,dx,fs,z,rfl,hx,hcl,hna,hv,post m1 _ H1 e1 sr1 rf⟩
 |_=>simp[HJ]at h2
theorem gW{o:Expr}{co:CE}{pos':Pos}(hcl:Cls X.K c.C)(hna:iO X.K c.C f)(hi:c.ns[i]?=some f)(ho:QE X o co)(hv:QE X e cv)(hs:swapsWith e (some (.Attribute o f pos')) pos.line X.env=pure false:=by rfl):QS X (.Assign [.Attribute o f pos'] e pos) (mP c i co cv):=(BY ho hv hs).imp fun D σ H hz=>qi hz fun m ρ S o ρ' S' sr lr hc post=>by
 obtain⟨⟨v,S1⟩,h1,h⟩:=Q0.mp hc;obtain⟨⟨x,S2⟩,h2,h⟩:=Q0.mp h;obtain⟨S3,h3,h⟩:=Q0.mp h;cases h;refine⟨m,ρ,S,v,S1,sr,lr,h1,fun m1 v1 H1 e1 sr1 i1=>⟨m1,ρ,S1,x,S2,sr1,lr.mono e1,h2,fun m2 v2 H2 e2 sr2 i2=>?_⟩⟩;cases x with
 |ref l=>
  simp only[xM]at h3;split at h3<;>try cases h3
  rename_i c' fus hS;split at h3<;>try cases h3
  have hc':c'=c:=by assumption
  subst hc';obtain⟨a,ha,rfl⟩:=i2.of_ref;obtain⟨a',ha',dx,fs,hx,inf⟩:=sr2.get hS;rw[ha]at ha';cases ha';have ee:Ext X.K m2 H2 m2 (upd H2 a (.ins c'.C dx (mI f v1 fs))):=.of (sr2.keep ha _);have e12:=e1.trans e2;exact⟨a,_,dx,fs,rfl,hx,hcl,hna,inf.room,post m2 σ _ (e12.trans ee) (sr2.put ha ⟨dx,_,aG,(inf.put hi (i1.mono e2)).mono ee⟩) (lr.mono (e12.trans ee))⟩
 |_=>simp[xM]at h3
structure oJ(P:Program)(w:World)(K:Q1)(mg:Str->Option Value)(base:Heap)(c:Cl)(mn:Str)(k:Nat)(ps:List Str)(f:Fn):Prop where
 ex:∃fa fd,Ik K c.C mn fa/\kh P w K mg base CX0 k fa fd ps (vM K f)/\gI K fd ps []
theorem oJ.mono{P:Program}{w:World}{mg:Str->Option Value}{base:Heap}{mn:Str}{j k:Nat}{ps:List Str}{f:Fn}(h:oJ P w K mg base c mn j ps f)(l:j<=k):oJ P w K mg base c mn k ps f:=by
 obtain⟨fa,fd,a,b,d⟩:=h.ex;exact⟨fa,fd,a,b.mono l,d⟩
open Classical in
def xN(c:Cl)(f:Fn)(x:U)(S:Sto)(args:Sto->Option (List U×Sto)):Option (U×Sto):=match x with
 |.ref l=>match S[l]? with
  |some (.ins c' _)=>if c'=c then(args S).bind fun q=>f (.ref l::q.1) q.2 else none
  |_=>none
 |_=>none
def kx(c:Cl)(f:Fn)(ca:CE)(cr:CA):CE:=fun ρ S=>(ca ρ S).bind fun p=>xN c f p.1 p.2 (cr ρ)
theorem zZ{mn:Str}{g:Fn}{co:CE}{cr:CA}(hmn:mn∉c.ns):∀σ H Q,tE K (kx c g co cr) σ H Q->Cm c.C mn (vM K g) [] E0 (tE K co) (tA K cr) σ H Q:=by
 rintro σ H Q ⟨m,ρ,S,u,S',sr,lr,hc,post⟩;obtain⟨⟨x,S1⟩,h1,h2⟩:=Q0.mp hc;refine⟨m,ρ,S,x,S1,sr,lr,h1,fun m1 v1 H1 e1 sr1 i1=>?_⟩;cases x with
 |ref l=>
  simp only[xN]at h2;split at h2<;>try cases h2
  rename_i c' fus hS;split at h2<;>try cases h2
  rename_i hc';subst hc';obtain⟨⟨us,S2⟩,h3,h4⟩:=Q0.mp h2;obtain⟨a,ha,rfl⟩:=i1.of_ref;obtain⟨a',ha',dx,fs,hx,inf⟩:=sr1.get hS;rw[ha]at ha';cases ha';refine⟨a,dx,fs,rfl,hx,inf.none_ hmn,m1,ρ,S1,us,S2,sr1,lr.mono e1,h3,fun m2 vs H2 e2 sr2 i2=>?_⟩;exact⟨m2,_,S2,u,S',.cons_ (i1.mono e2) (by simpa using i2),sr2,h4,post.mono (e1.trans e2)⟩
 |_=>simp[xN]at h2
theorem j6{mn:Str}{g:Fn}{k:Nat}{ps:List Str}{o:Expr}{es:List Expr}{co:CE}{cr:CA}{apos:Pos}{pl:Sem Bool}(hcl:Cls X.K c.C)(F:oJ X.prog X.w X.K X.mg X.base c mn k ps g)(hr:fX k X.A)(hmn:mn∉c.ns)(ho:QE X o co)(ha:QA X (e::es) cr)
  (hst:starEach (e::es) X.env=(false,eval e X.env)::starEach es X.env:=by rfl) (hpl:(backTo pos (starEach es X.env)).any (·.1)=false:=by rfl) (ht:eval (.Call (.Attribute o mn apos) (e::es) [] pos) X.env=(do
   let ov <-eval o X.env
   standAt apos.atName
   let (f,first) <-holding [ov] (getMethod ov mn pl)
   callWith pos f first (backTo pos (starEach (e::es) X.env)) (backToKw pos (keywordEach [] X.env))):=by rfl):QE X (.Call (.Attribute o mn apos) (e::es) [] pos) (kx c g co cr):=by
 obtain⟨fa,fd,hm,F,hb⟩:=F.ex;exact(yW ho hcl hm F hr hb .nil zL ha.h hst hpl ht).imp (zZ hmn)
structure CMk(P:Program)(w:World)(K:Q1)(mg:Str->Option Value)(base:Heap)(c:Cl)(x:Str)(k:Nat)(ps:List Str)(f:Fn):Prop where
 ex:∃fa fd,Mk K c.C fa/\kh P w K mg base CX0 k fa fd ps (vM K f)/\gI K fd ps []/\mg x=some (.ref c.C)
 nd:c.ns.Nodup
 few:c.ns.length<1000
theorem CMk.mono{P:Program}{w:World}{mg:Str->Option Value}{base:Heap}{x:Str}{j k:Nat}{ps:List Str}{f:Fn}(h:CMk P w K mg base c x j ps f)(l:j<=k):CMk P w K mg base c x k ps f:=by
 obtain⟨fa,fd,a,b,d⟩:=h.ex;exact⟨⟨fa,fd,a,b.mono l,d⟩,h.nd,h.few⟩
def jS(c:Cl)(f:Fn):Fn:=fun us S=>(f (.ref S.length::us) (S++[.ins c (Qa c.ns.length none)])).bind fun p=>match p.1 with
 |.non=>some (.ref S.length,p.2)
 |_=>none
theorem sA{g:Fn}{cr:CA}(nd:c.ns.Nodup)(few:c.ns.length<1000):∀σ H Q,tE K (cCB (jS c g) cr) σ H Q->vI c.C (vM K g) [] E0 (tA K cr) σ H Q:=by
 rintro σ H Q ⟨m,ρ,S,u,S',sr,lr,hc,post⟩;obtain⟨⟨us,S1⟩,h1,h2⟩:=Q0.mp hc;obtain⟨⟨w,S2⟩,h3,h4⟩:=Q0.mp h2;refine⟨m,ρ,S,us,S1,sr,lr,h1,fun m1 vs H1 e1 sr1 i1 x dx hx hdx ne=>?_⟩;cases w with
 |non=>
  cases h4;have s1:rl H1 (upd H1 dx (.own x)):=cV hdx _;have hx2:(upd H1 dx (.own x)) x=none:=by rw[bj (Ne.symm ne)];exact hx
  have ee:Ext K m1 H1 (m1++[x]) (upd (upd H1 dx (.own x)) x (.ins c.C dx [])):=.new ⟨fun b xs q=>(bI hx2 _).t b xs ((fN s1).t b xs q),fun b xs q=>(bI hx2 _).l b xs ((fN s1).l b xs q)⟩;refine⟨m1++[x],.ref S1.length::us,S1++[.ins c (Qa c.ns.length none)],.non,S2,.cons_ (.ref_ (dr sr1.len)) (by simpa using i1.mono ee),(sr1.same s1).new (o:=.ins c (Qa c.ns.length none)) hx2 ⟨dx,[],aG,InF.new nd few⟩,h3,fun m2 v2 H2 e2 sr2 i2=>⟨i2.of_non,?_⟩⟩;exact post m2 _ H2 ((e1.trans ee).trans e2) sr2 (.ref_ (e2.get (dr sr1.len)))
 |_=>simp at h4
theorem wk{x:Str}{g:Fn}{k:Nat}{ps:List Str}{es:List Expr}{cr:CA}{p:Pos}(M:CMk X.prog X.w X.K X.mg X.base c x k ps g)(hr:fX (k+1) X.A)(hg:Gl X x)(ha:QA X (e::es) cr)
  (hdb:(x == ("__debug__":Str))=false:=by decide) (he:starEach (e::es) X.env=(false,eval e X.env)::starEach es X.env:=by rfl) (hpl:(backTo pos (starEach es X.env)).any (·.1)=false:=by rfl):QE X (.Call (.Name x p) (e::es) [] pos) (cCB (jS c g) cr):=by
 obtain⟨fa,fd,hm,F,hb,hx⟩:=M.ex;exact(yX hm F hr hg hx hb .nil zL ha.h hdb he hpl).imp (sA M.nd M.few)
theorem wj{x:Str}{g:Fn}{k:Nat}{ps:List Str}{p:Pos}(M:CMk X.prog X.w X.K X.mg X.base c x k ps g)(hr:fX (k+1) X.A)(hg:Gl X x)
  (hdb:(x == ("__debug__":Str))=false:=by decide):QE X (.Call (.Name x p) [] [] pos) (cCB (jS c g) aD):=by
 obtain⟨fa,fd,hm,F,hb,hx⟩:=M.ex;refine(vg hm F hr hg hx hb .nil zL hdb).imp fun σ H Q h=>?_;obtain⟨m,ρ,S,us,S',sr,lr,hc,k⟩:=sA M.nd M.few σ H Q h;cases hc;exact k m [] H .refl sr .nil_
def kA:CE:=fun _ S=>some (.ref S.length,S++[.dic []])
theorem jr:QE X (.Dict [] [] pos) kA:=vj.imp fun σ H Q hz=>kf hz fun m ρ S u S' sr lr hc post=>by
 cases hc;exact fun p hp=>post (m++[p]) _ _ (.new (bI hp _)) (sr.new hp ⟨[],aG,.nil_⟩) (.ref_ (dr sr.len))
def p8(cd ck cx:CE):CE:=fun ρ S=>(cd ρ S).bind fun p=>match p.1 with
 |.ref l=>match p.2[l]? with
  |some (.dic _)=>(ck ρ p.2).bind fun q=>(cx ρ q.2).bind fun r=>match r.2[l]? with
   |some (.dic kus)=>(km q.1).bind fun k=>some ((aR kus k).getD r.1,r.2)
   |_=>none
  |_=>none
 |_=>none
theorem wm{o e f:Expr}{cd ck cx:CE}{apos:Pos}(hu:X.A.units+1<cLine)(ho:QE X o cd)(he:QE X e ck)(hf:QE X f cx)(hm:M2 X o "get" apos e f pos):QE X (.Call (.Attribute o "get" apos) [e,f] [] pos) (p8 cd ck cx):=(vm hu ho he hf hm).imp fun σ H Q hz=>kf hz fun m ρ S u S' sr lr hc post=>by
 obtain⟨⟨x,S1⟩,h1,h⟩:=Q0.mp hc;refine⟨m,ρ,S,x,S1,sr,lr,h1,fun m1 v1 H1 e1 sr1 i1=>?_⟩;cases x with
 |ref l=>
  simp only at h;split at h<;>try cases h
  rename_i kus0 hS;obtain⟨⟨ku,S2⟩,h2,h⟩:=Q0.mp h;obtain⟨⟨xu,S3⟩,h3,h⟩:=Q0.mp h;simp only at h;split at h<;>try cases h
  rename_i kus hS3;obtain⟨k,hk,h⟩:=Q0.mp h;cases h;obtain⟨a,ha,rfl⟩:=i1.of_ref;obtain⟨a',ha',kvs0,hx0,_⟩:=sr1.get hS;rw[ha]at ha';cases ha';refine⟨a,rfl,.inl ⟨kvs0,.inl hx0⟩,m1,ρ,S1,ku,S2,sr1,lr.mono e1,h2,fun m2 v2 H2 e2 sr2 i2=>⟨m2,ρ,S2,xu,_,sr2,lr.mono (e1.trans e2),h3,fun m3 v3 H3 e3 sr3 i3=>?_⟩⟩;obtain⟨a',ha',kvs,hx,ip⟩:=sr3.get hS3;rw[(e2.trans e3).get ha]at ha';cases ha';have ek:=iY (i2.mono e3) hk;subst ek;have rf:=IsP.val (k:=k) ip;refine⟨_,DGet.k hx,post m3 _ H3 ((e1.trans e2).trans e3) sr3 ?_⟩;cases hv:iB kvs k with
  |none=>
   cases hw:aR kus k with
   |none=>exact i3
   |some w=>rw[hv,hw]at rf;exact rf.elim
  |some v=>
   cases hw:aR kus k with
   |none=>rw[hv,hw]at rf;exact rf.elim
   |some w=>rw[hv,hw]at rf;exact rf
 |_=>simp at h
end
def kB(n:Nat)(caps:List Nat)(ρ:Rho):Rho:=Qa n none++caps.map fun i=>(ρ[i]?).getD none
open Classical in
def gH(ok:Sto->Prop)(g:CG)(ce:CE)(l:Nat):List U->Rho->Sto->Option Sto
 |[],_,S=>if ok S then some S else none
 |u::us,ρ,S=>if ok S then(g u ρ S).bind fun p=>(ce p.1 p.2).bind fun r=>match r.2[l]? with
  |some (.lst ys)=>if ys.length<LIM then gH ok g ce l us p.1 (r.2.set l (.lst (ys++[r.1])))else none
  |_=>none else none
def dQ(ci:CI)(g:CG)(ce:CE)(n:Nat)(caps:List Nat):CE:=fun ρ S=>(ci ρ S).bind fun p=>(gH p.2.1 g ce p.2.2.length p.1 (kB n caps ρ) (p.2.2++[.lst []])).bind fun S'=>some (.ref p.2.2.length,S')
section
variable{X:Cx}{K:Q1}
theorem wR{m:List Addr}{H:Hp}{ρ:Rho}{σ:L2.St}{n:Nat}{caps:List Nat}(lr:Lr K m H ρ σ):Lr K m H (kB n caps ρ) (OG.stC n caps σ):=by
 refine⟨by simp[kB,OG.stC],fun j u e=>?_⟩;unfold kB at e;unfold OG.stC;by_cases c:j<n
 ·rw[QZ (by simpa using c),ZQ]at e;split at e<;>cases e
 ·rw[Qv (by simp;omega),QC]at e ⊢;simp only[List.length_replicate]at e ⊢;cases q:caps[j-n]? with
  |none=>rw[q]at e;simp at e
  |some i=>
   rw[q]at e;simp only[Option.map_some,Option.some.injEq]at e ⊢;have e2:ρ[i]?=some (some u):=by
    cases z:ρ[i]? with
    |none=>rw[z]at e;simp at e
    |some y=>rw[z]at e;simp at e;rw[e]
   obtain⟨v,h1,h2⟩:=lr.at_ i u e2;exact⟨v,by rw[h1];rfl,h2⟩
theorem yd{g:CG}{ce:CE}{n:Nat}{caps:List Nat}{J:It}{us:List U}{ok:Sto->Prop}{Q:VK}{m1:List Addr}{H1:Hp}{S1 S':Sto}{ρ:Rho}{σ:L2.St}{l:Addr}(sr1:Sr K m1 S1 H1)(lr:Lr K m1 H1 ρ σ)(ito:yG K J m1 H1 us ok)(hl:H1 l=none)(h2:gH ok g ce S1.length us (kB n caps ρ) (S1++[.lst []])=some S')
  (post:∀m2 H2,Ext K (m1++[l]) (upd H1 l (.lst [])) m2 H2->Sr K m2 S' H2->Q (.ref l) H2) :
  ∃W:Nat->Nat->L2.St->Hp->Prop,(∃m,W 0 m (OG.stC n caps σ) (upd H1 l (.lst [])))/\
 ∀i m σ' H2,W i m σ' H2->(J.stop i H2/\Q (.ref l) H2)\/(J.go i H2/\∃N:L2.St->Hp->Prop,(∀σ'' H',N σ'' H'->∃m',m'<m/\W (i+1) m' σ'' H')/\
  ∀x H3,J.yld i H2 x H3->tG K g x σ' H3 fun σ2 H4=>tE K ce σ2 H4 fun v H5=>∃ys,H5 l=some (.lst ys)/\ys.length<sizeLine/\N σ2 (upd H5 l (.lst (ys++[v])))):=by
 have ee:Ext K m1 H1 (m1++[l]) (upd H1 l (.lst [])):=.new (bI hl _);let W:Nat->Nat->L2.St->Hp->Prop:=fun i k σ2 H2=>k=us.length-i/\i<=us.length/\∃m2 ρ2 S2,Ext K (m1++[l]) (upd H1 l (.lst [])) m2 H2/\Sr K m2 S2 H2/\Lr K m2 H2 ρ2 σ2/\gH ok g ce S1.length (us.drop i) ρ2 S2=some S'
 refine⟨W,⟨us.length,by simp,Z5 _,m1++[l],kB n caps ρ,S1++[.lst []],.refl,sr1.new (o:=.lst []) hl ⟨[],aG,.nil_⟩,wR (lr.mono ee),by simpa using h2⟩,?_⟩;rintro i k σ2 H2 ⟨rfl,hi,m2,ρ2,S2,e2,sr2,lr2,hl2⟩;by_cases hlt:i<us.length
 ·have hu:=Q4 hlt;rw[md hu]at hl2;unfold gH at hl2;split at hl2
  ·rename_i hok;obtain⟨⟨ρ3,S3⟩,h3,hl2⟩:=Q0.mp hl2;obtain⟨⟨u4,S4⟩,h4,hl2⟩:=Q0.mp hl2;simp only at hl2;split at hl2<;>try cases hl2
   rename_i ys hys;split at hl2<;>try cases hl2
   rename_i ed;obtain⟨hgo,hy⟩:=(ito m2 S2 H2 i (ee.trans e2) sr2 hok).1 _ hu;refine .inr ⟨hgo,W (i+1) (us.length-(i+1)),fun σ' H' w'=>⟨_,by omega,w'⟩,fun x H3 y=>?_⟩;obtain⟨e3,sr3,ix⟩:=hy x H3 y;refine⟨m2,ρ2,S2,_,ρ3,S3,sr3,lr2.mono e3,ix,h3,fun m4 σ4 H4 e4 sr4 lr4=>⟨m4,ρ3,S3,u4,S4,sr4,lr4,h4,fun m5 v5 H5 e5 sr5 i5=>?_⟩⟩;obtain⟨a',ha',xs,hx,il⟩:=sr5.get hys;have ha:m5[S1.length]?=some l:=(((e2.trans e3).trans e4).trans e5).get (dr sr1.len);rw[ha]at ha';cases ha';have eu:Ext K m5 H5 m5 (upd H5 l (.lst (xs++[v5]))):=.of (sr5.keep ha _);refine⟨xs,hx,Eo (by rw[il.length];exact ed),rfl,hlt,m5,ρ3,_,((((e2.trans e3).trans e4).trans e5).trans eu),sr5.put (o:=.lst (ys++[u4])) ha ⟨_,aG,(il.append (.cons_ i5 .nil_)).mono eu⟩,(lr4.mono (e5.trans eu)),hl2⟩
  ·cases hl2
 ·have e:i=us.length:=by omega
  subst e;rw[List.drop_length]at hl2;unfold gH at hl2;split at hl2
  ·rename_i hok;cases hl2;exact .inl ⟨(ito m2 _ H2 _ (ee.trans e2) sr2 hok).2 (QX _),post m2 H2 e2 sr2⟩
  ·cases hl2
theorem tq{ci:CI}{g:CG}{ce:CE}{n:Nat}{caps:List Nat}:∀σ H Q,tE K (dQ ci g ce n caps) σ H Q->zf (tI K ci) (tG K g) (tE K ce) n caps σ H Q:=by
 rintro σ H Q ⟨m,ρ,S,u,S',sr,lr,hc,post⟩;obtain⟨⟨us,ok,S1⟩,h1,h2⟩:=Q0.mp hc;obtain⟨S2,h2,h3⟩:=Q0.mp h2;cases h3;refine⟨m,ρ,S,us,ok,S1,sr,lr,h1,fun m1 H1 J e1 sr1 ito l hl=>?_⟩;have ee:Ext K m1 H1 (m1++[l]) (upd H1 l (.lst [])):=.new (bI hl _);exact yd sr1 (lr.mono e1) ito hl h2 fun m2 H2 e2 sr2=>post m2 _ H2 ((e1.trans ee).trans e2) sr2 (.ref_ (e2.get (dr sr1.len)))
theorem lA{Nc capN tn:List Str}{scope:Scope}{cl:List (Str×Addr)}{n:Nat}{caps:List Nat}{tg iter elt:Expr}{pos:Pos}{ci:CI}{g:CG}{ce:CE}
  (hc:X.calm=true) (hi:QI X tg iter ci) (hg:∀s3 H3 fp,WG (cxC X Nc scope cl s3 H3 fp) tg (tG X.K g)) (he:∀s3 H3 fp,WE (cxC X Nc scope cl s3 H3 fp) elt (tE X.K ce))
  (hclos:closureFor scope X.env=pure cl) (hkind:scope.kind=.function) (hnl:∀x∈scope.names,x.2=.local->scope.names.lookup x.1=some .local) (hcell:∀x∈scope.names,x.2≠.cell)
  (hcl:qj X.env cl) (hhas:((relabel scope X.env).names.all fun p=>!(p.2 == .cell||p.2 == .free)||(cl.lookup p.1).isSome)=true)
  (hcap:Paired (Cap X scope cl) caps capN) (hN:Nc=tn++capN) (hn:tn.length=n)
  (hs:∀x,foldedSetIterable iter X.env x=pure x:=by intro _;rfl) :
  QE X (.ListComp elt [⟨tg,iter,[],0⟩] scope pos) (dQ ci g ce n caps):=(y0 hc hi hg he hclos hkind hnl hcell hcl hhas hcap hN hn hs).imp tq
def l5:Fn
 |[.tup us],S=>some (.int us.length,S)
 |[.ref l],S=>match S[l]? with
  |some (.lst us)=>some (.int us.length,S)
  |some (.dic us)=>some (.int us.length,S)
  |_=>none
 |[.kl ns],S=>some (.int ns.length,S)
 |_,_=>none
abbrev Lu(K:Q1):List V->Hp->VK->Prop:=fun xs H Q=>(∃p ys,xs=[.ref p]/\(SqL K H p ys\/SqT K H p ys)/\Q (.int ys.length) H)\/∃a kvs,xs=[V.ref a]/\H a=some (.dK kvs)/\Q (.int kvs.length) H
theorem lI:eZ X (.builtin "len") (Lu X.K):=p6.or yg
theorem IsL.one{m:List Addr}{H:Hp}{vs:List V}{u:U}(h:IsL K m H vs [u]):∃v,vs=[v]/\Is K m H v u:=by
 obtain⟨x,r,rfl,i,t⟩:=h.of_cons;rw[t.of_nil];exact⟨x,rfl,i⟩
theorem lF:mQ K (Lu K) l5:=by
 intro m S H us vs u S' Q sr i hf post;match us,hf with
 |[.tup ws],hf=>
  cases hf;obtain⟨v,rfl,iv⟩:=i.one;obtain⟨a,xs,rfl,sa,la⟩:=iv.of_tup;exact .inl ⟨a,xs,rfl,.inr sa,by rw[la.length];exact post m _ H .refl sr .int_⟩
 |[.ref l],hf=>
  obtain⟨v,rfl,iv⟩:=i.one;obtain⟨a,ha,rfl⟩:=iv.of_ref;simp only[l5]at hf;split at hf<;>try cases hf
  ·rename_i ws hS;obtain⟨a',ha',xs,hx,la⟩:=sr.get hS;rw[ha]at ha';cases ha';exact .inl ⟨a,xs,rfl,.inl (SqL.of hx),by rw[la.length];exact post m _ H .refl sr .int_⟩
  ·rename_i ws hS;obtain⟨a',ha',xs,hx,la⟩:=sr.get hS;rw[ha]at ha';cases ha';exact .inr ⟨a,xs,rfl,hx,by rw[IsP.length la];exact post m _ H .refl sr .int_⟩
 |[.kl ns],hf=>
  cases hf;obtain⟨v,rfl,iv⟩:=i.one;obtain⟨a,rfl,ka⟩:=iv.of_kl;exact .inl ⟨a,_,rfl,.inl ka.sq,by rw[Q6];exact post m _ H .refl sr .int_⟩
def DS:Fn
 |[.tup us],S=>some (.ref S.length,S++[.lst us])
 |[.ref l],S=>match S[l]? with
  |some (.lst us)=>some (.ref S.length,S++[.lst us])
  |_=>none
 |_,_=>none
def g7:Fn
 |[.tup us],S=>some (.tup us,S)
 |[.ref l],S=>match S[l]? with
  |some (.lst us)=>some (.tup us,S)
  |_=>none
 |_,_=>none
theorem lC:mQ K (fun xs H Q=>∃p ys,xs=[.ref p]/\((SqL K H p ys/\∀l,H l=none->Q (.ref l) (upd H l (.tup ys)))\/(SqT K H p ys/\Q (.ref p) H))) g7:=by
 intro m S H us vs u S' Q sr i hf post;match us,hf with
 |[.tup ws],hf=>
  cases hf;obtain⟨v,rfl,iv⟩:=i.one;obtain⟨a,xs,rfl,sa,la⟩:=iv.of_tup;exact⟨a,xs,rfl,.inr ⟨sa,post m _ H .refl sr iv⟩⟩
 |[.ref l],hf=>
  obtain⟨v,rfl,iv⟩:=i.one;obtain⟨a,ha,rfl⟩:=iv.of_ref;simp only[g7]at hf;split at hf<;>try cases hf
  rename_i ws hS;obtain⟨a',ha',xs,hx,la⟩:=sr.get hS;rw[ha]at ha';cases ha';exact⟨a,xs,rfl,.inl ⟨SqL.of hx,fun l hl=>nR sr la post hl⟩⟩
def IF:Fn
 |[.int i],S=>some (.int i,S)
 |[.bl b],S=>some (.int (if b then 1 else 0),S)
 |_,_=>none
theorem Km:mQ K (fun xs H Q=>(∃i,xs=[.int i]/\Q (.int i) H)\/∃k,xs=[.bl k]/\Q (.int (if k then 1 else 0)) H) IF:=by
 intro m S H us vs u S' Q sr i hf post;match us,hf with
 |[.int j],hf=>
  cases hf;obtain⟨v,rfl,iv⟩:=i.one;exact .inl ⟨j,by rw[iv.of_int],post m _ H .refl sr .int_⟩
 |[.bl j],hf=>
  cases hf;obtain⟨v,rfl,iv⟩:=i.one;exact .inr ⟨j,by rw[iv.of_bl],post m _ H .refl sr .int_⟩
def nZ:List U->Option (List Int)
 |[]=>some []
 |.int i::r=>(nZ r).map (i::·)
 |_=>none
def Ez:List U->Option (List Bool)
 |[]=>some []
 |.bl i::r=>(Ez r).map (i::·)
 |_=>none
theorem jx:∀{us:List U} {ns:List Int},nZ us=some ns->us=ns.map U.int
 |[],ns,h=>by cases h;rfl
 |u::r,ns,h=>by
  cases u<;>simp only[nZ]at h<;>try cases h
  obtain⟨ms,e,h⟩:=Qc.mp h;subst h;rw[jx e];rfl
theorem gZ:∀(ns:List Int),nZ (ns.map U.int)=some ns
 |[]=>rfl
 |n::r=>by simp[nZ,gZ r]
theorem yp:∀{us:List U} {ns:List Bool},Ez us=some ns->us=ns.map U.bl
 |[],ns,h=>by cases h;rfl
 |u::r,ns,h=>by
  cases u<;>simp only[Ez]at h<;>try cases h
  obtain⟨ms,e,h⟩:=Qc.mp h;subst h;rw[yp e];rfl
theorem kK:∀(ns:List Bool),Ez (ns.map U.bl)=some ns
 |[]=>rfl
 |n::r=>by simp[Ez,kK r]
theorem IsL.ints{m:List Addr}{H:Hp}:∀{xs:List V} {ns:List Int},IsL K m H xs (ns.map U.int)->xs=ns.map V.int
 |xs,[],h=>h.of_nil
 |xs,n::ns,h=>by
  obtain⟨x,r,rfl,i,t⟩:=h.of_cons;rw[IsL.ints t,i.of_int];rfl
theorem IsL.bls{m:List Addr}{H:Hp}:∀{xs:List V} {ns:List Bool},IsL K m H xs (ns.map U.bl)->xs=ns.map V.bl
 |xs,[],h=>h.of_nil
 |xs,n::ns,h=>by
  obtain⟨x,r,rfl,i,t⟩:=h.of_cons;rw[IsL.bls t,i.of_bl];rfl
theorem iE{m:List Addr}{H:Hp}:∀(ns:List Int),IsL K m H (ns.map V.int) (ns.map U.int)
 |[]=>.nil_
 |n::ns=>.cons_ .int_ (iE ns)
def yL:Fn
 |[.ref l],S=>match S[l]? with
  |some (.lst us)=>(Ez us).bind fun bs=>some (.bl (bs.all id),S)
  |_=>none
 |_,_=>none
theorem GJ:mQ K (fun xs H Q=>∃(p:Addr) (bs:List Bool),xs=[.ref p]/\SqL K H p (bs.map V.bl)/\Q (.bl (bs.all id)) H) yL:=by
 intro m S H us vs u S' Q sr i hf post;match us,hf with
 |[.ref l],hf=>
  obtain⟨v,rfl,iv⟩:=i.one;obtain⟨a,ha,rfl⟩:=iv.of_ref;simp only[yL]at hf;split at hf<;>try cases hf
  rename_i ws hS;obtain⟨bs,hb,h⟩:=Q0.mp hf;cases h;obtain⟨a',ha',xs,hx,la⟩:=sr.get hS;rw[ha]at ha';cases ha';rw[yp hb]at la;rw[la.bls]at hx;exact⟨a,bs,rfl,SqL.of hx,post m _ H .refl sr .bl_⟩
inductive Ty where
 |non|bool|int|str|tuple|list|dict
def Ty.nm:Ty->String
 |.non=>"NoneType"|.bool=>"bool"|.int=>"int"|.str=>"str"|.tuple=>"tuple"|.list=>"list"|.dict=>"dict"
def tyU:U->Sto->Option Ty
 |.non,_=>some .non|.bl _,_=>some .bool|.int _,_=>some .int|.str _,_=>some .str|.tup _,_=>some .tuple
 |.ref l,S=>match S[l]? with
  |some (.lst _)=>some .list
  |some (.dic _)=>some .dict
  |_=>none
 |.kl _,_=>none
def Cn:Ty->Ty->Bool
 |.non,.non=>true|.bool,.bool=>true|.bool,.int=>true|.int,.int=>true|.str,.str=>true|.tuple,.tuple=>true|.list,.list=>true|.dict,.dict=>true
 |_,_=>false
theorem lS(a b:Ty)(hb:b≠.non):PySem.W.kitOne K (.type a.nm) (.type b.nm)=some (Cn a b):=by
 cases b<;>first|exact absurd rfl hb|(cases a<;>rfl)
abbrev Mp(K:Q1):List V->Hp->VK->Prop:=fun xs H Q=>(∃(x:V) (T:String) (t:Value) (k:Bool),xs=[x,.ty T]/\tP K H x t/\PySem.W.kitOne K t (.type T)=some k/\Q (.bl k) H)\/
 ∃(a:Addr) (ys:List V) (T:String) (k:Bool),xs=[.ref a,.ty T]/\SqT K H a ys/\PySem.W.kitOne K (.type "tuple") (.type T)=some k/\Q (.bl k) H
theorem Kr:eZ X (.builtin "isinstance") (Mp X.K):=by
 refine qZ.or ?_;rintro pins s σ H xs us Q I r ⟨a,ys,T,k,rfl,sq,e,q⟩;obtain⟨u,w',rfl,ru,rw'⟩:=Fz r;cases rw';cases ru;obtain⟨its,rv,ht,hz⟩:=I.tuple sq;obtain⟨o,h1,h2,_⟩:=ht;exact PySem.W.kia_one PySem.W.kitx_tuple I.kIn ⟨o,h1,h2⟩ e (fun z=>nomatch z) fun tk=>⟨.bl k,H,I.tok tk,rfl,q⟩
def IH(T:Ty)(ca:CE):CE:=fun ρ S=>(ca ρ S).bind fun p=>(tyU p.1 p.2).bind fun t=>some (.bl (Cn t T),p.2)
theorem F5{T:Ty}{e eT:Expr}{ca:CE}{p pos:Pos}(hT0:T≠.non)(he:QE X e ca)(hT:WE X eT (tC (.ty T.nm)))(hg:Gl X "isinstance")(hm:X.mg "isinstance"=none)
  (h1:starEach [e,eT] X.env=(false,eval e X.env)::starEach [eT] X.env:=by rfl) (h2:starEach [eT] X.env=(false,eval eT X.env)::starEach [] X.env:=by rfl) (hpl:(backTo pos (starEach [eT] X.env)).any (·.1)=false:=by rfl) :
  QE X (.Call (.Name "isinstance" p) [e,eT] [] pos) (IH T ca):=(oQ Kr hg hm OG.mw (dR he (dR hT iP h2) h1) (by decide) (by decide) h1 hpl).imp fun σ H Q hz=>kf hz fun m ρ S u S' sr lr hc post=>by
 obtain⟨⟨x,S1⟩,h1,h2⟩:=Q0.mp hc;obtain⟨t,ht,h3⟩:=Q0.mp h2;cases h3;refine⟨m,ρ,S,x,_,sr,lr,h1,fun m1 v1 H1 e1 sr1 i1=>?_⟩;have fin:=post m1 _ H1 e1 sr1 (Is.bl_ (b:=Cn t T));cases x with
 |non=>cases ht;rw[i1.of_non];exact .inl ⟨_,_,_,_,rfl,.non,lS .non T hT0,fin⟩
 |bl b=>cases ht;rw[i1.of_bl];exact .inl ⟨_,_,_,_,rfl,.bl b,lS .bool T hT0,fin⟩
 |int i=>cases ht;rw[i1.of_int];exact .inl ⟨_,_,_,_,rfl,.int i,lS .int T hT0,fin⟩
 |str i=>cases ht;rw[i1.of_str];exact .inl ⟨_,_,_,_,rfl,.str i,lS .str T hT0,fin⟩
 |tup us=>
  cases ht;obtain⟨a,xs,rfl,sa,la⟩:=i1.of_tup;exact .inr ⟨a,xs,_,_,rfl,sa,lS .tuple T hT0,fin⟩
 |ref l=>
  obtain⟨a,ha,rfl⟩:=i1.of_ref;simp only[tyU]at ht;split at ht<;>try cases ht
  ·rename_i ws hS;obtain⟨a',ha',xs,hx,la⟩:=sr1.get hS;rw[ha]at ha';cases ha';exact .inl ⟨_,_,_,_,rfl,.lst hx,lS .list T hT0,fin⟩
  ·rename_i ws hS;obtain⟨a',ha',xs,hx,la⟩:=sr1.get hS;rw[ha]at ha';cases ha';exact .inl ⟨_,_,_,_,rfl,.dK hx,lS .dict T hT0,fin⟩
 |kl ns=>cases ht
def cBM(f:U->List U->Sto->Option (U×Sto))(co:CE)(cr:CA):CE:=fun ρ S=>(co ρ S).bind fun p=>match p.1 with
 |.ref l=>match p.2[l]? with
  |some (.lst _)=>(cr ρ p.2).bind fun q=>f p.1 q.1 q.2
  |_=>none
 |_=>none
def MtP(K:Q1)(r:V->List V->Hp->VK->Prop)(f:U->List U->Sto->Option (U×Sto)):Prop:=
 ∀m S H x v us vs u S' Q,Sr K m S H->Is K m H v x->IsL K m H vs us->f x us S=some (u,S')->iJ K m H Q u S'->r v vs H Q
theorem tM{r:V->List V->Hp->VK->Prop}{f:U->List U->Sto->Option (U×Sto)}{co:CE}{cr:CA}(hp:MtP K r f):∀σ H Q,tE K (cBM f co cr) σ H Q->tBM K "list" r (tE K co) (tA K cr) σ H Q:=by
 rintro σ H Q ⟨m,ρ,S,u,S',sr,lr,hc,post⟩;obtain⟨⟨x,S1⟩,h1,h2⟩:=Q0.mp hc;refine⟨m,ρ,S,x,S1,sr,lr,h1,fun m1 v1 H1 e1 sr1 i1=>?_⟩;cases x with
 |ref l=>
  simp only at h2;split at h2<;>try cases h2
  rename_i ws hS;obtain⟨⟨us,S2⟩,h3,h4⟩:=Q0.mp h2;obtain⟨a,ha,rfl⟩:=id i1.of_ref;obtain⟨a',ha',xs,hx,la⟩:=sr1.get hS;rw[ha]at ha';cases ha';exact⟨.inl ⟨rfl,xs,SqL.of hx⟩,m1,ρ,S1,us,S2,sr1,lr.mono e1,h3,fun m2 vs H2 e2 sr2 i2=>hp m2 S2 H2 _ _ us vs u S' Q sr2 (i1.mono e2) i2 h4 (post.mono (e1.trans e2))⟩
 |_=>simp at h2
def cR:U->List U->Sto->Option (U×Sto)
 |.ref l,[u],S=>match S[l]? with
  |some (.lst us)=>if us.length<LIM then some (.non,S.set l (.lst (us++[u])))else none
  |_=>none
 |_,_,_=>none
theorem zR:MtP K vZ cR:=by
 intro m S H x v us vs u S' Q sr ix i hf post;match x,us,hf with
 |.ref l,[w],hf=>
  simp only[cR]at hf;split at hf<;>try cases hf
  rename_i ws hS;split at hf<;>try cases hf
  rename_i hl;obtain⟨a,ha,rfl⟩:=ix.of_ref;obtain⟨a',ha',xs,hx,la⟩:=sr.get hS;rw[ha]at ha';cases ha';obtain⟨y,rfl,iy⟩:=i.one;have eu:Ext K m H m (upd H a (.lst (xs++[y]))):=.of (sr.keep ha _);exact⟨a,xs,y,rfl,rfl,hx,Eo (by rw[la.length];exact hl),post m _ _ eu (sr.put ha ⟨_,aG,(la.append (.cons_ iy .nil_)).mono eu⟩) .non_⟩
variable{e:Expr}{es:List Expr}{co:CE}{cr:CA}{o:Expr}{apos cpos:Pos}
theorem e9 (ho : QE X o co) (ha : QA X (e :: es) cr) (hbase : attributeBase o "append" X.env (eval o X.env) = eval o X.env := by rfl) (hfew : ((backTo cpos (starEach (e :: es) X.env)).all (fun x => !x.1) && (backToKw cpos (keywordEach [] X.env)).all (fun x => x.1.isSome)
   && decide ((e::es).length+([]:List Keyword).length+(if ([]:List Keyword).isEmpty then 0 else 1)<30))=true:=by rfl) (hline:(apos.endLine == cpos.line)=true:=by rfl) (hs:starEach (e::es) X.env=(false,eval e X.env)::starEach es X.env:=by rfl) (hplain:(backTo cpos (starEach es X.env)).any (·.1)=false:=by rfl) :
  QE X (.Call (.Attribute o "append" apos) (e::es) [] cpos) (cBM cR co cr):=(vn PySem.F.plainAttrs_list PySem.F.slot_list_append PySem.F.type_list_append lJ ho ha.h hbase hfew hline hs hplain).imp (tM zR)
end
structure TC(K:Q1)(c:Cl)(NS:List Str):Prop where
 cl:Cls K c.C
 ns:c.ns=NS
 nas:∀f∈NS,iO K c.C f
section
variable{K:Q1}{c:Cl}{NS:List Str}
theorem TC.ix(T:TC K c NS){i:Nat}{f:Str}(h:NS[i]?=some f):c.ns[i]?=some f:=by rw[T.ns];exact h
theorem TC.na(T:TC K c NS)(i:Nat){f:Str}(h:NS[i]?=some f):iO K c.C f:=T.nas f (List.mem_of_getElem? h)
theorem TC.nm(T:TC K c NS){f:Str}(h:f∉NS):f∉c.ns:=by rw[T.ns];exact h
end
theorem _root_.L2.Fun.pure{P:Program}{w:World}{K:Q1}{mg:Str->Option Value}{base:Heap}{x qual:Str}{st:Stmt}{f:Addr}{fd:FuncData}{N ps:List Str}{k:Nat}{c:CS}(F:Fun K x qual st f fd)(S:aP N ps (aw st))
  (hb:∀(cdv:Value) (A:Around) (outer:List Env) (s:Shared) (H:Hp) (E:XK),fX k (A.deeper (envOfC qual (aw st) s.heap.objs.size f cdv))->
   WSs (tj CX0 P w K mg base N qual (aw st) f cdv A outer s H E).nox (du st) (tS K c)):kh P w K mg base CX0 (k+1) f fd ps (vM K (fnU N.length ps.length c)):=
 Fun.okW F S (fun vs H Q E h=>rP h) fun cdv A outer s H vs Q E hr h=>⟨_,hb cdv A outer s H E hr,xG (X:=(tj CX0 P w K mg base N qual (aw st) f cdv A outer s H E).nox) (body:=[]) (ps:=ps) rfl h⟩
def SI:Bool->Heap->Addr->Addr->Nat->Prop
 |true,h,it,a,i=>h.IsListIter it a i
 |false,h,it,a,i=>h.IsTupleIter it a i
def SA:Bool->Heap->Addr->Array Value->Prop
 |true,h,a,xs=>h.IsList a xs
 |false,h,a,xs=>h.IsTuple a xs
theorem SI.at_{b:Bool}{h h':Heap}{it a:Addr}{i:Nat}(x:SI b h it a i)(k:∀o,h.get? it=some o->h'.get? it=some o):SI b h' it a i:=by
 cases b with
 |true=>obtain⟨o,e,r⟩:=x;exact⟨o,k o e,r⟩
 |false=>obtain⟨o,e,r⟩:=x;exact⟨o,k o e,r⟩
theorem SA.at_{b:Bool}{h h':Heap}{a:Addr}{xs:Array Value}(x:SA b h a xs)(k:∀o,h.get? a=some o->h'.get? a=some o):SA b h' a xs:=by
 cases b with
 |true=>obtain⟨o,e,r⟩:=x;exact⟨o,k o e,r⟩
 |false=>obtain⟨o,e,r⟩:=x;exact⟨o,k o e,r⟩
theorem SI.obj{b:Bool}{h:Heap}{it a:Addr}{i:Nat}(x:SI b h it a i):∃o,h.get? it=some o/\∀v,o.data≠.cell v:=by
 cases b with
 |true=>obtain⟨o,e,c,d⟩:=x;exact⟨o,e,fun v z=>by rw[d]at z;cases z⟩
 |false=>obtain⟨o,e,c,d⟩:=x;exact⟨o,e,fun v z=>by rw[d]at z;cases z⟩
theorem SA.lt{b:Bool}{h:Heap}{a:Addr}{xs:Array Value}(x:SA b h a xs):a<h.objs.size:=by
 cases b with
 |true=>obtain⟨o,e,_⟩:=x;exact QR e
 |false=>obtain⟨o,e,_⟩:=x;exact QR e
section
variable{prog:Program}{w:World}{A:Around}{E:Value->Shared->Prop}{s:Shared}
theorem zc{I t:Addr}{j:Nat}{ys:Array Value}{y:Value}{Q:Value->Shared->Prop}(hI:s.heap.IsTupleIter I t j)(hT:s.heap.IsTuple t ys)(hy:ys[j]?=some y)
  (k:∀h',h'.IsTupleIter I t (j+1)->ZH I s.heap h'->Q y { s with heap:=h' }):wpAny (model prog w) A (Builtin.SmallTypes.nextOf (.ref I)) Q E s:=by
 obtain⟨oi,gi,ci,di⟩:=id hI;obtain⟨ot,gt,_,nt,dt⟩:=hT;unfold Builtin.SmallTypes.nextOf;refine Q2 (wpAny_callSpecial?_slot (name:=Str.ofString "__next__") hI.typeIs PySem.F.slot_tuple_iterator_next (wpAny_call_entry PySem.F.slot_tuple_iterator_next hI.typeIs PySem.F.entry_tuple_iterator_next ?_ (PySem.F.args_tuple_iterator_next_1 _)));show wpAny _ _ (field (.ref I) 0 >>= _) _ _ s;refine Q2 (wpAny_field gi di (x:=.ref t) rfl ?_);show wpAny _ _ (ite ((Value.ref t == Value.none)=true) _ _) _ _ s;rw[if_neg (by exact QV)];show wpAny _ _ (field (.ref I) 1 >>= _) _ _ s;refine Q2 (wpAny_field gi di (x:=.int j 0) rfl ?_);show wpAny _ _ (seqItems? (.ref t) >>= _) _ _ s;refine Q2 (wpAny_seqItems gt dt ?_);simp only[hy,ZF];refine Q2 (wpAny_setField gi di (by simp) (Q9 ⟨y,rfl,Q9 (k _ ⟨_,Heap.get?_update_self _ gi (Obj.isFreed_of_fields (Obj.data_mapFields di _)),(Obj.cls_mapFields ..).trans ci,?_⟩ (Heap.SameBut.update ..))⟩));rw[Obj.data_mapFields di];simp[rawInt]
theorem oX{I t:Addr}{j:Nat}{ys:Array Value}{Q:Value->Shared->Prop}(hh:A.handled=none)(hI:s.heap.IsTupleIter I t j)(hT:s.heap.IsTuple t ys)(hy:ys[j]?=none)
  (k:∀h' e,Heap.ExtBut I s.heap h'->(∃o,h'.get? e=some o/\o.cls=.type "StopIteration")->E (.ref e) { s with heap:=h' }):wpAny (model prog w) A (Builtin.SmallTypes.nextOf (.ref I)) Q E s:=by
 obtain⟨oi,gi,ci,di⟩:=id hI;obtain⟨ot,gt,_,nt,dt⟩:=hT;unfold Builtin.SmallTypes.nextOf;refine Q2 (wpAny_callSpecial?_slot (name:=Str.ofString "__next__") hI.typeIs PySem.F.slot_tuple_iterator_next (wpAny_call_entry PySem.F.slot_tuple_iterator_next hI.typeIs PySem.F.entry_tuple_iterator_next ?_ (PySem.F.args_tuple_iterator_next_1 _)));show wpAny _ _ (field (.ref I) 0 >>= _) _ _ s;refine Q2 (wpAny_field gi di (x:=.ref t) rfl ?_);show wpAny _ _ (ite ((Value.ref t == Value.none)=true) _ _) _ _ s;rw[if_neg (by exact QV)];show wpAny _ _ (field (.ref I) 1 >>= _) _ _ s;refine Q2 (wpAny_field gi di (x:=.int j 0) rfl ?_);show wpAny _ _ (seqItems? (.ref t) >>= _) _ _ s;refine Q2 (wpAny_seqItems gt dt ?_);simp only[hy,ZF];refine Q2 (wpAny_rule (Q2 (wpAny_setField gi di (by simp) ?_)));show wpAny _ _ (newExc (.type "StopIteration") [] >>= _) _ _ _;simp only[newExc,newTuple];refine Q2 ?_;refine Q2 (wpAny_newObj_type ?_ (by(size_fits)));refine Q2 (m:=firstArgMember _ _) (wpAny_of_eq (a:=Value.none) (by simp only[firstArgMember]<;>rfl) ?_);refine wpAny_newObj_type ?_ (by(size_fits));simp only[raiseNew];refine Q2 (wpAny_handled ?_);rw[show A.in1.handled=none from hh];exact Q2 (Q9 (wpAny_throw (k _ _ (((Heap.SameBut.update ..).extBut.push _).push _) ⟨_,QY _ rfl,rfl⟩)))
theorem Co{b:Bool}{I t:Addr}{j:Nat}{ys:Array Value}{y:Value}{Q:Value->Shared->Prop}(hI:SI b s.heap I t j)(hT:SA b s.heap t ys)(hy:ys[j]?=some y)
  (k:∀h',SI b h' I t (j+1)->ZH I s.heap h'->Q y { s with heap:=h' }):wpAny (model prog w) A (Builtin.SmallTypes.nextOf (.ref I)) Q E s:=by
 cases b with
 |true=>exact wpAny_nextOf_list_item hI hT hy k
 |false=>exact zc hI hT hy k
theorem kS{b:Bool}{I t:Addr}{j:Nat}{ys:Array Value}{Q:Value->Shared->Prop}(hh:A.handled=none)(hI:SI b s.heap I t j)(hT:SA b s.heap t ys)(hy:ys[j]?=none)
  (k:∀h' e,Heap.ExtBut I s.heap h'->(∃o,h'.get? e=some o/\o.cls=.type "StopIteration")->E (.ref e) { s with heap:=h' }):wpAny (model prog w) A (Builtin.SmallTypes.nextOf (.ref I)) Q E s:=by
 cases b with
 |true=>exact wpAny_nextOf_list_end hh hI hT hy k
 |false=>exact oX hh hI hT hy k
def itO(b:Bool)(a:Addr):Obj:={ cls:=.type (if b then "list_iterator" else "tuple_iterator"),data:=.fields #[.ref a,.int 0 0] }
theorem Be{b:Bool}{a i:Addr}{h:Heap}(e:h.get? i=some (itO b a)):SI b h i a 0:=by
 cases b with
 |true=>exact⟨_,e,rfl,rfl⟩
 |false=>exact⟨_,e,rfl,rfl⟩
end
def Sq(K:Q1):Bool->Hp->Addr->List V->Prop
 |true,H,a,xs=>SqL K H a xs
 |false,H,a,xs=>SqT K H a xs
section
variable{X:Cx}{pins:List (Addr×Obj)}{σ:L2.St}{H:Hp}{s:Shared}{h':Heap}
theorem _root_.L2.Inv.turnedL{t':Nat}{ch:List Addr}(I:Inv X pins σ H s)(k:∀b o,b∉ch->s.heap.get? b=some o->h'.get? b=some o)(hf:∀b∈ch,uY X pins H b):Inv X pins σ H { s with heap:=h',toks:=t' }:=by
 have nit:∀b u,H b=some u->b∉ch:=fun b u e z=>by rw[(hf b z).1]at e;cases e
 refine I.step (g':=s.gens) (d':=s.drawn) (ch:=ch) (fun b hb=>⟨(hf b hb).2.2.2.1,(hf b hb).2.1,(hf b hb).2.2.2.2.1,(hf b hb).2.2.2.2.2⟩) (fun b o _ _ hc e _=>k b o hc e) (fun b o _ _ hc e _=>⟨o.slots,k b o hc e⟩) (fun _ _ _ _ n=>n)
  (fun b o hc e=>⟨o,k b o hc e⟩) (fun _ _ e=>e) (fun _ _ _ e=>e) (fun b ps e=>⟨#[],by rw[e];simp⟩) (fun m hm=>?_) (fun b u e=>?_) I.bare
 ·obtain⟨o,es,ep,ho,r⟩:=hm;exact⟨o,es,ep,k _ o (fun z=>(hf _ z).2.1 rfl) ho,r⟩
 ·refine(I.hok b u e).stay (fun c v hc q=>k c v ?_ q) (fun _ q=>q) fun _ _ q=>q;rcases hc with z|z
  ·rw[z];exact nit b u e
  ·exact nit c _ z
theorem _root_.L2.Inv.sq{b:Bool}{a:Addr}{xs:List V}(I:Inv X pins σ H s)(h:Sq X.K b H a xs):∃its:List Value,bP xs its/\SA b s.heap a its.toArray:=by
 cases b with
 |true=>obtain⟨its,r,p,_⟩:=I.list h;exact⟨its,r,p.isList⟩
 |false=>obtain⟨its,r,p,_⟩:=I.tuple h;exact⟨its,r,p⟩
theorem _root_.L2.Inv.sq_inj{b:Bool}{a:Addr}{xs ys:List V}(I:Inv X pins σ H s)(h:Sq X.K b H a xs)(h2:Sq X.K b H a ys):xs=ys:=by
 cases b with
 |true=>exact I.list_inj h h2
 |false=>exact I.tuple_inj h h2
end
theorem sd{h:Heap}{ob o:Obj}{e:Addr}(q:(h.push ob).get? e=some o)(ne:e≠h.objs.size):h.get? e=some o:=(Heap.get?_push_ne h e ob ne).symm.trans q
theorem sf{P:Program}{w:World}{H:Hp}{h:Heap}{a:Addr}{x y:V}{u v:Value}(e:h.get? a=some { cls:=.type "tuple",data:=.seq #[u,v] })(rx:bV x u)(ry:bV y v):bU P w H h a (.tup [x,y]):=
 ⟨by show 2<=sizeLine;decide,[u,v],.cons rx (.cons ry .nil),⟨_,e,rfl,_,rfl⟩⟩
def El:U->Sto->Option (List U×(Sto->Prop))
 |.tup us,_=>some (us,fun _=>True)
 |.ref l,S=>match S[l]? with
  |some (.lst us)=>some (us,fun S=>S[l]?=some (.lst us))
  |_=>none
 |_,_=>none
theorem FR{K:Q1}{m:List Addr}{S:Sto}{H:Hp}{u:U}{v:V}{us:List U}{ok:Sto->Prop}(sr:Sr K m S H)(iu:Is K m H v u)(h:El u S=some (us,ok)) :
  ∃b a,v=.ref a/\(∃xs,Sq K b H a xs)/\∀m2 S2 H2,Ext K m H m2 H2->Sr K m2 S2 H2->ok S2->∃xs,Sq K b H2 a xs/\IsL K m2 H2 xs us:=by
 cases u with
 |tup ws=>
  cases h;obtain⟨a,xs,rfl,sq,il⟩:=iu.of_tup;exact⟨false,a,rfl,⟨xs,sq⟩,fun m2 S2 H2 e _ _=>⟨xs,e.keep.t _ _ sq,il.mono e⟩⟩
 |ref l=>
  simp only[El]at h;split at h<;>try cases h
  rename_i us hS;obtain⟨a,ha,rfl⟩:=iu.of_ref;obtain⟨a',ha',xs,hx,il⟩:=sr.get hS;rw[ha]at ha';cases ha';refine⟨true,a,rfl,⟨xs,SqL.of hx⟩,fun m2 S2 H2 e sr2 hok=>?_⟩;obtain⟨a',ha',xs,hx,il⟩:=sr2.get hok;rw[e.get ha]at ha';cases ha';exact⟨xs,SqL.of hx,il⟩
 |_=>simp[El]at h
theorem xU{b:Bool}{prog:Program}{w:World}{A:Around}(hh:A.handled=none)(it a:Addr)(hne:a≠it)(ys:Array Value) :
  Draws prog w A it [it,a] ys.size (fun i v=>ys[i]?=some v) (fun i h=>SI b h it a i/\SA b h a ys) where
 live:=fun _ _ st=>let ⟨o,ho,_⟩:=st.1.obj;⟨o,ho⟩
 frame:=fun _ _ _ st hk=>⟨st.1.at_ fun o e=>hk it (by simp) o e,st.2.at_ fun o e=>hk a (by simp) o e⟩
 item:=fun i s Q E hi st hQ=>Co st.1 st.2 (y:=ys[i]) (by simp[hi]) fun h' it' s'=>hQ _ h' s.toks (by simp[hi]) ⟨it',st.2.at_ fun o e=>s'.extBut _ _ hne e⟩ s'
 done:=fun s Q E st hE=>kS hh st.1 st.2 (by simp) hE
structure ESt(b:Bool)(h:Heap)(e it a:Addr)(n:Nat):Prop where
 he:∃old,IsEnum h e it n old
 hi:SI b h it a n
theorem xO(l:Addr)(ys:Array Value)(n:Nat)(dct:Option Addr)(sl:Array (Option Value)) :
  Meets (Builtin.«enumerate.__new__» ⟨[.type "enumerate",.ref l],[]⟩) (fun _ R s=>s.heap.get? l=some { cls:=.type "tuple",dict:=dct,data:=.seq ys n,slots:=sl }/\
   R (.ok (.ret (.ref (s.heap.push (itO false l)).objs.size))) { s with heap:=(s.heap.push (itO false l)).push { cls:=.type "enumerate",data:=.fields #[.none,.bool false,.ref s.heap.objs.size,rawInt 0,.none,.none] } }):=
 .of_wp fun prog w A R s q=>by
  obtain⟨hp,g,d,tk,os⟩:=s;obtain⟨gl,q⟩:=q;have sb:=sub_enumerate;have tl:Heap.IsTuple (Shared.heap ⟨hp,g,d,tk,os⟩) l ys:=⟨_,gl,rfl,n,rfl⟩
  wp_walk using wpAny_loadPart' gl
  refine wpAny_stack_any (fun st=>Q9 ?_);split
  ·rename_i c _ _ _ _ _;cases (c == Value.type "enumerate")<;>(wp_walk using wpAny_loadPart' gl,wpAny_pyIter_tuple tl;exact⟨_,rfl,q⟩)
  ·wp_walk using wpAny_loadPart' gl,wpAny_pyIter_tuple tl
   exact⟨_,rfl,q⟩
theorem xQ{b:Bool}{prog:Program}{w:World}{A:Around}{E:Value->Shared->Prop}{s:Shared}{a:Addr}{ys:Array Value}{Q:Value->Shared->Prop}(ha:SA b s.heap a ys)
  (k:∀h' e it,e≠it->s.heap.objs.size<=e->s.heap.objs.size<=it->ESt b h' e it a 0->(∀c o,s.heap.get? c=some o->h'.get? c=some o)->Q (.ref e) { s with heap:=h' }) :
  wpAny (model prog w) A (call (.type "enumerate") [.ref a]) Q E s:=by
 cases b with
 |true=>exact call_enumerate_list ha fun h' e1 e2 sz up=>k h' _ _ (by omega) (Nat.le_add_right _ _) (QX _) ⟨⟨_,e1⟩,e2⟩ up
 |false=>
  obtain⟨⟨c,dct,dt,sl⟩,gl,hc,n,hd⟩:=ha;simp only at hc hd;subst hc hd;refine callType_new PySem.F.called_enumerate (by decide) (PySem.F.typeCall_enumerate_1 _) (PySem.F.newCall_enumerate_1 _) (fun obj=>PySem.F.args_object_init_2 obj _) PySem.F.entry_enumerate_new (xO a ys n dct sl) ⟨gl,?_⟩;have n1:(s.heap.push (itO false a)).objs.size=s.heap.objs.size+1:=ZM ..;have p2:=QY (s.heap.push (itO false a)) (o:={ cls:=.type "enumerate",data:=.fields #[.none,.bool false,.ref s.heap.objs.size,rawInt 0,.none,.none] }) rfl;have p1:((s.heap.push (itO false a)).push { cls:=.type "enumerate",data:=.fields #[.none,.bool false,.ref s.heap.objs.size,rawInt 0,.none,.none] }).get? s.heap.objs.size=some (itO false a):=QQ _ (QY _ rfl);rw[n1]at p2;show _/\_;rw[n1];exact⟨⟨_,p2,rfl⟩,k _ (s.heap.objs.size+1) s.heap.objs.size (Nat.ne_of_gt (Nat.lt_succ_self _)) (Nat.le_add_right _ _) (QX _) ⟨⟨_,p2⟩,Be p1⟩ fun c o x=>QQ _ (QQ _ x)⟩
theorem sY{b:Bool}{prog:Program}{w:World}{A:Around}{E:Value->Shared->Prop}{s:Shared}{e it a:Addr}{i:Int}{j:Nat}{ys:Array Value}{old:Value}{Q:Option Value->Shared->Prop}(hh:A.in1.handled=none)(he:IsEnum s.heap e it i old)(hi:SI b s.heap it a j)(ha:SA b s.heap a ys)(hx:ys[j]?=none)
  (k:∀h',Heap.ExtBut it s.heap h'->Q none { s with heap:=h' }):wpAny (model prog w) A (pyNext (.ref e)) Q E s:=by
 have ty:s.TypeIs (.ref e) "enumerate":=⟨_,he,rfl⟩;unfold pyNext;refine Q2 (wpAny_attempt (wpAny_callSpecial?_slot (name:=Str.ofString "__next__") ty PySem.F.slot_enumerate_next (wpAny_call_entry PySem.F.slot_enumerate_next ty PySem.F.entry_enumerate_next ?_ (PySem.F.args_enumerate_next_1 _))));show wpAny _ _ (field (.ref e) 2 >>= fun _=>_) _ _ _;refine Q2 (wpAny_field he rfl (x:=.ref it) rfl (Q2 (kS hh hi ha hx fun h' x he' hx'=>?_)));obtain⟨o,ho,co⟩:=hx';exact Q2 (wpAny_isInstance (T:="StopIteration") (b:=true) ⟨o,ho,co⟩ isSubtype_stop (Q9 (k _ he')))
def Ite(K:Q1)(b:Bool)(a:Addr):It:=
  ⟨fun i H=>∃xs x,Sq K b H a xs/\xs[i]?=some x,
   fun i H v H'=>∃p x,v=.ref p/\H p=none/\H'=upd H p (.tup [.int i,x])/\∀xs,Sq K b H a xs->xs[i]?=some x,
   fun i H=>∃xs,Sq K b H a xs/\xs.length<=i⟩
theorem vB{P:Program}{w:World}{K:Q1}{es:List Expr}{k:Nat}{pos:Pos}{b:Bool}{e it a:Addr}(ne:e≠it)(nae:a≠e)(nai:a≠it) :
  Bu P w K (.Tuple es k pos) (Ite K b a) [e,it] e (fun n h=>ESt b h e it a n) where
 mem:=by simp
 obj:=fun n h st c hc=>by
  obtain⟨⟨old,he⟩,hi⟩:=st;simp only[QD,Qe,or_false]at hc;rcases hc with rfl|rfl
  ·exact⟨_,he,fun v q=>by cases q⟩
  ·exact hi.obj
 keep:=fun n h h' st kp=>let ⟨old,he⟩:=st.he;⟨⟨old,kp e (by simp) _ he⟩,st.hi.at_ fun o q=>kp it (by simp) o q⟩
 item:=by
  intro X hP hw hK hc n pins s σ H E Iv hf st hg;subst hP hw hK;obtain⟨xs,x,qa,hx⟩:=hg;obtain⟨ia,ra,sa⟩:=Iv.sq qa;obtain⟨u,hu,ru⟩:=ra.get hx;obtain⟨⟨old,he⟩,hi⟩:=st;have hlt:n<ia.toArray.size:=by simpa using (Q5.mp hu).1
  refine wpAny_pyNext_enum_itemD (xU (b:=b) (show X.A.in1.handled=none from Iv.ok.hd hc) it a nai ia.toArray) he ⟨hi,sa⟩ hlt ne (by simp[ne,Ne.symm nae]) fun y h1 tk py out1 st1 T1 sz1 up1=>⟨_,rfl,wpAny_letOwnedTupleGo_enum out1 fun h2 e2 s2=>?_⟩;have ey:y=u:=by
   have p':ia.toArray[n]?=some y:=py;rw[List.getElem?_toArray,hu]at p';cases p';rfl
  subst ey;have hfr:H s.heap.objs.size=none:=Iv.hok.fresh (QX _);have elt:e<s.heap.objs.size:=QR he;have ilt:it<s.heap.objs.size:=by obtain⟨o,q,_⟩:=hi.obj;exact QR q
  have sz:∀c∈[e,it],c<s.heap.objs.size:=fun c hc=>by
   simp only[QD,Qe,or_false]at hc;rcases hc with rfl|rfl
   ·exact elt
   ·exact ilt
  have T2:h2.get? s.heap.objs.size=some { cls:=.type "tuple",data:=.seq #[.int n tk,y] }:=s2.extBut _ _ (Nat.ne_of_gt elt) T1;have I1:Inv X pins σ (upd H s.heap.objs.size (.tup [.int n,x])) { s with heap:=s.heap.push { cls:=.type "tuple",data:=.seq #[.int n tk,y] },toks:=s.toks }:=
   Iv.laid (fun b o e=>QQ _ e) (QX _) (sf (QY _ rfl) ⟨tk,rfl⟩ ru)
  have fr2:∀c∈[e,it],(upd H s.heap.objs.size (.tup [.int n,x])) c=none:=fun c hc=>by rw[bj (QL (sz c hc))];exact(hf c hc).1
  have I2:Inv X pins σ (upd H s.heap.objs.size (.tup [.int n,x])) { s with heap:=h2,toks:=tk+1 }:=
   Inv.turnedL (s:={ s with heap:=s.heap.push { cls:=.type "tuple",data:=.seq #[.int n tk,y] },toks:=s.toks }) (h':=h2) (t':=tk+1) (ch:=[e,it]) I1 (fun c o hn q=>by
    by_cases ce:c=s.heap.objs.size
    ·subst ce;have q':(s.heap.push { cls:=.type "tuple",data:=.seq #[.int n tk,y] }).get? s.heap.objs.size=some o:=q;rw[QY _ rfl]at q';cases q';exact T2
    ·have q':s.heap.get? c=some o:=sd q ce;simp only[QD,Qe,or_false,not_or]at hn;exact s2.extBut _ _ hn.1 (up1 c o hn.1 hn.2 q')) fun c hc=>⟨fr2 c hc,(hf c hc).2⟩
  refine⟨.ref s.heap.objs.size,_,I2,rfl,⟨_,x,rfl,hfr,rfl,fun xs' q=>by rw[Iv.sq_inj q qa];exact hx⟩,⟨⟨_,by simpa using e2⟩,st1.1.at_ fun o q=>s2.extBut _ _ (Ne.symm ne) q⟩,fr2⟩
 done:=by
  intro X hP hw hK hc n pins s σ H E Iv hf st hg;subst hP hw hK;obtain⟨xs,qa,hx⟩:=hg;obtain⟨ia,ra,sa⟩:=Iv.sq qa;have la:=ra.length;obtain⟨⟨old,he⟩,hi⟩:=st;refine sY (show X.A.in1.handled=none from Iv.ok.hd hc) he hi sa (by simp;omega) fun h1 up1=>⟨rfl,?_⟩;exact Iv.turnedL (t':=s.toks) (ch:=[e,it]) (fun c o hn q=>by
   simp only[QD,Qe,or_false,not_or]at hn;exact up1 c o hn.2 q) hf
 self:=fun _ _ _ _ _ st h=>let ⟨old,he⟩:=st.he;wpAny_pyIter_enum he h
def Hx(K:Q1)(ta:TA):TI:=fun σ H R=>ta σ H fun vs H2=>∃b a,vs=[.ref a]/\(∃xs,Sq K b H2 a xs)/\R (Ite K b a) H2
theorem p9:bootBuiltins "enumerate"=some (.type "enumerate"):=rfl
section
variable{X:Cx}{pos:Pos}
theorem B9{es:List Expr}{k:Nat}{tp p:Pos}{a:Expr}{ta:TA}(hg:Gl X "enumerate")(hm:X.mg "enumerate"=none)(ha:WA X [a] ta)
  (hs:starEach [a] X.env=(false,eval a X.env)::starEach [] X.env:=by rfl) (hpl:(backTo pos (starEach [] X.env)).any (·.1)=false:=by rfl):WI X (.Tuple es k tp) (.Call (.Name "enumerate" p) [a] [] pos) (Hx X.K ta):=by
 constructor;intro pins s σ H R I h;refine wpAny_Call_Name_kw (j9 I hg hm OP.p9 ?_);refine PyProof.Rows.callWith_type1 (thn (ha.h pos pins s σ H _ I h) fun us s1 hz=>?_) hs hpl;obtain⟨vs,H1,I1,r1,q1⟩:=hz;obtain⟨b,aa,rfl,⟨xs,qa⟩,q⟩:=q1;obtain⟨u,rfl,ru⟩:=ki r1;cases ru;obtain⟨ia,ra,sa⟩:=I1.sq qa;refine xQ sa fun h1 e it ne he hi st up=>?_;obtain⟨old,hE⟩:=st.he;refine wpAny_pyIter_enum hE ⟨e,[e,it],_,_,H1,rfl,I1.kept (t':=s1.toks) up,vB ne (QL (Qy sa.lt he)) (QL (Qy sa.lt hi)),st,fun c hc=>?_,q⟩;simp only[QD,Qe,or_false]at hc;rcases hc with rfl|rfl
 ·exact I1.fpOk he (I1.hok.fresh he)
 ·exact I1.fpOk hi (I1.hok.fresh hi)
def uD(us:List U):List U:=us.zipIdx.map fun p=>.tup [.int p.2,p.1]
def xx(ca:CE):CI:=fun ρ S=>(ca ρ S).bind fun p=>(El p.1 p.2).bind fun x=>some (uD x.1,x.2,p.2)
theorem we{es:List Expr}{k:Nat}{tp p:Pos}{a:Expr}{ca:CE}(hg:Gl X "enumerate")(hm:X.mg "enumerate"=none)(ha:QE X a ca)
  (hs:starEach [a] X.env=(false,eval a X.env)::starEach [] X.env:=by rfl) (hpl:(backTo pos (starEach [] X.env)).any (·.1)=false:=by rfl) :
  QI X (.Tuple es k tp) (.Call (.Name "enumerate" p) [a] [] pos) (xx ca):=(B9 hg hm (dR ha iP hs) hs hpl).imp fun σ H R hz=>qi hz fun m ρ S us ok S' sr lr hf post=>by
 obtain⟨⟨x,S1⟩,h1,h⟩:=Q0.mp hf;obtain⟨⟨xs,okx⟩,h3,h⟩:=Q0.mp h;cases h;refine⟨m,ρ,S,x,_,sr,lr,h1,fun m1 v1 H1 e1 sr1 i1=>?_⟩;obtain⟨b,aa,rfl,q1,k1⟩:=FR sr1 i1 h3;refine⟨b,aa,rfl,q1,post m1 H1 _ e1 sr1 fun m3 S3 H3 i e3 sr3 hok=>?_⟩;obtain⟨vs,sq1,l1⟩:=k1 m3 S3 H3 e3 sr3 hok;have n1:=l1.length;refine⟨fun u hu=>?_,fun hi=>⟨vs,sq1,?_⟩⟩
 ·simp only[uD,QC,Qc,List.getElem?_zipIdx]at hu;obtain⟨⟨p,q⟩,⟨y,hp,e⟩,rfl⟩:=hu;cases e;obtain⟨vp,ep,ip⟩:=l1.getD hp;refine⟨⟨vs,vp,sq1,ep⟩,fun v H4 hy=>?_⟩;obtain⟨r,x',rfl,hr,rfl,f1⟩:=hy;have:=f1 vs sq1;rw[ep]at this;cases this;have ee:Ext X.K m3 H3 m3 (upd H3 r (.tup [.int i,vp])):=.of (bI hr _);exact⟨ee,sr3.same (cV hr _),.tup_ (SqT.of aG) (.cons_ (by simp only[Nat.zero_add];exact .int_) (.cons_ (ip.mono ee) .nil_))⟩
 ·simp only[uD,Q6,List.length_zipIdx]at hi;omega
def lB:List (CE×CE)->Rho->Sto->Option (List (Key×U)×Sto)
 |[],_,S=>some ([],S)
 |(ck,cv)::r,ρ,S=>(ck ρ S).bind fun p=>(cv ρ p.2).bind fun q=>(km p.1).bind fun k=>(lB r ρ q.2).bind fun z=>some ((k,q.1)::z.1,z.2)
def GX(kus:List (Key×U))(au:List (Key×U)):List (Key×U):=kus.foldl (fun acc kv=>fj acc kv.1 kv.2) au
def wO(kus:List (Key×U)):List (Key×U):=GX kus []
def HX(prs:List (CE×CE)):CE:=fun ρ S=>(lB prs ρ (S++[.dic []])).bind fun q=>match q.2[S.length]? with
 |some (.dic [])=>some (.ref S.length,q.2.set S.length (.dic (wO q.1)))
 |_=>none
end
theorem pA:∀{vs:List Value} {ns:List Int},IntsAre vs ns->bP (ns.map V.int) vs
 |_,_,.nil=>.nil
 |_,_,.cons n t r=>.cons ⟨t,rfl⟩ (pA r)
theorem fF:∀{ns:List Int} {vs:List Value},bP (ns.map V.int) vs->IntsAre vs ns
 |[],_,h=>by cases h;exact .nil
 |n::ns,_,.cons r t=>by
  obtain⟨k,rfl⟩:=r;exact .cons n k (fF t)
def vY(K:Q1):List V->Hp->VK->Prop:=fun xs H Q=>∃(p:Addr) (ns:List Int),xs=[.ref p]/\(SqL K H p (ns.map V.int)\/∃kvs,H p=some (.dK kvs)/\kvs.map (·.1)=ns.map Sum.inl)/\ns.length<64/\
 ∀(l:Addr) (ms:List Int),H l=none->ms.Perm ns->ms.Pairwise (·<=·)->Q (.ref l) (upd H l (.lst (ms.map V.int)))
theorem xa{κ:Type}:∀{kvs:List (κ×V)} {vs:List (κ×Value)},KV kvs vs->vs.map (·.1)=kvs.map (·.1)
 |_,_,.nil=>rfl
 |_,_,.cons r t=>by rw[QJ,QJ,xa t,r.1]
theorem qH{P:Program}{w:World}{H:Hp}{h:Heap}{a:Addr}{ms:List Int}{out:Array Value}{e:Nat}(g:h.get? a=some (seqObj "list" out e))(hI:IntsAre out.toList ms)(hl:ms.length<64):bU P w H h a (.lst (ms.map V.int)):=
 ⟨by rw[Q6];exact Nat.le_of_lt (Qy hl (by unfold sizeLine;decide)),out.toList,e,pA hI,by rw[Array.toArray_toList];exact g⟩
theorem sj{X:Cx}(hc:X.calm=true):eZ X (.builtin "sorted") (vY X.K):=by
 rintro pins s σ H xs us Q I r ⟨p,ns,rfl,src,h64,q⟩;obtain⟨u,rfl,ru⟩:=ki r;cases ru;rcases src with hL|⟨kvs,hD,hk⟩
 ·obtain⟨its,rv,pl,hz⟩:=I.list hL;have hI:=fF rv;have ed:=rv.length;rw[Q6]at ed;refine sorted_ints pl.isList hI (by omega) fun out ms a1 a2 a3=>?_;obtain⟨e,ge⟩:=sortedAll_at s.heap its out;have hf:=I.hok.fresh (Nat.le_succ s.heap.objs.size);exact⟨.ref (s.heap.objs.size+1),_,I.laid (t':=s.toks) (fun b o e=>sortedAll_old e) (Nat.le_succ _) (qH ge a1 (by rw[a2.length_eq];exact h64)),rfl,q _ ms hf a2 a3⟩
 ·obtain⟨z,hd,vs,rel,dd⟩:=DY I.hok hD;obtain⟨ep,da⟩:=dd.dictAt;have lkv:kvs.length=ns.length:=by have:=congrArg List.length hk;simpa using this
  have lv:vs.length=ns.length:=by rw[<-Paired.length rel];exact lkv
  have ks:vs.map (·.1)=ns.map Sum.inl:=by
   rw[<-hk];exact xa rel
  refine Calls.call_function_entry kind_sorted plain_sorted entry_sorted (args_sorted1 _) ?_;unfold Builtin.«sorted»;refine Q2 (m:=checkCount "sorted" 1 1 _) (Q9 (Q2 (PySem.W.kdu_collect (PySem.W.kdl_dict (kvs:=vs) (ep:=ep) hd) (show X.A.in1.handled=none from I.ok.hd hc) da (by rw[lv,<-lkv];exact z) fun h1 tk acc up hac=>?_)));have hla:acc.toList.length=ns.length:=by rw[ZK,hac.1,lv]
  have hI:IntsAre acc.toList ns:=by
   have key:∀(i:Nat) (v:Value),acc.toList[i]?=some v->∃(n:Int) (t:Tok),ns[i]?=some n/\v=Value.int n t:=fun i v e=>by
    obtain⟨k,x,e1,e2⟩:=hac.2 i v (by rw[<-ZE];exact e);have e3:(vs.map (·.1))[i]?=some k:=by rw[QC,e1];rfl
    rw[ks,QC]at e3;obtain⟨n,e4,e5⟩:=Qc.mp e3;subst e5;rcases bH (k:=Sum.inl n) e2 with⟨j,t,e6,e7⟩|⟨j,t,e6,e7⟩
    ·cases e6;exact⟨n,t,e4,e7⟩
    ·cases e6
   clear hac;generalize acc.toList=L at key hla;clear ks lv lkv h64 q hk;induction L generalizing ns with
   |nil=>cases ns with
    |nil=>exact .nil
    |cons a b=>simp at hla
   |cons a b ih=>cases ns with
    |nil=>simp at hla
    |cons c d=>
     obtain⟨n,t,e1,e2⟩:=key 0 a (by simp);simp at e1;subst e1;subst e2;exact .cons _ t (ih _ (fun i v e=>by have:=key (i+1) v (by simpa using e);simpa using this) (by simpa using hla))
  refine Q2 (wpAny_newList ?_ (by rw[hla,<-lkv];exact z));have gL:(h1.push { cls:=.type "list",data:=.seq acc.toList.toArray }).get? h1.objs.size=some (seqObj "list" acc.toList.toArray 0):=QY _ rfl;refine Q2 (wpAny_holding (wpAny_call_entry slot_list_sort ⟨_,gL,rfl⟩ entry_list_sort (list_sort_tree (s:={ s with heap:=h1.push { cls:=.type "list",data:=.seq acc.toList.toArray },toks:=tk }) gL hI (by omega) fun out ms a1 a2 a3=>⟨_,rfl,?_⟩) (args_list_sort _)));obtain⟨e,ge⟩:=sortedHeap_at (out:=out) gL;have I1:Inv X pins σ H { s with heap:=h1,toks:=tk }:=I.kept up;have hf:=I1.hok.fresh (QX h1.objs.size);refine Q9 ⟨_,rfl,.ref h1.objs.size,_,Inv.laid (s:={ s with heap:=h1,toks:=tk }) (h':=sortedHeap (h1.push { cls:=.type "list",data:=.seq acc.toList.toArray }) h1.objs.size acc.toList out) (t':=tk) I1 (fun b o g1=>?_) (QX _) (qH ge a1 (by rw[a2.length_eq];exact h64)),rfl,q _ ms hf a2 a3⟩;have g1:h1.get? b=some o:=g1;have lt1:=QR g1;rw[sortedHeap_old (QL lt1) (by rw[ZM];exact Nat.lt_succ_of_lt lt1)];exact QQ _ g1
def aW(ns:List Int):List Int:=ns.mergeSort (fun a b=>decide (a<=b))
theorem aN(ns:List Int):(aW ns).Perm ns:=List.mergeSort_perm ..
theorem gJ(ns:List Int):(aW ns).Pairwise (·<=·):=by
 have:=List.pairwise_mergeSort (le:=fun(a b:Int)=>decide (a<=b)) (fun a b c h1 h2=>by simp at h1 h2 ⊢;omega) (fun a b=>by simp;omega) ns;exact this.imp fun h=>by simpa using h
theorem iC{ns ms:List Int}(p:ms.Perm ns)(s:ms.Pairwise (·<=·)):ms=aW ns:=PySem.W.lks_uniq (p.trans (aN ns).symm) s (gJ ns)
def uk:List (Key×U)->Option (List Int)
 |[]=>some []
 |(.inl n,_)::r=>(uk r).map (n::·)
 |_=>none
theorem sJ:∀{kus:List (Key×U)} {ns:List Int},uk kus=some ns->kus.map (·.1)=ns.map Sum.inl
 |[],ns,h=>by cases h;rfl
 |(k,u)::r,ns,h=>by
  cases k<;>simp only[uk]at h<;>try cases h
  obtain⟨ms,e,h⟩:=Qc.mp h;subst h;simp[sJ e]
def fk:Fn
 |[.ref l],S=>match S[l]? with
  |some (.lst us)=>(nZ us).bind fun ns=>if ns.length<64 then some (.ref S.length,S++[.lst ((aW ns).map U.int)])else none
  |some (.dic kus)=>(uk kus).bind fun ns=>if ns.length<64 then some (.ref S.length,S++[.lst ((aW ns).map U.int)])else none
  |_=>none
 |_,_=>none
theorem sg{K:Q1}:mQ K (vY K) fk:=by
 intro m S H us vs u S' Q sr i hf post;match us,hf with
 |[.ref l],hf=>
  obtain⟨v,rfl,iv⟩:=i.one;obtain⟨a,ha,rfl⟩:=iv.of_ref;simp only[fk]at hf;split at hf<;>try cases hf
  ·rename_i ws hS;obtain⟨ns,hn,h⟩:=Q0.mp hf;split at h<;>try cases h
   have hc:ns.length<64:=by assumption
   obtain⟨a',ha',xs,hx,la⟩:=sr.get hS;rw[ha]at ha';cases ha';rw[jx hn]at la;rw[la.ints]at hx;refine⟨a,ns,rfl,.inl (SqL.of hx),hc,fun p ms hp pm sm=>?_⟩;rw[iC pm sm];exact fb sr (iE _) post hp
  ·rename_i ws hS;obtain⟨ns,hn,h⟩:=Q0.mp hf;split at h<;>try cases h
   have hc:ns.length<64:=by assumption
   obtain⟨a',ha',kvs,hx,ip⟩:=sr.get hS;rw[ha]at ha';cases ha';refine⟨a,ns,rfl,.inr ⟨kvs,hx,by rw[ip.1,sJ hn]⟩,hc,fun p ms hp pm sm=>?_⟩;rw[iC pm sm];exact fb sr (iE _) post hp
section
variable{ρ:Rho}{S:Sto}{c1 c2:CS}{t ta tb:CT}{ca cb cc:CE}{cr:CA}{u x y:U}{us:List U}{i l:Nat}{f g:U->U->Sto->Option (U×Sto)}{b:Bool}
def Ly(S:Sto):Option (Option U)->Option (U×Sto)
 |some (some u)=>some (u,S)
 |_=>none
theorem IK:ag i ρ S=Ly S (ρ[i]?):=rfl
theorem EE:Ly S (some (some u))=some (u,S):=rfl
theorem x_c:cC u ρ S=some (u,S):=rfl
def KD(f:U->U->Sto->Option (U×Sto))(x:U)(q:U×Sto):=f x q.1 q.2
def LD(f:U->U->Sto->Option (U×Sto))(cb:CE)(ρ:Rho)(p:U×Sto):=(cb ρ p.2).bind (KD f p.1)
theorem LZ:cOp f ca cb ρ S=(ca ρ S).bind (LD f cb ρ):=rfl
theorem Jg:LD f cb ρ (x,S)=(cb ρ S).bind (KD f x):=rfl
theorem Jf:KD f x (y,S)=f x y S:=rfl
def Hf:U×Sto->Option (Bool×Sto)
 |(.bl b,S)=>some (b,S)
 |_=>none
theorem EI:aL ca ρ S=(ca ρ S).bind Hf:=by
 unfold aL;congr 1;funext p;obtain⟨u,S⟩:=p;cases u<;>rfl
theorem BB:Hf (.bl b,S)=some (b,S):=rfl
def KR(tb:CT)(ρ:Rho)(p:Bool×Sto):=if p.1=true then tb ρ p.2 else some (false,p.2)
def kOr(tb:CT)(ρ:Rho)(p:Bool×Sto):=if p.1=true then some (true,p.2)else tb ρ p.2
def LF(p:Bool×Sto):Option (Bool×Sto):=some (!p.1,p.2)
theorem JX:uO ta tb ρ S=(ta ρ S).bind (KR tb ρ):=rfl
theorem Fp:KR tb ρ (true,S)=tb ρ S:=rfl
theorem Fo:KR tb ρ (false,S)=some (false,S):=rfl
theorem LY:cOr ta tb ρ S=(ta ρ S).bind (kOr tb ρ):=rfl
theorem Je:kOr tb ρ (true,S)=some (true,S):=rfl
theorem Jd:kOr tb ρ (false,S)=tb ρ S:=rfl
theorem Jh:Br ta ρ S=(ta ρ S).bind LF:=rfl
theorem EZ:LF (b,S)=some (!b,S):=rfl
def Dy(cb:CE)(ρ:Rho):U×Sto->Option (U×Sto)
 |(.bl true,S)=>cb ρ S
 |(.bl false,S)=>some (.bl false,S)
 |_=>none
def KC(cb:CE)(ρ:Rho):U×Sto->Option (U×Sto)
 |(.bl false,S)=>cb ρ S
 |(.bl true,S)=>some (.bl true,S)
 |_=>none
def Hi:U×Sto->Option (U×Sto)
 |(.bl b,S)=>some (.bl (!b),S)
 |_=>none
theorem Fm:ym ca cb ρ S=(ca ρ S).bind (Dy cb ρ):=by
 unfold ym;congr 1;funext p;obtain⟨u,S⟩:=p;cases u with
 |bl b=>cases b<;>rfl
 |_=>rfl
theorem BR:Dy cb ρ (.bl true,S)=cb ρ S:=rfl
theorem BQ:Dy cb ρ (.bl false,S)=some (.bl false,S):=rfl
theorem Jc:IG ca cb ρ S=(ca ρ S).bind (KC cb ρ):=by
 unfold IG;congr 1;funext p;obtain⟨u,S⟩:=p;cases u with
 |bl b=>cases b<;>rfl
 |_=>rfl
theorem EX:KC cb ρ (.bl false,S)=cb ρ S:=rfl
theorem EW:KC cb ρ (.bl true,S)=some (.bl true,S):=rfl
theorem EY:yj ca ρ S=(ca ρ S).bind Hi:=by
 unfold yj;congr 1;funext p;obtain⟨u,S⟩:=p;cases u<;>rfl
theorem BC:Hi (.bl b,S)=some (.bl (!b),S):=rfl
def xi(u:U)(q:List U×Sto):Option (List U×Sto):=some (u::q.1,q.2)
def Bc(cr:CA)(ρ:Rho)(p:U×Sto):=(cr ρ p.2).bind (xi p.1)
theorem BD:aD ρ S=some ([],S):=rfl
theorem oN:af ca cr ρ S=(ca ρ S).bind (Bc cr ρ):=rfl
theorem qm:Bc cr ρ (u,S)=(cr ρ S).bind (xi u):=rfl
theorem ql:xi u (us,S)=some (u::us,S):=rfl
def Lz(p:List U×Sto):Option (U×Sto):=some (.tup p.1,p.2)
def LG(p:List U×Sto):Option (U×Sto):=some (.ref p.2.length,p.2++[.lst p.1])
theorem BA:hU cr ρ S=(cr ρ S).bind Lz:=rfl
theorem uZ:Lz (us,S)=some (.tup us,S):=rfl
theorem BI:jU cr ρ S=(cr ρ S).bind LG:=rfl
theorem AA:LG (us,S)=some (.ref S.length,S++[.lst us]):=rfl
def kCB(f:Fn)(p:List U×Sto):=f p.1 p.2
theorem Lg{f:Fn}:cCB f cr ρ S=(cr ρ S).bind (kCB f):=rfl
theorem JR{f:Fn}:kCB f (us,S)=f us S:=rfl
def LH(T:Ty)(p:U×Sto):Option (U×Sto):=(tyU p.1 p.2).bind fun t=>some (.bl (Cn t T),p.2)
theorem Jv{T:Ty}:IH T ca ρ S=(ca ρ S).bind (LH T):=rfl
theorem Fc{T:Ty}:LH T (u,S)=(tyU u S).bind fun t=>some (.bl (Cn t T),S):=rfl
def Hg(c2:CS):Out×Rho×Sto->Option (Out×Rho×Sto)
 |(.nx,ρ,S)=>c2 ρ S
 |(o,ρ,S)=>some (o,ρ,S)
theorem EJ:b6 ρ S=some (.nx,ρ,S):=rfl
theorem IZ:bB c1 c2 ρ S=(c1 ρ S).bind (Hg c2):=by
 unfold bB;congr 1;funext p;obtain⟨o,ρ,S⟩:=p;cases o<;>rfl
theorem ES:Hg c2 (.nx,ρ,S)=c2 ρ S:=rfl
theorem ER:Hg c2 (.rt u,ρ,S)=some (.rt u,ρ,S):=rfl
theorem EO:Hg c2 (.bk,ρ,S)=some (.bk,ρ,S):=rfl
theorem EN:Hg c2 (.ct,ρ,S)=some (.ct,ρ,S):=rfl
def Hk(ρ:Rho)(p:U×Sto):Option (Out×Rho×Sto):=some (.nx,ρ,p.2)
def LC(ρ:Rho)(p:U×Sto):Option (Out×Rho×Sto):=some (.rt p.1,ρ,p.2)
theorem Fg:fq ca ρ S=(ca ρ S).bind (Hk ρ):=rfl
theorem BM:Hk ρ (u,S)=some (.nx,ρ,S):=rfl
theorem I0:eV ca ρ S=(ca ρ S).bind (LC ρ):=rfl
theorem ET:LC ρ (u,S)=some (.rt u,ρ,S):=rfl
def KG(c1 c2:CS)(ρ:Rho)(p:Bool×Sto):=if p.1=true then c1 ρ p.2 else c2 ρ p.2
theorem Jz:eB t c1 c2 ρ S=(t ρ S).bind (KG c1 c2 ρ):=rfl
theorem Ff:KG c1 c2 ρ (true,S)=c1 ρ S:=rfl
theorem Fe:KG c1 c2 ρ (false,S)=c2 ρ S:=rfl
def kIf(ca cb:CE)(ρ:Rho)(p:Bool×Sto):=if p.1=true then ca ρ p.2 else cb ρ p.2
theorem Md:cIf t ca cb ρ S=(t ρ S).bind (kIf ca cb ρ):=rfl
theorem JB:kIf ca cb ρ (true,S)=ca ρ S:=rfl
theorem JA:kIf ca cb ρ (false,S)=cb ρ S:=rfl
def LA(i:Nat)(ρ:Rho)(p:U×Sto):Option (Out×Rho×Sto):=some (.nx,ρ.set i (some p.1),p.2)
theorem IY:cY i ca ρ S=(ca ρ S).bind (LA i ρ):=rfl
theorem EM:LA i ρ (u,S)=some (.nx,ρ.set i (some u),S):=rfl
def Dx(q:Rho×Sto):Option (Out×Rho×Sto):=some (.nx,q.1,q.2)
def LI(g:CG)(ρ:Rho)(p:U×Sto):=(g p.1 ρ p.2).bind Dx
theorem JV{g:CG}:Ex ca g ρ S=(ca ρ S).bind (LI g ρ):=rfl
theorem Fl{g:CG}:LI g ρ (u,S)=(g u ρ S).bind Dx:=rfl
theorem Fj:Dx (ρ,S)=some (.nx,ρ,S):=rfl
theorem JD:gNm i u ρ S=some (ρ.set i (some u),S):=rfl
theorem JC{is:List Nat}:gTp is (.tup us) ρ S=(gC is us ρ).bind fun ρ'=>some (ρ',S):=rfl
theorem Fs:gC [] [] ρ=some ρ:=rfl
theorem Fq{is:List Nat}:gC (i::is) (u::us) ρ=gC is us (ρ.set i (some u)):=rfl
def Hh(ρ:Rho)(S':Sto):Option (Out×Rho×Sto):=some (.nx,ρ,S')
def Kz(o v:U)(ρ:Rho)(r:U×Sto):=(lX o r.1 v r.2).bind (Hh ρ)
def KA(ci:CE)(v:U)(ρ:Rho)(q:U×Sto):=(ci ρ q.2).bind (Kz q.1 v ρ)
def kSI(co ci:CE)(ρ:Rho)(p:U×Sto):=(co ρ p.2).bind (KA ci p.1 ρ)
theorem LR:d5 ca cb cc ρ S=(cc ρ S).bind (kSI ca cb ρ):=rfl
theorem IU:kSI ca cb ρ (u,S)=(ca ρ S).bind (KA cb u ρ):=rfl
theorem IT:KA cb y ρ (u,S)=(cb ρ S).bind (Kz u y ρ):=rfl
theorem IS:Kz x y ρ (u,S)=(lX x u y S).bind (Hh ρ):=rfl
theorem IQ:Hh ρ S=some (.nx,ρ,S):=rfl
def kIx(y:U)(S:Sto):Option O->Option (U×Sto)
 | some (.lst us)=>(match y with
   |.int i=>(atI us i).bind fun u=>some (u,S)
   |_=>none)
 |some (.dic kus)=>(km y).bind fun k=>(aR kus k).bind fun u=>some (u,S)
 |some (.fdc _ kus)=>(km y).bind fun k=>(aR kus k).bind fun u=>some (u,S)
 |_=>none
theorem Jq{j:Int}:fIx (.tup us) (.int j) S=(atI us j).bind fun u=>some (u,S):=rfl
theorem Jr:fIx (.ref l) y S=kIx y S S[l]?:=by
 unfold fIx kIx;dsimp only<;>(generalize S[l]?=q;rcases q with _|o<;>first|rfl|(cases o<;>rfl))
theorem Js{j:Int}:kIx (.int j) S (some (.lst us))=(atI us j).bind fun u=>some (u,S):=rfl
theorem Jt{ep:Nat}{kus:List (Key×U)}:kIx y S (some (.fdc ep kus))=(km y).bind fun k=>(aR kus k).bind fun u=>some (u,S):=rfl
theorem Ju{kus:List (Key×U)}:kIx y S (some (.dic kus))=(km y).bind fun k=>(aR kus k).bind fun u=>some (u,S):=rfl
def IA(l:Nat)(i v:U)(S:Sto):Option O->Option Sto
 | some (.lst us)=>(match i with
   |.int k=>(ixN us.length k).bind fun j=>some (S.set l (.lst (us.set j v)))
   |_=>none)
 |some (.dic kus)=>(km i).bind fun k=>if kus.length<LIM then some (S.set l (.dic (fj kus k v)))else none
 |_=>none
theorem IM:lX (.ref l) x y S=IA l x y S S[l]?:=by
 unfold lX IA;dsimp only<;>(generalize S[l]?=q;rcases q with _|o<;>first|rfl|(cases o<;>rfl))
theorem EK{j:Int}:IA l (.int j) y S (some (.lst us))=(ixN us.length j).bind fun j=>some (S.set l (.lst (us.set j y))):=rfl
theorem EL{kus:List (Key×U)}:IA l x y S (some (.dic kus))=(km x).bind fun k=>if kus.length<LIM then some (S.set l (.dic (fj kus k y)))else none:=rfl
theorem at0{α:Type}{a:α}{r:List α}:atI (a::r) 0=some a:=by show atI _ ((0:Nat):Int)=_;exact mB rfl
theorem at1{α:Type}{a b:α}{r:List α}:atI (a::b::r) 1=some b:=by show atI _ ((1:Nat):Int)=_;exact mB rfl
theorem at2{α:Type}{a b c:α}{r:List α}:atI (a::b::c::r) 2=some c:=by show atI _ ((2:Nat):Int)=_;exact mB rfl
theorem at3{α:Type}{a b c d:α}{r:List α}:atI (a::b::c::d::r) 3=some d:=by show atI _ ((3:Nat):Int)=_;exact mB rfl
theorem ix0{n:Nat}:ixN (n+1) 0=some 0:=by simp[ixN]
theorem ix1{n:Nat}:ixN (n+1+1) 1=some 1:=by simp[ixN];omega
theorem ix2{n:Nat}:ixN (n+1+1+1) 2=some 2:=by simp[ixN];omega
def IE(S:Sto):Option O->Option (U×Sto)
 |some (.lst us)=>some (.int us.length,S)
 |some (.dic us)=>some (.int us.length,S)
 |_=>none
theorem E7:l5 [.ref l] S=IE S S[l]?:=by
 unfold l5 IE;dsimp only<;>(generalize S[l]?=q;rcases q with _|o<;>first|rfl|(cases o<;>rfl))
theorem E8:IE S (some (.lst us))=some (.int us.length,S):=rfl
theorem E9{kus:List (Key×U)}:IE S (some (.dic kus))=some (.int kus.length,S):=rfl
theorem E6:l5 [.tup us] S=some (.int us.length,S):=rfl
variable{j k:Int}
theorem JY:ke (.int j) (.int k) S=some (.int (j+k),S):=rfl
theorem IL:HH (.int j) (.int k) S=some (.int (j-k),S):=rfl
theorem E4(h:By j k):lY (.int j) (.int k) S=some (.int (j*k),S):=by simp[lY,fI,h]
theorem BN(h:uW j k):Ak (.int j) (.int k) S=some (.int (j / k),S):=by simp[Ak,fI,h]
theorem tR(h:0<k):pL (.int j) (.int k) S=some (.int (j % k),S):=by simp[pL,fI,h]
theorem Ja(h:ED j k):Es (.int j) (.int k) S=some (.int (j^k.toNat),S):=by simp[Es,fI,h]
theorem Mb:fLt (.int j) (.int k) S=some (.bl (decide (j<k)),S):=rfl
theorem Mc:fLe (.int j) (.int k) S=some (.bl (decide (j<=k)),S):=rfl
theorem Me:fGt (.int j) (.int k) S=some (.bl (decide (k<j)),S):=rfl
theorem Mf:fGe (.int j) (.int k) S=some (.bl (decide (k<=j)),S):=rfl
theorem JI:fEq (.int j) (.int k) S=some (.bl (decide (j=k)),S):=rfl
theorem Jj:fNe (.int j) (.int k) S=some (.bl (!decide (j=k)),S):=rfl
theorem JH{a c:Str}:fEq (.str a) (.str c) S=some (.bl (decide (a=c)),S):=rfl
theorem Ji{a c:Str}:fNe (.str a) (.str c) S=some (.bl (!decide (a=c)),S):=rfl
theorem JJ{a c:Bool}:fEq (.bl a) (.bl c) S=some (.bl (decide (a=c)),S):=rfl
theorem Jk{a c:Bool}:fNe (.bl a) (.bl c) S=some (.bl (!decide (a=c)),S):=rfl
def kFn:Out×Rho×Sto->Option (U×Sto)
 |(.rt u,_,S)=>some (u,S)
 |(.nx,_,S)=>some (.non,S)
 |_=>none
theorem jH{n k:Nat}(h:us.length=k):fnU n k c1 us S=(c1 (oY n us) S).bind kFn:=by
 unfold fnU;rw[if_pos h];congr 1;funext p;obtain⟨o,ρ,S⟩:=p;cases o<;>rfl
theorem JF:kFn (.rt u,ρ,S)=some (u,S):=rfl
theorem JE:kFn (.nx,ρ,S)=some (.non,S):=rfl
end
section
variable{ρ:Rho}{S:Sto}{t:CT}{ca cb cc:CE}{cr:CA}{u x:U}{us:List U}{i l:Nat}{b:Bool}{c:Cl}{fus:List (Option U)}{g:Fn}
open Classical in
def z8(c:Cl)(i:Nat)(S:Sto):Option O->Option (U×Sto)
 |some (.ins c' fus)=>if c'=c then(fus[i]?).join.bind fun u=>some (u,S)else none
 |_=>none
def gY(c:Cl)(i:Nat)(p:U×Sto):=HJ c i p.1 p.2
theorem JG:eY c i ca ρ S=(ca ρ S).bind (gY c i):=rfl
theorem AD:gY c i (.ref l,S)=z8 c i S S[l]?:=by
 unfold gY HJ z8;dsimp only<;>(generalize S[l]?=q;rcases q with _|o<;>first|rfl|(cases o<;>rfl))
theorem AB:z8 c i S (some (.ins c fus))=((fus[i]?).join).bind fun u=>some (u,S):=by
 unfold z8;dsimp only;rw[if_pos rfl]
open Classical in
def IB(c:Cl)(i l:Nat)(v:U)(S:Sto):Option O->Option Sto
 |some (.ins c' fus)=>if c'=c then some (S.set l (.ins c (fus.set i (some v))))else none
 |_=>none
def IC(c:Cl)(i:Nat)(v:U)(ρ:Rho)(q:U×Sto):=(xM c i q.1 v q.2).bind (Hh ρ)
def LB(c:Cl)(i:Nat)(ca:CE)(ρ:Rho)(p:U×Sto):=(ca ρ p.2).bind (IC c i p.1 ρ)
theorem LS:mP c i ca cb ρ S=(cb ρ S).bind (LB c i ca ρ):=rfl
theorem IX:LB c i ca ρ (u,S)=(ca ρ S).bind (IC c i u ρ):=rfl
theorem IW:IC c i u ρ (.ref l,S)=(IB c i l u S S[l]?).bind (Hh ρ):=by
 unfold IC xM IB;dsimp only<;>(generalize S[l]?=q;rcases q with _|o<;>first|rfl|(cases o<;>rfl))
theorem IV:IB c i l u S (some (.ins c fus))=some (S.set l (.ins c (fus.set i (some u)))):=by
 unfold IB;dsimp only;rw[if_pos rfl]
def xh(g:Fn)(l:Nat)(q:List U×Sto):=g (.ref l::q.1) q.2
open Classical in
def sN(c:Cl)(g:Fn)(cr:CA)(ρ:Rho)(l:Nat)(S:Sto):Option O->Option (U×Sto)
 |some (.ins c' _)=>if c'=c then(cr ρ S).bind (xh g l)else none
 |_=>none
def Dw(c:Cl)(g:Fn)(cr:CA)(ρ:Rho)(p:U×Sto):=xN c g p.1 p.2 (cr ρ)
theorem E5:kx c g ca cr ρ S=(ca ρ S).bind (Dw c g cr ρ):=rfl
theorem BG:Dw c g cr ρ (.ref l,S)=sN c g cr ρ l S S[l]?:=by
 unfold Dw xN sN;dsimp only<;>(generalize S[l]?=q;rcases q with _|o<;>first|rfl|(cases o<;>rfl))
theorem BF:sN c g cr ρ l S (some (.ins c fus))=(cr ρ S).bind (xh g l):=by
 unfold sN;dsimp only;rw[if_pos rfl]
theorem BE:xh g l (us,S)=g (.ref l::us) S:=rfl
def Hj(n:Nat):U×Sto->Option (U×Sto)
 |(.non,S)=>some (.ref n,S)
 |_=>none
theorem Az:jS c g us S=(g (.ref S.length::us) (S++[.ins c (Qa c.ns.length none)])).bind (Hj S.length):=by
 unfold jS;congr 1;funext p;obtain⟨u,S⟩:=p;cases u<;>rfl
theorem BH:Hj i (.non,S)=some (.ref i,S):=rfl
def kIn(neg:Bool)(x:U)(S:Sto):Option O->Option (U×Sto)
 |some (.lst us)=>if g6 x=true/\us.all g6=true then some (.bl (if neg then !inU x us else inU x us),S)else none
 |some (.dic kus)=>(km x).bind fun k=>some (.bl (if neg then !(aR kus k).isSome else(aR kus k).isSome),S)
 |some (.fdc _ kus)=>(km x).bind fun k=>some (.bl (if neg then !(aR kus k).isSome else(aR kus k).isSome),S)
 |_=>none
theorem Jw{neg:Bool}:fIn neg x (.ref l) S=kIn neg x S S[l]?:=by
 unfold fIn kIn;dsimp only<;>(generalize S[l]?=q;rcases q with _|o<;>first|rfl|(cases o<;>rfl))
theorem Jy{neg:Bool}{kus:List (Key×U)}:kIn neg x S (some (.dic kus))=(km x).bind fun k=>some (.bl (if neg then !(aR kus k).isSome else(aR kus k).isSome),S):=rfl
theorem Jx{neg:Bool}(h:g6 x=true/\us.all g6=true):kIn neg x S (some (.lst us))=some (.bl (if neg then !inU x us else inU x us),S):=by
 unfold kIn;dsimp only;rw[if_pos h]
theorem Jp{j:Int}:km (.int j)=some (.inl j):=rfl
theorem Fb{z:Str}:km (.str z)=some (.inr z):=rfl
def KP(f:U->List U->Sto->Option (U×Sto))(x:U)(q:List U×Sto):=f x q.1 q.2
def KQ(f:U->List U->Sto->Option (U×Sto))(cr:CA)(ρ:Rho)(x:U)(S:Sto):Option O->Option (U×Sto)
 |some (.lst _)=>(cr ρ S).bind (KP f x)
 |_=>none
def kBM(f:U->List U->Sto->Option (U×Sto))(cr:CA)(ρ:Rho):U×Sto->Option (U×Sto)
 |(.ref l,S)=>KQ f cr ρ (.ref l) S S[l]?
 |_=>none
variable{fm:U->List U->Sto->Option (U×Sto)}
theorem Mh:cBM fm ca cr ρ S=(ca ρ S).bind (kBM fm cr ρ):=by
 unfold cBM;congr 1;funext p;obtain⟨u,S⟩:=p;cases u<;>try rfl
theorem JU:kBM fm cr ρ (.ref l,S)=KQ fm cr ρ (.ref l) S S[l]?:=rfl
theorem JT:KQ fm cr ρ x S (some (.lst us))=(cr ρ S).bind (KP fm x):=rfl
theorem JS:KP fm x (us,S)=fm x us S:=rfl
def Hl(l:Nat)(u:U)(S:Sto):Option O->Option (U×Sto)
 |some (.lst us)=>if us.length<LIM then some (.non,S.set l (.lst (us++[u])))else none
 |_=>none
theorem JW:cR (.ref l) [u] S=Hl l u S S[l]?:=by
 unfold cR Hl;dsimp only<;>(generalize S[l]?=q;rcases q with _|o<;>first|rfl|(cases o<;>rfl))
theorem kN(h:us.length<LIM):Hl l u S (some (.lst us))=some (.non,S.set l (.lst (us++[u]))):=by
 unfold Hl;dsimp only;rw[if_pos h]
def KH(ku xu:U)(S:Sto):Option O->Option (U×Sto)
 |some (.dic kus)=>(km ku).bind fun k=>some ((aR kus k).getD xu,S)
 |_=>none
def KI(l:Nat)(ku:U)(r:U×Sto):=KH ku r.1 r.2 r.2[l]?
def KJ(l:Nat)(cx:CE)(ρ:Rho)(q:U×Sto):=(cx ρ q.2).bind (KI l q.1)
def KO(l:Nat)(ck cx:CE)(ρ:Rho)(S:Sto):Option O->Option (U×Sto)
 |some (.dic _)=>(ck ρ S).bind (KJ l cx ρ)
 |_=>none
def kDG(ck cx:CE)(ρ:Rho):U×Sto->Option (U×Sto)
 |(.ref l,S)=>KO l ck cx ρ S S[l]?
 |_=>none
theorem Mg:p8 ca cb cc ρ S=(ca ρ S).bind (kDG cb cc ρ):=by
 unfold p8;congr 1;funext p;obtain⟨u,S⟩:=p;cases u<;>try rfl
theorem JO:kDG cb cc ρ (.ref l,S)=KO l cb cc ρ S S[l]?:=rfl
theorem JN{kus:List (Key×U)}:KO l cb cc ρ S (some (.dic kus))=(cb ρ S).bind (KJ l cc ρ):=rfl
theorem JM:KJ l cc ρ (u,S)=(cc ρ S).bind (KI l u):=rfl
theorem JL:KI l u (x,S)=KH u x S S[l]?:=rfl
theorem JK{kus:List (Key×U)}:KH u x S (some (.dic kus))=(km u).bind fun k=>some ((aR kus k).getD x,S):=rfl
theorem Fh:kA ρ S=some (.ref S.length,S++[.dic []]):=rfl
def kP3(k:Key)(u:U)(z:List (Key×U)×Sto):Option (List (Key×U)×Sto):=some ((k,u)::z.1,z.2)
def kP2(r:List (CE×CE))(ρ:Rho)(x:U)(q:U×Sto):=(km x).bind fun k=>(lB r ρ q.2).bind (kP3 k q.1)
def kP1(cv:CE)(r:List (CE×CE))(ρ:Rho)(p:U×Sto):=(cv ρ p.2).bind (kP2 r ρ p.1)
variable{pr:List (CE×CE)}
theorem LX:lB [] ρ S=some ([],S):=rfl
theorem x_p:lB ((ca,cb)::pr) ρ S=(ca ρ S).bind (kP1 cb pr ρ):=rfl
theorem LW:kP1 cb pr ρ (u,S)=(cb ρ S).bind (kP2 pr ρ u):=rfl
theorem LV:kP2 pr ρ x (u,S)=(km x).bind fun k=>(lB pr ρ S).bind (kP3 k u):=rfl
theorem LU{k:Key}{z:List (Key×U)}:kP3 k u (z,S)=some ((k,u)::z,S):=rfl
def kD1(n:Nat)(kus:List (Key×U))(S:Sto):Option O->Option (U×Sto)
 |some (.dic [])=>some (.ref n,S.set n (.dic (wO kus)))
 |_=>none
def kD(n:Nat)(q:List (Key×U)×Sto):=kD1 n q.1 q.2 q.2[n]?
theorem Fi:HX pr ρ S=(lB pr ρ (S++[.dic []])).bind (kD S.length):=by
 unfold HX;congr 1
theorem BP{z:List (Key×U)}:kD i (z,S)=kD1 i z S S[i]?:=rfl
theorem BO{z:List (Key×U)}:kD1 i z S (some (.dic []))=some (.ref i,S.set i (.dic (wO z))):=rfl
theorem EF:g7 [.tup us] S=some (.tup us,S):=rfl
def Ky(S:Sto):Option O->Option (U×Sto)
 |some (.lst us)=>some (.tup us,S)
 |_=>none
theorem EG:g7 [.ref l] S=Ky S S[l]?:=by
 unfold g7 Ky;dsimp only<;>(generalize S[l]?=q;rcases q with _|o<;>first|rfl|(cases o<;>rfl))
theorem EH:Ky S (some (.lst us))=some (.tup us,S):=rfl
theorem BJ:DS [.tup us] S=some (.ref S.length,S++[.lst us]):=rfl
def kLs(S:Sto):Option O->Option (U×Sto)
 |some (.lst us)=>some (.ref S.length,S++[.lst us])
 |_=>none
theorem BK:DS [.ref l] S=kLs S S[l]?:=by
 unfold DS kLs;dsimp only<;>(generalize S[l]?=q;rcases q with _|o<;>first|rfl|(cases o<;>rfl))
theorem BL:kLs S (some (.lst us))=some (.ref S.length,S++[.lst us]):=rfl
theorem Fd:IF [.bl b] S=some (.int (if b then 1 else 0),S):=rfl
theorem ga{X:Sto}{n:Nat}:(S++X)[S.length+n]?=X[n]?:=by rw[Qv (Nat.le_add_right _ _),ZY]
theorem ga0{X:Sto}:(S++X)[S.length]?=X[0]?:=ga (n:=0)
theorem gs{X:Sto}{n:Nat}{o:O}:(S++X).set (S.length+n) o=S++X.set n o:=by rw[List.set_append_right _ _ (Nat.le_add_right _ _),ZY]
theorem gs0{X:Sto}{o:O}:(S++X).set S.length o=S++X.set 0 o:=gs (n:=0)
section
variable{ok:Sto->Prop}{gg:CG}{cbd:CS}{ρ0 ρ1:Rho}{S0 S1:Sto}
theorem gh(h:ok S):eA ok gg cbd [] ρ S=some (.nx,ρ,S):=by unfold eA;rw[if_pos h]
theorem iW(h:ok S)(hg:gg u ρ S=some (ρ0,S0))(hb:cbd ρ0 S0=some (.nx,ρ1,S1)):eA ok gg cbd (u::us) ρ S=eA ok gg cbd us ρ1 S1:=by
 rw[eA];dsimp only;rw[if_pos h,hg,Q8];dsimp only;rw[hb,Q8]
theorem qI(h:ok S)(hg:gg u ρ S=some (ρ0,S0))(hb:cbd ρ0 S0=some (.rt x,ρ1,S1)):eA ok gg cbd (u::us) ρ S=some (.rt x,ρ1,S1):=by
 rw[eA];dsimp only;rw[if_pos h,hg,Q8];dsimp only;rw[hb,Q8]
theorem za{n:Nat}(ht:t ρ S=some (true,S0))(hb:cbd ρ S0=some (.nx,ρ1,S1)):ef t cbd (n+1) ρ S=ef t cbd n ρ1 S1:=by
 rw[ef];dsimp only;rw[ht,Q8];dsimp only;rw[if_pos rfl,hb,Q8]
theorem y8{n:Nat}(ht:t ρ S=some (true,S0))(hb:cbd ρ S0=some (.rt x,ρ1,S1)):ef t cbd (n+1) ρ S=some (.rt x,ρ1,S1):=by
 rw[ef];dsimp only;rw[ht,Q8];dsimp only;rw[if_pos rfl,hb,Q8]
theorem vt{n:Nat}(ht:t ρ S=some (false,S0)):ef t cbd (n+1) ρ S=some (.nx,ρ,S0):=by
 rw[ef];dsimp only;rw[ht,Q8];dsimp only;rw[if_neg (by decide)]
theorem g8{ce:CE}{ys:List U}(h:ok S)(hg:gg u ρ S=some (ρ0,S0))(he:ce ρ0 S0=some (x,S1))(hl:S1[l]?=some (.lst ys))(hn:ys.length<LIM):gH ok gg ce l (u::us) ρ S=gH ok gg ce l us ρ0 (S1.set l (.lst (ys++[x]))):=by
 rw[gH,if_pos h,hg,Q8];dsimp only;rw[he,Q8];dsimp only;rw[hl];dsimp only;rw[if_pos hn]
theorem kI{ce:CE}(h:ok S):gH ok gg ce l [] ρ S=some S:=by rw[gH,if_pos h]
end
end
theorem Du{K:Q1}{H:Hp}{p xs:Addr}{c:CS}{r:Rho}{σ:L2.St}{v0:Option V}{Q:VK}{nx bk ct:L2.St->Hp->Prop}(P:LP H p xs)
  (ok:∀(ns:List Int) (a b:Int),0<=a->0<=b->∃ρ' S',c (none::some (.ref 1)::r) [.lst (ns.map U.int),.lst [.ref 0,.int a,.int b]]=some (.rt (.bl true),ρ',S')) (q:∀H',Q (.bl true) H')
  (hr:r=Qa r.length none:=by rfl) (hl:σ.length=r.length:=by rfl):tS K c { nx:=nx,rt:=Q,bk:=bk,ct:=ct } (v0::some (.ref p)::σ) H:=by
 obtain⟨ns,a,b,h1,h2,h3,h4,h5⟩:=P;obtain⟨ρ',S',e⟩:=ok ns a b h4 h5;refine⟨[xs,p],_,_,_,ρ',S',⟨rfl,by simp[h3],fun l ad o e1 e2=>?_⟩,⟨by simp[hl],fun i u e1=>?_⟩,e,fun m' v H' _ _ iv=>by rw[iv.of_bl];exact q H'⟩
 ·match l,e1,e2 with
  |0,e1,e2=>
   simp at e1 e2;subst e1;subst e2;exact⟨_,h2,iE ns⟩
  |1,e1,e2=>
   simp at e1 e2;subst e1;subst e2;exact⟨_,h1,.cons_ (.ref_ rfl) (.cons_ .int_ (.cons_ .int_ .nil_))⟩
  |l+2,e1,e2=>simp at e1
 ·match i,e1 with
  |0,e1=>simp at e1
  |1,e1=>
   simp at e1;subst e1;exact⟨.ref p,rfl,.ref_ rfl⟩
  |i+2,e1=>
   simp at e1;rw[hr,ZQ]at e1;split at e1<;>cases e1
theorem Ey{p:List Value->Prop}(h:p [])(us:List Value)(e:us.length=0):p us:=by rw[Qi.mp e];exact h
theorem K6{n:Nat}{p:List Value->Prop}(h:∀a us,us.length=n->p (a::us))(us:List Value)(e:us.length=n+1):p us:=by
 cases us with
 |nil=>cases e
 |cons a us=>exact h a us (Nat.succ.inj e)
def Lf(H:Hp)(a:Addr)(ep:Nat)(ks:List Key):Prop:=∃ob es kvs,H a=some (.frz ob (.dK kvs))/\ob.data=.dict es ep/\kvs.map (·.1)=ks
def Itd(a:Addr)(ep:Nat)(ks:List Key):It:=
 ⟨fun i H=>i<ks.length/\Lf H a ep ks,fun i H x H'=>H'=H/\∃k,ks[i]?=some k/\x=kV k,fun i H=>ks.length<=i/\Lf H a ep ks⟩
theorem Bj{P:Program}{w:World}{H:Hp}{h:Heap}{a:Addr}{ob:Obj}{kvs:List (Key×V)}{es:Array DictEntry}{ep:Nat}(ok:HOk P w H h)(e:H a=some (.frz ob (.dK kvs)))(d:ob.data=.dict es ep):∃vs,KV kvs vs/\h.DictAt (cE P w) a vs ep:=by
 obtain⟨e1,_,_,vs,r,o,es',ep',e2,e3,e4,rest⟩:=(show bU P w H h a (.frz ob (.dK kvs))from ok a _ e);rw[e1]at e2;cases e2;rw[d]at e4;cases e4;exact⟨vs,r,ob,es,e1,e3,d,rest⟩
theorem A9{κ:Type}:∀{kvs:List (κ×V)} {vs:List (κ×Value)} {i:Nat} {k:κ} {v:V},KV kvs vs->kvs[i]?=some (k,v)->∃u,vs[i]?=some (k,u)
 |_,_,i,k,v,.nil,h=>by simp at h
 |_,_,0,k,v,.cons (b:=(k',u)) r t,h=>by
  simp at h;subst h;have:k=k':=r.1;subst this;exact⟨u,by simp⟩
 |_,_,i+1,k,v,.cons r t,h=>by
  obtain⟨u,e⟩:=A9 (i:=i) t (by simpa using h);exact⟨u,by simpa using e⟩
theorem Dv{k:Key}{u:Value}(h:qJ k u=true):bV (kV k) u:=by
 rcases bH h with⟨i,t,rfl,rfl⟩|⟨i,t,rfl,rfl⟩
 ·exact⟨t,rfl⟩
 ·exact⟨t,rfl⟩
theorem vC{P:Program}{w:World}{K:Q1}{tg:Expr}(a it:Addr){ks:List Key}{ep:Nat} :
  Bu P w K tg (Itd a ep ks) [it] it (fun n h=>h.IsKeyIter it a n ks.length ep) where
 mem:=by simp
 obj:=fun n h st c hc=>by
  simp only[QD,Qe,or_false]at hc;subst hc;obtain⟨o,e,_,q⟩:=st;exact⟨o,e,fun v z=>by rw[q]at z;cases z⟩
 keep:=fun n h h' st kp=>Heap.IsKeyIter.at st fun o q=>kp it (by simp) o q
 item:=by
  intro X hP hw hK hc n pins s σ H E Iv hf st hg;subst hP hw hK;obtain⟨hi,ob,es,kvs,hq,d,ek⟩:=hg;obtain⟨vs,rv,da⟩:=Bj Iv.hok hq d;have hl:ks.length=vs.length:=by rw[<-ek,Q6];exact Paired.length rv
  have hi':n<kvs.length:=by rw[<-ek,Q6]at hi;exact hi
  have hx:kvs[n]?=some ((kvs[n]).1,(kvs[n]).2):=Q4 hi';obtain⟨u,hu⟩:=A9 rv hx;obtain⟨f0,f1,f2,f3⟩:=hf it (by simp);have st':s.heap.IsKeyIter it a n vs.length ep:=by rw[<-hl];exact st
  refine wpAny_pyNext_dict_item st' da hu fun key h1 hk st1 sb=>⟨key,rfl,?_⟩;have I1:Inv X pins σ H { s with heap:=h1 }:=Iv.turned (t':=s.toks) (fun b o hb e=>(sb.2 b hb).trans e) f0 f1 f3.1 f3.2.1 f3.2.2;have st2:h1.IsKeyIter it a (n+1) ks.length ep:=by rw[hl];exact st1
  obtain⟨o,e,c,q⟩:=id st2;exact xD (s:={ s with heap:=h1 }) e c q (by decide) ⟨kV (kvs[n]).1,H,I1,Dv hk,⟨rfl,_,by rw[<-ek,QC,hx];rfl,rfl⟩,st2,fun b hb=>(hf b hb).1⟩
 done:=by
  intro X hP hw hK hc n pins s σ H E Iv hf st hg;subst hP hw hK;obtain⟨hi,ob,es,kvs,hq,d,ek⟩:=hg;obtain⟨vs,rv,da⟩:=Bj Iv.hok hq d;have hl:ks.length=vs.length:=by rw[<-ek,Q6];exact Paired.length rv
  obtain⟨f0,f1,f2,f3⟩:=hf it (by simp);have st':s.heap.IsKeyIter it a n vs.length ep:=by rw[<-hl];exact st
  exact wpAny_pyNext_dict_end (Iv.ok.hd hc) st' da (by rw[List.getElem?_eq_none_iff];omega) fun h1 eb=>⟨rfl,Iv.turned (t':=s.toks) (fun b o hb e=>eb b o hb e) f0 f1 f3.1 f3.2.1 f3.2.2⟩
 self:=fun _ _ _ _ _ st h=>wpAny_pyIter_keyiter st h
theorem kG{X:Cx}{pins:List (Addr×Obj)}{σ:L2.St}{H:Hp}{s:Shared}{a:Addr}{o u:HO}(I:Inv X pins σ H s)(e:H a=some o)(nt:∀xs,o≠.tup xs)(no:∀x,o≠.own x)(nb:∀ps,o≠.tbl ps)
  (nf:∀ob u,X.H₀ a≠some (.frz ob u)) (new:bU X.prog X.w (upd H a u) s.heap a u):Inv X pins σ (upd H a u) s:=by
 have nn:∀b,H b=none->upd H a u b=none:=fun b q=>by rw[bj (Ne.symm (cf e q))];exact q
 have ho:∀b x,H b=some (.own x)->upd H a u b=some (.own x):=fun b x q=>by
  rw[bj];exact q;intro z;subst z;rw[e]at q;cases q;exact no _ rfl
 have ht:∀b xs,H b=some (.tup xs)->upd H a u b=some (.tup xs):=fun b x q=>by
  rw[bj];exact q;intro z;subst z;rw[e]at q;cases q;exact nt _ rfl
 refine⟨I.ok,I.os,I.bare,⟨I.base.keep,I.base.slot,fun b ob q1 q2 q3=>nn _ (I.base.free b ob q1 q2 q3),I.base.there,fun b xs q=>ht _ _ (I.base.tups b xs q),fun b ob v q=>?_,fun b ps q=>?_⟩,I.loc,I.cell,nn _ I.free,fun x c q=>nn _ (I.freeC x c q),fun p hp=>?_,fun b v q=>?_,I.len⟩
 ·rw[bj];exact I.base.frzs b ob v q;intro z;subst z;exact nf _ _ q
 ·obtain⟨more,q'⟩:=I.base.tbls b ps q;refine⟨more,?_⟩;rw[bj];exact q';intro z;subst z;rw[e]at q';cases q';exact nb _ rfl
 ·obtain⟨p1,p2,p3⟩:=I.pin p hp;exact⟨p1,nn _ p2,p3⟩
 ·by_cases hb:b=a
  ·subst hb;rw[aG]at q;cases q;exact new
  ·rw[bj hb]at q;exact(I.hok b v q).stay (fun _ _ _ g=>g) (fun c g=>ho c b g) fun c xs g=>ht c xs g
def uU(X:Cx)(a:Addr):Prop:=∀ob u,X.H₀ a≠some (.frz ob u)
def Hy(X:Cx)(tl:TE):TI:=fun σ H R=>tl σ H fun x H1=>∃a kvs,x=.ref a/\H1 a=some (.dK kvs)/\∀ob es ep,uU X a->ob.data=.dict es ep->R (Itd a ep (kvs.map (·.1))) (upd H1 a (.frz ob (.dK kvs)))
theorem Ca{X:Cx}{tg l:Expr}{tl:TE}(hl:WE X l tl):WI X tg l (Hy X tl):=by
 constructor;intro pins s σ H R I h;refine thn (hl.h pins s σ H _ I h) fun v s1 hz=>?_;obtain⟨x,H1,I1,r1,q1⟩:=hz;obtain⟨a,kvs,rfl,hq,q⟩:=q1;cases r1;obtain⟨hz,hs,vs,rv,ob,es,ep,e1,e2,e3,rest⟩:=DY I1.hok hq;have da:s1.heap.DictAt (cE X.prog X.w) a vs ep:=⟨ob,es,e1,e2,e3,rest⟩;have hl:kvs.length=vs.length:=Paired.length rv;have nf:uU X a:=fun ob' u' z=>by have:=I1.base.frzs a ob' u' z;rw[hq]at this;cases this
 have I2:Inv X pins σ (upd H1 a (.frz ob (.dK kvs))) s1:=kG I1 hq (by simp) (by simp) (by simp) nf ⟨e1,hz,hs,vs,rv,ob,es,ep,e1,e2,e3,rest⟩;refine wpAny_pyIter_dict hs da ?_;refine⟨s1.heap.objs.size,[s1.heap.objs.size],_,_,_,rfl,I2.kept (t':=s1.toks) fun b o g=>QQ _ g,vC a _,⟨_,QY _ rfl,rfl,by rw[Q6,hl];rfl⟩,fun b hb=>?_,q ob es ep nf e3⟩;simp only[QD,Qe,or_false]at hb;subst hb;exact I2.fpOk (QX _) (I2.hok.fresh (QX _))
theorem Ab{X:Cx}{pins:List (Addr×Obj)}{σ:L2.St}{H:Hp}{s:Shared}{a:Addr}{ob:Obj}{kvs:List (Key×V)}(I:Inv X pins σ H s)(nf:uU X a)(e:H a=some (.frz ob (.dK kvs))):Inv X pins σ (upd H a (.dK kvs)) s:=
 kG I e (by simp) (by simp) (by simp) nf (show bU X.prog X.w H s.heap a (.frz ob (.dK kvs))from I.hok a _ e).2
def kU:Key->U
 |.inl i=>.int i
 |.inr x=>.str x
theorem Bf{K:Q1}{m:List Addr}{H:Hp}(k:Key):Is K m H (kV k) (kU k):=by
 cases k with
 |inl i=>exact .int_
 |inr x=>exact .str_
open Classical in
def uni{α:Type}(F:Nat->Option α):Option α:=if h:∃r,∀n,F n=some r then some h.choose else none
theorem AH{α:Type}{F:Nat->Option α}{r:α}(h:∀n,F n=some r):uni F=some r:=by
 have hx:∃r,∀n,F n=some r:=⟨r,h⟩;unfold uni;rw[dif_pos hx];have:=hx.choose_spec 0;rw[h 0]at this;exact this.symm
theorem rN{α:Type}{F:Nat->Option α}{r:α}(h:uni F=some r)(n:Nat):F n=some r:=by
 unfold uni at h;split at h
 ·rename_i hx;cases h;exact hx.choose_spec n
 ·cases h
theorem DB{K:Q1}{m:List Addr}{H:Hp}{a:Addr}{l ep:Nat}{kus:List (Key×U)}(ha:m[l]?=some a):yG K (Itd a ep (kus.map (·.1))) m H (kus.map fun q=>kU q.1) (fun S'=>S'[l]?=some (.fdc ep kus)):=by
 intro m2 S2 H2 i e sr hok;obtain⟨a',ha',ob,es,kvs,hx,hd,ip⟩:=sr.get hok;have ha2:=e.get ha;rw[ha2]at ha';cases ha';have hz:Lf H2 a ep (kus.map (·.1)):=⟨ob,es,kvs,hx,hd,ip.1⟩;refine⟨fun u hu=>?_,fun hu=>⟨by simpa using hu,hz⟩⟩;have hi:i<kus.length:=by have:=(Q5.mp hu).1;simpa using this
 refine⟨⟨by simpa using hi,hz⟩,?_⟩;rintro x H3 ⟨rfl,k,hk,rfl⟩;refine⟨.refl,sr,?_⟩;rw[QC]at hk hu;rw[Q4 hi]at hk hu;cases hk;cases hu;exact Bf _
end OP
namespace OG
open PySem PySem.Spec PyProof.Rows L2
def nN(wi:TI)(g:TG)(tt:TT)(te:TE)(n:Nat)(caps:List Nat):TE:=fun σ H Q=>wi σ H fun J H1=>∀l,H1 l=none->∃W:Nat->Nat->L2.St->Hp->Prop,(∃m,W 0 m (stC n caps σ) (upd H1 l (.lst [])))/\
 ∀i m σ' H2,W i m σ' H2->(J.stop i H2/\Q (.ref l) H2)\/(J.go i H2/\∃N:L2.St->Hp->Prop,(∀σ'' H',N σ'' H'->∃m',m'<m/\W (i+1) m' σ'' H')/\
  ∀x H3,J.yld i H2 x H3->g x σ' H3 fun σ2 H4=>tt σ2 H4 fun b H5=>match b with
   |true=>te σ2 H5 fun v H6=>∃ys,H6 l=some (.lst ys)/\ys.length<sizeLine/\N σ2 (upd H6 l (.lst (ys++[v])))
   |false=>N σ2 H5)
theorem mO{prog:Program}{w:World}{A:Around}{R:Result->Shared->Prop}{s:Shared}{elt target iter c:Expr}{scope:Scope}{pos:Pos}{it acc:Value}{env:Env}(I:Nat->Shared->Prop)
  (turn:∀n s,I n s->wpAny (model prog w) A (pyNext it) (fun r s₁=>match r with
   |none=>R (.ok .next) s₁
   |some v=>wpAny (model prog w) A (letOwnedTupleGo target it v) (fun _ s₁'=>wpAny (model prog w) A (assign target env v) (fun _ s₂=>wpAny (model prog w) A (PySem.isTrue c env (eval c env)) (fun b s₂'=>match b with
    |true=>wpAny (model prog w) A (eval elt env) (fun x s₃=>
     wpAny (model prog w) A (call (.builtin "list.append") [acc,x]) (fun _ s₄=>∃m,m<n/\I m s₄) (fun _ _=>False) s₃)
     (fun _ _=>False) s₂'
    |false=>∃m,m<n/\I m s₂') (fun _ _=>False) s₂) (fun _ _=>False) s₁') (fun _ _=>False) s₁) (fun _ _=>False) s)
  (n:Nat) (h:I n s) :
  codeAny (model prog w) A (.compLoop (.ListComp elt [⟨target,iter,[c],0⟩] scope pos) 0 it acc env) R s:=by
 refine codeAny_loop rfl I (fun n s hI=>?_) n h;show wpAny _ _ ((compTurn (.ListComp elt [⟨target,iter,[c],0⟩] scope pos) 0 it acc env).onRaise (fun x=>do noteFrame x env;theTreesLotGoes x)) _ _ s;refine wpAny_noted ?_;rw[compTurn_list];refine Q2 (wpAny_standAt (Q2 (Z4 (turn n s hI) (fun r s₁ h₁=>?_) fun _ _ h'=>h'.elim)));cases r with
 |none=>exact Q9 h₁
 |some v=>
  refine Q2 (Z4 h₁ (fun _ s₁' h₁'=>?_) fun _ _ h'=>h'.elim);refine Q2 (Z4 h₁' (fun _ s₂ h₂=>?_) fun _ _ h'=>h'.elim);dsimp only;simp only[List.forIn_cons,List.forIn_nil,if_true,bind_assoc,pure_bind];refine Q2 (Z4 h₂ (fun b s₂' h₂'=>?_) fun _ _ h'=>h'.elim);cases b with
  |true=>
   rw[if_pos rfl];exact Q2 (Z4 h₂' (fun x s₃ h₃=>Q2 (Z4 h₃
    (fun _ s₄ h₄=>Q9 ⟨rfl,h₄⟩) fun _ _ h'=>h'.elim)) fun _ _ h'=>h'.elim)
  |false=>
   rw[if_neg QV];exact Q9 ⟨rfl,h₂'⟩
theorem ny{X:Cx}{Nc capN tn:List Str}{scope:Scope}{cl:List (Str×Addr)}{n:Nat}{caps:List Nat}{tg iter elt:Expr}{pos:Pos}{wi:TI}{g:TG}{te:TE}{tt:TT}{c:Expr}
  (hc:X.calm=true) (hi:WI X tg iter wi) (hg:∀s3 H3 fp,WG (cxC X Nc scope cl s3 H3 fp) tg g) (he:∀s3 H3 fp,WE (cxC X Nc scope cl s3 H3 fp) elt te)
  (ht:∀s3 H3 fp,WT (cxC X Nc scope cl s3 H3 fp) c tt)
  (hclos:closureFor scope X.env=pure cl) (hkind:scope.kind=.function) (hnl:∀x∈scope.names,x.2=.local->scope.names.lookup x.1=some .local) (hcell:∀x∈scope.names,x.2≠.cell)
  (hcl:qj X.env cl) (hhas:((relabel scope X.env).names.all fun p=>!(p.2 == .cell||p.2 == .free)||(cl.lookup p.1).isSome)=true)
  (hcap:Paired (Cap X scope cl) caps capN) (hN:Nc=tn++capN) (hn:tn.length=n)
  {use:Option (Value->Sem Unit)} {pins:List (Addr×Obj)} {σ:L2.St} {H:Hp} {s:Shared} {Q:VK} {Qf:Value->Shared->Prop} (I:Inv X pins σ H s) (h:nN wi g tt te n caps σ H Q)
  (hend:∀(D C:Addr) (s6:Shared) (H5:Hp) (m:Str->Option Value),Inv X pins σ H5 s6->s6.heap.Ns C m->H5 C=none->C≠X.env.locals->X.s₀.heap.objs.size<=C->(∀x c,X.env.cells.lookup x=some c->c≠C)->(∀p∈X.pn++pins,p.1≠C)->Q (.ref D) H5->compPost (model X.prog X.w) X.A X.xe use Qf (.ref D) C (.ok .next) s6)
  (hs:∀x,foldedSetIterable iter X.env x=pure x) :
  wpAny (model X.prog X.w) X.A (comprehension (.ListComp elt [⟨tg,iter,[c],0⟩] scope pos) scope X.env (firstIterPos [⟨tg,iter,[c],0⟩] pos) (newList []) (firstAsync [⟨tg,iter,[c],0⟩]) (firstIter [⟨tg,iter,[c],0⟩] X.env) use) Qf X.xe s:=by
 refine wpAny_comprehension_free (use:=use) (g:=⟨tg,iter,[c],0⟩) (gs:=[]) rfl hs hclos hkind hnl (thn (hi.h pins s σ H _ I h) fun v s1 h1=>thn h1 fun itv s2 h2=>?_);obtain⟨it,fp,tnn,J,H2,rfl,I2,T,st2,f2,hW⟩:=h2;have hD:=I2.fresh;obtain⟨W,⟨m0,w0⟩,turn⟩:=hW _ hD;refine wpAny_newObj_type (wpAny_newFunctionEnv hcell (by intro y hy;simp at hy) (fun h₁ hns₁ hsb₁=>?_) hkind);dsimp only at hns₁ hsb₁ ⊢;have I3:Inv X pins σ (upd H2 s2.heap.objs.size (.lst [])) { s2 with heap:=s2.heap.push { cls:=.type "list",dict:=none,data:=.seq ([]:List Value).toArray },toks:=s2.toks }:=I2.lnew (its:=[]) .nil (Z5 _);generalize hs3:({ s2 with heap:=s2.heap.push { cls:=.type "list",dict:=none,data:=.seq ([]:List Value).toArray },toks:=s2.toks }:Shared)=s3 at I3;have es3:s3.heap=s2.heap.push { cls:=.type "list",dict:=none,data:=.seq ([]:List Value).toArray }:=by rw[<-hs3]
 generalize hDD:s2.heap.objs.size=D at *;have kept:∀b o,s3.heap.get? b=some o->h₁.get? b=some o:=fun b o e=>by
  have lt:=QR e;rw[es3]at lt e;exact hsb₁.extBut b o (QL lt) (QQ _ e)
 have old:∀b o,s2.heap.get? b=some o->s3.heap.get? b=some o:=fun b o e=>by rw[es3];exact QQ _ e
 have ltD:∀b∈fp,b<D:=fun b hb=>by
  obtain⟨o,e,_⟩:=T.obj 0 _ st2 b hb;rw[<-hDD];exact QR e
 have fo:∀b∈fp,b<s3.heap.objs.size:=fun b hb=>by
  obtain⟨o,e,_⟩:=T.obj 0 _ st2 b hb;exact QR (old _ _ e)
 have f3:∀b∈fp,uY X pins (upd H2 D (.lst [])) b:=fun b hb=>by
  refine⟨?_,(f2 b hb).2⟩;rw[bj (QL (ltD b hb))];exact(f2 b hb).1
 rw[<-es3]at hns₁ hsb₁ ⊢;have Ic:=fun t'=>Inv.comp (h1:=h₁) (t':=t') (Nc:=Nc) (n:=n) I3 hc f3 fo hkind hcl hhas hcap tn hN hn hns₁ kept;have stat:∀{H':Hp},(∀b∈fp,H' b=none)->∀b∈fp,uY (cxC X Nc scope cl s3 (upd H2 D (.lst [])) fp) [] H' b:=fun hn' b hb=>by
  refine⟨hn' b hb,QL (fo b hb),fun z=>?_,.inl hb,fun x c e=>(f2 b hb).2.2.2.2.1 x c (hcl.look e),fun p hp=>(by simp at hp)⟩;rcases QD.mp (I3.stkSub b z)with q|q
  ·exact(f2 b hb).2.1 q
  ·exact(f2 b hb).2.2.1 q
 have loop:∀s4:Shared,(∃t',s4={ s3 with heap:=h₁,toks:=t' })->codeAny (model X.prog X.w) X.A (.compLoop (.ListComp elt [⟨tg,iter,[c],0⟩] scope pos) 0 (.ref it) (.ref D) (compEnvC scope cl s3.heap.objs.size X.env))
   (compPost (model X.prog X.w) X.A X.xe use Qf (.ref D) s3.heap.objs.size) s4:=by
  rintro s4 ⟨t',rfl⟩;refine mO (fun n' s'=>∃i σ' H',Inv (cxC X Nc scope cl s3 (upd H2 D (.lst [])) fp) [] σ' H' s'/\tnn i s'.heap/\(∀b∈fp,H' b=none)/\W i n' σ' H') ?_ m0
   ⟨0,_,_,Ic t',T.keep 0 _ _ st2 fun b hb o e=>kept _ _ (old _ _ e),fun b hb=>(f3 b hb).1,w0⟩
  rintro n' s5 ⟨i,σ5,H5,I5,st5,fr5,w5⟩;rcases turn i n' σ5 H5 w5 with⟨stop,qn⟩|⟨go,N,hN',step⟩
  ·refine thn (T.done (cxC X Nc scope cl s3 (upd H2 D (.lst [])) fp) rfl rfl rfl hc i [] s5 σ5 H5 (fun _ _=>False) I5 (stat fr5) st5 stop) fun r s6 ⟨hr,I6⟩=>?_;subst hr;obtain⟨m,hm,_⟩:=I6.loc;have I7:Inv X pins σ H5 s6:=Inv.call' (ch:=fp) I3 I6.os I6.base I6.hok I6.bare fun b hb=>⟨(f2 b hb).2.2.2.1,(f2 b hb).2.1,(f2 b hb).2.2.2.2.1,(f2 b hb).2.2.2.2.2⟩;exact hend D _ s6 H5 m I7 hm I6.free (Ne.symm (QL I3.lt)) I3.sz (fun x c e=>by
     obtain⟨v',o,ho,_⟩:=I3.cell x c e;exact QL (QR ho)) (fun p hp=>QL (QR (I3.pin p hp).1)) qn
  ·refine thn (T.item (cxC X Nc scope cl s3 (upd H2 D (.lst [])) fp) rfl rfl rfl hc i [] s5 σ5 H5 (fun _ _=>False) I5 (stat fr5) st5 go) fun r s6 ⟨u,hr,h6⟩=>?_;subst hr;refine thn h6 fun _ s7 hz=>?_;obtain⟨x,H7,I7,r7,y7,st7,fr7⟩:=hz;have I7':=I7.pinned (stat fr7) (T.obj _ _ st7);refine thn ((hg s3 (upd H2 D (.lst [])) fp).h _ s7 σ5 H7 x u _ I7' r7 (step x H7 y7)) fun _ s8 hz=>?_;obtain⟨σ8,H8,I8,q8⟩:=hz;have fin:∀{s10:Shared} {H10:Hp},Inv (cxC X Nc scope cl s3 (upd H2 D (.lst [])) fp) _ σ8 H10 s10->N σ8 H10->∃m',m'<n'/\∃i' σ' H',Inv (cxC X Nc scope cl s3 (upd H2 D (.lst [])) fp) [] σ' H' s10/\tnn i' s10.heap/\(∀b∈fp,H' b=none)/\W i' m' σ' H':=fun{s10 H10} I10 q10=>by
    obtain⟨m',hm,w10⟩:=hN' σ8 H10 q10;refine⟨m',hm,i+1,σ8,H10,Inv.unpinned I10,T.keep _ _ _ st7 fun b hb o e=>(Inv.pin I10 (b,o) (Qz _ (Qz _ (eD hb e)))).1,fun b hb=>?_,w10⟩;obtain⟨o,e,d⟩:=T.obj _ _ st7 b hb;exact(Inv.pin I10 (b,o) (Qz _ (Qz _ (eD hb e)))).2.1
   refine thn ((ht s3 (upd H2 D (.lst [])) fp).h _ s8 σ8 H8 _ I8 q8) fun b9 s9' h9=>?_;obtain⟨H9',I9',q9'⟩:=h9;cases b9 with
   |false=>exact fin I9' q9'
   |true=>
    refine thn ((he s3 (upd H2 D (.lst [])) fp).h _ s9' σ8 H9' _ I9' q9') fun v9 s9 hz=>?_;obtain⟨x9,H9,I9,r9,ys,hy,hlt,q9⟩:=hz;exact thn (lJ (X:=cxC X Nc scope cl s3 (upd H2 D (.lst [])) fp) _ s9 σ8 H9 (.ref D) [x9] (.ref D) [v9] (fun _ H'=>N σ8 H') I9 rfl (.cons r9 .nil) ⟨D,ys,x9,rfl,rfl,hy,hlt,q9⟩) fun _ s10 ⟨_,H10,I10,_,q10⟩=>fin I10 q10
 have e4:∀t',({ s2 with heap:=h₁,toks:=t' }:Shared)={ s3 with heap:=h₁,toks:=t' }:=fun t'=>by rw[<-hs3]
 refine codeAny_compStart_list (loop _ ⟨_,e4 _⟩) (T.self _ 0 _ _ _ (T.keep 0 _ _ st2 fun b hb o e=>kept _ _ (old _ _ e)) (loop _ ⟨_,e4 _⟩))
theorem mR{X:Cx}{Nc capN tn:List Str}{scope:Scope}{cl:List (Str×Addr)}{n:Nat}{caps:List Nat}{tg iter elt:Expr}{pos:Pos}{wi:TI}{g:TG}{te:TE}{tt:TT}{c:Expr}
  (hc:X.calm=true) (hi:WI X tg iter wi) (hg:∀s3 H3 fp,WG (cxC X Nc scope cl s3 H3 fp) tg g) (he:∀s3 H3 fp,WE (cxC X Nc scope cl s3 H3 fp) elt te)
  (ht:∀s3 H3 fp,WT (cxC X Nc scope cl s3 H3 fp) c tt)
  (hclos:closureFor scope X.env=pure cl) (hkind:scope.kind=.function) (hnl:∀x∈scope.names,x.2=.local->scope.names.lookup x.1=some .local) (hcell:∀x∈scope.names,x.2≠.cell)
  (hcl:qj X.env cl) (hhas:((relabel scope X.env).names.all fun p=>!(p.2 == .cell||p.2 == .free)||(cl.lookup p.1).isSome)=true)
  (hcap:Paired (Cap X scope cl) caps capN) (hN:Nc=tn++capN) (hn:tn.length=n)
  (hs:∀x,foldedSetIterable iter X.env x=pure x:=by intro _;rfl) :
  WE X (.ListComp elt [⟨tg,iter,[c],0⟩] scope pos) (nN wi g tt te n caps):=by
 constructor;intro pins s σ H Q I h;rw[eval_ListComp];refine ny hc hi hg he ht hclos hkind hnl hcell hcl hhas hcap hN hn I h (fun D C s6 H5 m I7 hm fr nl sz cn pn qn=>⟨m,hm,fun h' hs'=>?_⟩) hs;exact⟨.ref D,H5,I7.turned (t':=s6.toks) (it:=C) (fun b o hb e=>hs'.extBut b o hb e) fr nl (.inr sz) cn pn,rfl,qn⟩
end OG
namespace OP
open PySem PySem.Spec PyProof.Rows L2 OG
open Classical in
def b5(ok:Sto->Prop)(g:CG)(ct:CT)(ce:CE)(l:Nat):List U->Rho->Sto->Option Sto
 |[],_,S=>if ok S then some S else none
 |u::us,ρ,S=>if ok S then(g u ρ S).bind fun p=>(ct p.1 p.2).bind fun q=>if q.1=true then(ce p.1 q.2).bind fun r=>match r.2[l]? with
  |some (.lst ys)=>if ys.length<LIM then b5 ok g ct ce l us p.1 (r.2.set l (.lst (ys++[r.1])))else none
  |_=>none else b5 ok g ct ce l us p.1 q.2 else none
def dC(ci:CI)(g:CG)(ct:CT)(ce:CE)(n:Nat)(caps:List Nat):CE:=fun ρ S=>(ci ρ S).bind fun p=>(b5 p.2.1 g ct ce p.2.2.length p.1 (kB n caps ρ) (p.2.2++[.lst []])).bind fun S'=>some (.ref p.2.2.length,S')
section
variable{X:Cx}{K:Q1}
theorem mj{g:CG}{ct:CT}{ce:CE}{n:Nat}{caps:List Nat}{J:It}{us:List U}{ok:Sto->Prop}{Q:VK}{m1:List Addr}{H1:Hp}{S1 S':Sto}{ρ:Rho}{σ:L2.St}{l:Addr}(sr1:Sr K m1 S1 H1)(lr:Lr K m1 H1 ρ σ)(ito:yG K J m1 H1 us ok)(hl:H1 l=none)(h2:b5 ok g ct ce S1.length us (kB n caps ρ) (S1++[.lst []])=some S')
  (post:∀m2 H2,Ext K (m1++[l]) (upd H1 l (.lst [])) m2 H2->Sr K m2 S' H2->Q (.ref l) H2) :
  ∃W:Nat->Nat->L2.St->Hp->Prop,(∃m,W 0 m (OG.stC n caps σ) (upd H1 l (.lst [])))/\
 ∀i m σ' H2,W i m σ' H2->(J.stop i H2/\Q (.ref l) H2)\/(J.go i H2/\∃N:L2.St->Hp->Prop,(∀σ'' H',N σ'' H'->∃m',m'<m/\W (i+1) m' σ'' H')/\
  ∀x H3,J.yld i H2 x H3->tG K g x σ' H3 fun σ2 H4=>tT K ct σ2 H4 fun b H5=>match b with
   |true=>tE K ce σ2 H5 fun v H6=>∃ys,H6 l=some (.lst ys)/\ys.length<sizeLine/\N σ2 (upd H6 l (.lst (ys++[v])))
   |false=>N σ2 H5):=by
 have ee:Ext K m1 H1 (m1++[l]) (upd H1 l (.lst [])):=.new (bI hl _);let W:Nat->Nat->L2.St->Hp->Prop:=fun i k σ2 H2=>k=us.length-i/\i<=us.length/\∃m2 ρ2 S2,Ext K (m1++[l]) (upd H1 l (.lst [])) m2 H2/\Sr K m2 S2 H2/\Lr K m2 H2 ρ2 σ2/\b5 ok g ct ce S1.length (us.drop i) ρ2 S2=some S'
 refine⟨W,⟨us.length,by simp,Z5 _,m1++[l],kB n caps ρ,S1++[.lst []],.refl,sr1.new (o:=.lst []) hl ⟨[],aG,.nil_⟩,wR (lr.mono ee),by simpa using h2⟩,?_⟩;rintro i k σ2 H2 ⟨rfl,hi,m2,ρ2,S2,e2,sr2,lr2,hl2⟩;by_cases hlt:i<us.length
 ·have hu:=Q4 hlt;rw[md hu]at hl2;unfold b5 at hl2;split at hl2
  ·rename_i hok;obtain⟨⟨ρ3,S3⟩,h3,hl2⟩:=Q0.mp hl2;obtain⟨⟨b4,S4⟩,h4,hl2⟩:=Q0.mp hl2;obtain⟨hgo,hy⟩:=(ito m2 S2 H2 i (ee.trans e2) sr2 hok).1 _ hu;refine .inr ⟨hgo,W (i+1) (us.length-(i+1)),fun σ' H' w'=>⟨_,by omega,w'⟩,fun x H3 y=>?_⟩;obtain⟨e3,sr3,ix⟩:=hy x H3 y;refine⟨m2,ρ2,S2,_,ρ3,S3,sr3,lr2.mono e3,ix,h3,fun m4 σ4 H4 e4 sr4 lr4=>⟨m4,ρ3,S3,b4,S4,sr4,lr4,h4,fun m4' H4' e4' sr4'=>?_⟩⟩;cases b4 with
   |false=>
    rw[if_neg QV]at hl2;exact⟨rfl,hlt,m4',ρ3,_,(((e2.trans e3).trans e4).trans e4'),sr4',lr4.mono e4',hl2⟩
   |true=>
    rw[if_pos rfl]at hl2;obtain⟨⟨u5,S5⟩,h5,hl2⟩:=Q0.mp hl2;simp only at hl2;split at hl2<;>try cases hl2
    rename_i ys hys;split at hl2<;>try cases hl2
    rename_i ed;refine⟨m4',ρ3,S4,u5,S5,sr4',lr4.mono e4',h5,fun m5 v5 H5 e5 sr5 i5=>?_⟩;obtain⟨a',ha',xs,hx,il⟩:=sr5.get hys;have ha:m5[S1.length]?=some l:=((((e2.trans e3).trans e4).trans e4').trans e5).get (dr sr1.len);rw[ha]at ha';cases ha';have eu:Ext K m5 H5 m5 (upd H5 l (.lst (xs++[v5]))):=.of (sr5.keep ha _);exact⟨xs,hx,Eo (by rw[il.length];exact ed),rfl,hlt,m5,ρ3,_,(((((e2.trans e3).trans e4).trans e4').trans e5).trans eu),sr5.put (o:=.lst (ys++[u5])) ha ⟨_,aG,(il.append (.cons_ i5 .nil_)).mono eu⟩,(lr4.mono ((e4'.trans e5).trans eu)),hl2⟩
  ·cases hl2
 ·have e:i=us.length:=by omega
  subst e;rw[List.drop_length]at hl2;unfold b5 at hl2;split at hl2
  ·rename_i hok;cases hl2;exact .inl ⟨(ito m2 _ H2 _ (ee.trans e2) sr2 hok).2 (QX _),post m2 H2 e2 sr2⟩
  ·cases hl2
theorem nv{ci:CI}{g:CG}{ct:CT}{ce:CE}{n:Nat}{caps:List Nat}:∀σ H Q,tE K (dC ci g ct ce n caps) σ H Q->nN (tI K ci) (tG K g) (tT K ct) (tE K ce) n caps σ H Q:=by
 rintro σ H Q ⟨m,ρ,S,u,S',sr,lr,hc,post⟩;obtain⟨⟨us,ok,S1⟩,h1,h2⟩:=Q0.mp hc;obtain⟨S2,h2,h3⟩:=Q0.mp h2;cases h3;refine⟨m,ρ,S,us,ok,S1,sr,lr,h1,fun m1 H1 J e1 sr1 ito l hl=>?_⟩;have ee:Ext K m1 H1 (m1++[l]) (upd H1 l (.lst [])):=.new (bI hl _);exact mj sr1 (lr.mono e1) ito hl h2 fun m2 H2 e2 sr2=>post m2 _ H2 ((e1.trans ee).trans e2) sr2 (.ref_ (e2.get (dr sr1.len)))
theorem nQ{Nc capN tn:List Str}{scope:Scope}{cl:List (Str×Addr)}{n:Nat}{caps:List Nat}{tg iter elt:Expr}{pos:Pos}{ci:CI}{g:CG}{ct:CT}{ce:CE}{c:Expr}
  (hc:X.calm=true) (hi:QI X tg iter ci) (hg:∀s3 H3 fp,WG (cxC X Nc scope cl s3 H3 fp) tg (tG X.K g)) (ht:∀s3 H3 fp,WT (cxC X Nc scope cl s3 H3 fp) c (tT X.K ct)) (he:∀s3 H3 fp,WE (cxC X Nc scope cl s3 H3 fp) elt (tE X.K ce))
  (hclos:closureFor scope X.env=pure cl) (hkind:scope.kind=.function) (hnl:∀x∈scope.names,x.2=.local->scope.names.lookup x.1=some .local) (hcell:∀x∈scope.names,x.2≠.cell)
  (hcl:qj X.env cl) (hhas:((relabel scope X.env).names.all fun p=>!(p.2 == .cell||p.2 == .free)||(cl.lookup p.1).isSome)=true)
  (hcap:Paired (Cap X scope cl) caps capN) (hN:Nc=tn++capN) (hn:tn.length=n)
  (hs:∀x,foldedSetIterable iter X.env x=pure x:=by intro _;rfl) :
  QE X (.ListComp elt [⟨tg,iter,[c],0⟩] scope pos) (dC ci g ct ce n caps):=(mR hc hi hg he ht hclos hkind hnl hcell hcl hhas hcap hN hn hs).imp nv
end
end OP
namespace OP
open PySem PySem.Spec PyProof PyProof.Rows L2 OG
mutual
inductive RdV(K:Q1)(H:Hp):V->PyData->Prop
 |non:RdV K H .non .none
 |bl (b:Bool):RdV K H (.bl b) (.bool b)
 |int (i:Int):RdV K H (.int i) (.int i)
 |str (x:Str):RdV K H (.str x) (.str x)
 |lst {a:Addr} {xs:List V} {ds:List PyData}:SqL K H a xs->yC K H xs ds->RdV K H (.ref a) (.list ds)
 |tup {a:Addr} {xs:List V} {ds:List PyData}:SqT K H a xs->yC K H xs ds->RdV K H (.ref a) (.tuple ds)
inductive yC(K:Q1)(H:Hp):List V->List PyData->Prop
 |nil:yC K H [] []
 |cons {x:V} {xs:List V} {d:PyData} {ds:List PyData}:RdV K H x d->yC K H xs ds->yC K H (x::xs) (d::ds)
end
mutual
inductive Dt(S:Sto):U->PyData->Prop
 |non:Dt S .non .none
 |bl (b:Bool):Dt S (.bl b) (.bool b)
 |int (i:Int):Dt S (.int i) (.int i)
 |str (x:Str):Dt S (.str x) (.str x)
 |lst {l:Nat} {us:List U} {ds:List PyData}:S[l]?=some (.lst us)->DtL S us ds->Dt S (.ref l) (.list ds)
 |tup {us:List U} {ds:List PyData}:DtL S us ds->Dt S (.tup us) (.tuple ds)
inductive DtL(S:Sto):List U->List PyData->Prop
 |nil:DtL S [] []
 |cons {x:U} {xs:List U} {d:PyData} {ds:List PyData}:Dt S x d->DtL S xs ds->DtL S (x::xs) (d::ds)
end
section
variable{X:Cx}{K:Q1}{pins:List (Addr×Obj)}{σ:L2.St}{H:Hp}{s:Shared}
mutual
theorem RdV.reads(I:Inv X pins σ H s):∀{x:V} {d:PyData} {v:Value},RdV X.K H x d->bV x v->∃as,Reads s.heap v d as
 |_,_,_,.non,r=>by cases r;exact⟨_,.none⟩
 |_,_,_,.bl b,r=>by cases r;exact⟨_,.bool b⟩
 |_,_,_,.int i,r=>by obtain⟨t,rfl⟩:=r;exact⟨_,.int i t⟩
 |_,_,_,.str i,r=>by obtain⟨t,rfl⟩:=r;exact⟨_,.str i t⟩
 |_,_,_,.lst (a:=a) h t,r=>by
  cases r;obtain⟨its,rv,pl,_⟩:=I.list h;obtain⟨as,k⟩:=yC.reads I t rv;obtain⟨o,h1,h2,n,h3⟩:=pl.isList;exact⟨_,.list h1 h2 h3 (by simpa using k)⟩
 |_,_,_,.tup (a:=a) h t,r=>by
  cases r;obtain⟨its,rv,pl,_⟩:=I.tuple h;obtain⟨as,k⟩:=yC.reads I t rv;obtain⟨o,h1,h2,n,h3⟩:=pl;exact⟨_,.tuple h1 h2 h3 (by simpa using k)⟩
theorem yC.reads(I:Inv X pins σ H s):∀{xs:List V} {ds:List PyData} {vs:List Value},yC X.K H xs ds->bP xs vs->∃as,ReadsAll s.heap vs ds as
 |_,_,_,.nil,r=>by cases r;exact⟨_,.nil⟩
 |_,_,_,.cons h t,.cons r rs=>by
  obtain⟨as,a⟩:=RdV.reads I h r;obtain⟨bs,b⟩:=yC.reads I t rs;exact⟨_,.cons a b⟩
end
mutual
theorem Dt.rd{m:List Addr}{S:Sto}(sr:Sr K m S H):∀{u:U} {d:PyData} {v:V},Dt S u d->Is K m H v u->RdV K H v d
 |_,_,_,.non,i=>by rw[i.of_non];exact .non
 |_,_,_,.bl b,i=>by rw[i.of_bl];exact .bl b
 |_,_,_,.int b,i=>by rw[i.of_int];exact .int b
 |_,_,_,.str b,i=>by rw[i.of_str];exact .str b
 |_,_,_,.lst h t,i=>by
  obtain⟨a,ha,rfl⟩:=i.of_ref;obtain⟨a',ha',xs,hx,il⟩:=sr.get h;rw[ha]at ha';cases ha';exact .lst (SqL.of hx) (DtL.rd sr t il)
 |_,_,_,.tup t,i=>by
  obtain⟨a,xs,rfl,sa,la⟩:=i.of_tup;exact .tup sa (DtL.rd sr t la)
theorem DtL.rd{m:List Addr}{S:Sto}(sr:Sr K m S H):∀{us:List U} {ds:List PyData} {vs:List V},DtL S us ds->IsL K m H vs us->yC K H vs ds
 |_,_,_,.nil,i=>by rw[i.of_nil];exact .nil
 |_,_,_,.cons h t,i=>by
  obtain⟨x,r,rfl,i1,i2⟩:=i.of_cons;exact .cons (Dt.rd sr h i1) (DtL.rd sr t i2)
end
mutual
theorem Dt.uniq{S:Sto}:∀{u:U} {d e:PyData},Dt S u d->Dt S u e->d=e
 |_,_,_,.non,.non=>rfl
 |_,_,_,.bl _,.bl _=>rfl
 |_,_,_,.int _,.int _=>rfl
 |_,_,_,.str _,.str _=>rfl
 |_,_,_,.lst h t,.lst h' t'=>by
  rw[h]at h';cases h';rw[DtL.uniq t t']
 |_,_,_,.tup t,.tup t'=>by rw[DtL.uniq t t']
theorem DtL.uniq{S:Sto}:∀{us:List U} {ds es:List PyData},DtL S us ds->DtL S us es->ds=es
 |_,_,_,.nil,.nil=>rfl
 |_,_,_,.cons h t,.cons h' t'=>by rw[Dt.uniq h h',DtL.uniq t t']
end
def yF(d:PyData):Prop:=d.canLay0=true/\d.depth<=60
def J4(K:Q1)(neg:Bool):R2:=fun x y H Q=>(∃dx dy,RdV K H x dx/\RdV K H y dy/\yF dx/\yF dy/\Q (.bl (if neg then !dx.eqv dy else dx.eqv dy)) H)\/
 ∃a b xs ys,x=.ref a/\y=.ref b/\SqL K H a xs/\SqL K H b ys/\xs.length≠ys.length/\Q (.bl neg) H
theorem GO(hu:X.A.units+64<cLine):OpR X (compareOp .Eq) (J4 X.K false):=by
 rintro pins s σ H x y v u Q I rx ry (⟨dx,dy,hx,hy,lx,ly,q⟩|⟨a,b,xs,ys,rfl,rfl,ha,hb,ne,q⟩)
 ·obtain⟨as,hx⟩:=hx.reads I rx;obtain⟨bs,hy⟩:=hy.reads I ry;exact SeqAt.compareEq_reads hx hy lx.1 ly.1 (by have:=lx.2;omega) ⟨.bl _,H,I,rfl,q⟩
 ·cases rx;cases ry;obtain⟨i1,r1,p1,_⟩:=I.list ha;obtain⟨i2,r2,p2,_⟩:=I.list hb;have l1:=r1.length;have l2:=r2.length;exact SeqAt.RcAt.lists_lengths p1.isList p2.isList (by simp;omega) (by omega) X.prog X.w X.xe _ ⟨.bl false,H,I,rfl,q⟩
theorem wD(hu:X.A.units+64<cLine):OpR X (compareOp .NotEq) (J4 X.K true):=by
 rintro pins s σ H x y v u Q I rx ry (⟨dx,dy,hx,hy,lx,ly,q⟩|⟨a,b,xs,ys,rfl,rfl,ha,hb,ne,q⟩)
 ·obtain⟨as,hx⟩:=hx.reads I rx;obtain⟨bs,hy⟩:=hy.reads I ry;exact SeqAt.compareNe_reads hx hy lx.1 ly.1 (by have:=lx.2;omega) ⟨.bl _,H,I,rfl,q⟩
 ·cases rx;cases ry;obtain⟨i1,r1,p1,_⟩:=I.list ha;obtain⟨i2,r2,p2,_⟩:=I.list hb;have l1:=r1.length;have l2:=r2.length;exact SeqAt.RcNeAt.lists_lengths p1.isList p2.isList (by simp;omega) (by omega) X.prog X.w X.xe _ ⟨.bl true,H,I,rfl,q⟩
def yO(x y:U)(S:Sto)(b:Bool):Prop:=(∃dx dy,Dt S x dx/\Dt S y dy/\yF dx/\yF dy/\b=dx.eqv dy)\/∃l l' us vs,x=.ref l/\y=.ref l'/\S[l]?=some (.lst us)/\S[l']?=some (.lst vs)/\us.length≠vs.length/\b=false
theorem DtL.length{S:Sto}:∀{us:List U} {ds:List PyData},DtL S us ds->us.length=ds.length
 |_,_,.nil=>rfl
 |_,_,.cons _ t=>by rw[QU,QU,DtL.length t]
theorem yO.mix{l l':Nat}{us vs:List U}{S:Sto}{dx dy:PyData}(h1:Dt S (.ref l) dx)(h2:Dt S (.ref l') dy)(k1:S[l]?=some (.lst us))(k2:S[l']?=some (.lst vs))(ne:us.length≠vs.length):dx.eqv dy=false:=by
 cases h1 with
 |lst a1 t1=>
  cases h2 with
  |lst a2 t2=>
   rw[k1]at a1;cases a1;rw[k2]at a2;cases a2;show PyData.eqvAll _ _=false;exact SeqAt.eqvAll_other_length (by rw[<-t1.length,<-t2.length];exact ne)
theorem yO.uniq{x y:U}{S:Sto}{b c:Bool}(h:yO x y S b)(k:yO x y S c):b=c:=by
 rcases h with⟨dx,dy,h1,h2,_,_,rfl⟩|⟨l,l',us,vs,rfl,rfl,h1,h2,ne,rfl⟩
 ·rcases k with⟨ex,ey,k1,k2,_,_,rfl⟩|⟨l,l',us,vs,rfl,rfl,k1,k2,ne,rfl⟩
  ·rw[h1.uniq k1,h2.uniq k2]
  ·exact yO.mix h1 h2 k1 k2 ne
 ·rcases k with⟨ex,ey,k1,k2,_,_,rfl⟩|⟨_,_,_,_,_,_,_,_,_,rfl⟩
  ·exact(yO.mix k1 k2 h1 h2 ne).symm
  ·rfl
open Classical in
def qS(neg:Bool):U->U->Sto->Option (U×Sto):=fun x y S=>if h:∃b,yO x y S b then some (.bl (if neg then !h.choose else h.choose),S)else none
theorem qR{x y:U}{S:Sto}{b:Bool}(neg:Bool)(h:yO x y S b):qS neg x y S=some (.bl (if neg then !b else b),S):=by
 unfold qS;rw[dif_pos ⟨b,h⟩];have e:(⟨b,h⟩:∃b,yO x y S b).choose=b:=(Exists.choose_spec (⟨b,h⟩:∃b,yO x y S b)).uniq h;rw[e]
theorem zQ{neg:Bool}:OpP K (J4 K neg) (qS neg):=by
 intro m S H x y v w u S' Q sr ix iy hf post;unfold qS at hf;split at hf<;>try cases hf
 rename_i h;have hb:=h.choose_spec;generalize h.choose=b at hb post;rcases hb with⟨dx,dy,h1,h2,l1,l2,rfl⟩|⟨l,l',us,vs,rfl,rfl,h1,h2,ne,rfl⟩
 ·exact .inl ⟨dx,dy,h1.rd sr ix,h2.rd sr iy,l1,l2,post m _ H .refl sr .bl_⟩
 ·obtain⟨a,ha,rfl⟩:=ix.of_ref;obtain⟨a',ha',xs,hx,la⟩:=sr.get h1;rw[ha]at ha';cases ha';obtain⟨c,hc,rfl⟩:=iy.of_ref;obtain⟨c',hc',ys,hy,lc⟩:=sr.get h2;rw[hc]at hc';cases hc';refine .inr ⟨a,c,xs,ys,rfl,rfl,SqL.of hx,SqL.of hy,by rw[la.length,lc.length];exact ne,?_⟩;have e:(if neg=true then !false else false)=neg:=by cases neg<;>rfl
  have:=post m _ H .refl sr (Is.bl_ (b:=if neg=true then !false else false));rw[e]at this;exact this
def Ew(us:List U)(lo hi:Option Int):List U:=(us.drop (HT.sIx us.length 0 lo)).take (HT.sIx us.length us.length hi-HT.sIx us.length 0 lo)
theorem tm{m:List Addr}{xs:List V}{us:List U}{lo hi:Option Int}(i:IsL K m H xs us):IsL K m H (yb xs lo hi) (Ew us lo hi):=by
 unfold yb Ew;rw[i.length];exact(i.drop _).take _
def fSl(x:U)(lo hi:Option Int)(S:Sto):Option (U×Sto):=match x with
 |.tup us=>if HT.sIx us.length 0 lo=0/\HT.sIx us.length us.length hi=us.length then none else some (.tup (Ew us lo hi),S)
 |.ref l=>match S[l]? with
  |some (.lst us)=>some (.ref S.length,S++[.lst (Ew us lo hi)])
  |_=>none
 |_=>none
def uN:Option CE->Rho->Sto->Option (Option Int×Sto)
 |none,_,S=>some (none,S)
 |some c,ρ,S=>(c ρ S).bind fun p=>match p.1 with
  |.int i=>some (some i,p.2)
  |_=>none
def cSl(ca:CE)(cl ch:Option CE):CE:=fun ρ S=>(ca ρ S).bind fun p=>(uN cl ρ p.2).bind fun q=>(uN ch ρ q.2).bind fun r=>fSl p.1 q.1 r.1 r.2
def Lb(K:Q1)(m:List Addr)(H:Hp)(Q:Option Int->Hp->Prop)(o:Option Int)(S':Sto):Prop:=∀m' H',Ext K m H m' H'->Sr K m' S' H'->Q o H'
def tO(K:Q1)(c:Option CE):TO:=fun σ H Q=>∃m ρ S o S',Sr K m S H/\Lr K m H ρ σ/\uN c ρ S=some (o,S')/\Lb K m H Q o S'
abbrev QO(X:Cx)(e:Option Expr)(c:Option CE):Prop:=WO X e (tO X.K c)
theorem wc:QO X none none:=⟨fun pins s σ H Q I hz=>kf hz fun m ρ S o S' sr lr hc post=>rH.h pins s σ H Q I (by cases hc;exact post m H .refl sr)⟩
theorem wb{e:Expr}{ca:CE}(h:QE X e ca):QO X (some e) (some ca):=⟨fun pins s σ H Q I hz=>kf hz fun m ρ S o S' sr lr hc post=>(rG h).h pins s σ H Q I (by
 obtain⟨⟨x,S1⟩,h1,h2⟩:=Q0.mp hc;refine⟨m,ρ,S,x,S1,sr,lr,h1,fun m1 v1 H1 e1 sr1 i1=>?_⟩;cases x<;>simp at h2;obtain⟨rfl,rfl⟩:=h2;exact⟨_,i1.of_int,post m1 H1 e1 sr1⟩)⟩
theorem Lv{e:Expr}{lo hi:Option Expr}{ca:CE}{cl ch:Option CE}{pos p2:Pos}(ha:QE X e ca)(hl:QO X lo cl)(hh:QO X hi ch):QE X (.Subscript e (.Slice lo hi none p2) pos) (cSl ca cl ch):=(oP (vP.or FQ) ha hl hh).imp fun σ H Q hz=>kf hz fun m ρ S u S' sr lr hc post=>by
 obtain⟨⟨x,S1⟩,h1,ha⟩:=Q0.mp hc;obtain⟨⟨l,S2⟩,h2,hb⟩:=Q0.mp ha;obtain⟨⟨k,S3⟩,h3,h⟩:=Q0.mp hb;clear ha hb hc;refine⟨m,ρ,S,x,S1,sr,lr,h1,fun m1 v1 H1 e1 sr1 i1=>⟨m1,ρ,S1,l,S2,sr1,lr.mono e1,h2,fun m2 H2 e2 sr2=>⟨m2,ρ,S2,k,S3,sr2,lr.mono (e1.trans e2),h3,fun m3 H3 e3 sr3=>?_⟩⟩⟩;have i3:=i1.mono (e2.trans e3);have e03:=(e1.trans e2).trans e3;cases x with
 |tup us=>
  simp only[fSl]at h;split at h<;>try cases h
  rename_i hw;obtain⟨a,xs,rfl,sa,la⟩:=i3.of_tup;exact .inr ⟨a,xs,rfl,sa,by rw[la.length];exact hw,fun p hp=>nR sr3 (tm la) (post.mono e03) hp⟩
 |ref r=>
  simp only[fSl]at h;split at h<;>try cases h
  rename_i us hS;obtain⟨a,ha,rfl⟩:=i3.of_ref;obtain⟨a',ha',xs,hx,la⟩:=sr3.get hS;rw[ha]at ha';cases ha';exact .inl ⟨a,xs,rfl,SqL.of hx,fun p hp=>fb sr3 (tm la) (post.mono e03) hp⟩
 |_=>simp[fSl]at h
end
instance {us:List U}:Decidable (us≠[]):=match us with
 |[]=>.isFalse fun h=>h rfl
 |_::_=>.isTrue fun h=>by cases h
end OP
namespace OG
open PySem PySem.Spec PyProof.Rows L2
theorem A6{C a:Addr}{m:Str->Option Value}{h h':Heap}(n:h.Ns C m)(s:ZH a h h')(ne:C≠a):h'.Ns C m:=by
 obtain⟨o,es,ep,e,r⟩:=n;exact⟨o,es,ep,(s.2 C ne).trans e,r⟩
theorem tV{X:Cx}{Nc capN tn:List Str}{scope:Scope}{cl:List (Str×Addr)}{n:Nat}{caps:List Nat}{tg iter elt:Expr}{pos:Pos}{wi:TI}{g:TG}{te:TE}
  (hc:X.calm=true) (hi:WI X tg iter wi) (hg:∀s3 H3 fp,WG (cxC X Nc scope cl s3 H3 fp) tg g) (he:∀s3 H3 fp,WE (cxC X Nc scope cl s3 H3 fp) elt te)
  (hclos:closureFor scope X.env=pure cl) (hkind:scope.kind=.function) (hnl:∀x∈scope.names,x.2=.local->scope.names.lookup x.1=some .local) (hcell:∀x∈scope.names,x.2≠.cell)
  (hcl:qj X.env cl) (hhas:((relabel scope X.env).names.all fun p=>!(p.2 == .cell||p.2 == .free)||(cl.lookup p.1).isSome)=true)
  (hcap:Paired (Cap X scope cl) caps capN) (hN:Nc=tn++capN) (hn:tn.length=n)
  {i₀:Nat} {x₀:Str} {pos₀ pos':Pos} (hN0:X.N.Nodup) (hi0:X.N[i₀]?=some x₀) (hx0:X.env.scope.names.lookup x₀=some .local)
  (hsw:swapsWith (.ListComp elt [⟨tg,iter,[],0⟩] scope pos) (some (.Name x₀ pos')) pos₀.line X.env=pure true)
  (hs:∀x,foldedSetIterable iter X.env x=pure x:=by intro _;rfl) :
  WS X (.Assign [.Name x₀ pos'] (.ListComp elt [⟨tg,iter,[],0⟩] scope pos) pos₀) (fun D σ H=>zf wi g te n caps σ H fun v H'=>D.nx (σ.set i₀ (some v)) H'):=by
 constructor;intro pins s σ H Dn I h;rw[exec_Assign_arm];refine Q2 (wpAny_standAt ?_);have hsw':swapsWithSole [.Name x₀ pos'] (.ListComp elt [⟨tg,iter,[],0⟩] scope pos) pos₀.line X.env=pure true:=hsw;rw[hsw'];refine Q2 (Q9 ?_);rw[if_pos rfl,arm_evalThenUse_ListComp];refine Q2 (Q2 (tw (Qf:=fun _ s'=>wpAny (model X.prog X.w) X.A (pure ()) (fun _ s'=>wpAny (model X.prog X.w) X.A (pure Flow.next) (SP X pins Dn) X.xe s') X.xe s') hc hi hg he hclos hkind hnl hcell hcl hhas hcap hN hn I h (fun D C s6 H5 m I7 hm fr nl sz cn pn qn=>?_) hs));show wpAny _ _ (assign (.Name x₀ pos') X.env (.ref D)) _ _ s6;rw[arm_assign_Name];refine Q2 (wpAny_standAt (wpAny_bindName (kQ (v:=.ref D) I7 hN0 hi0 (.inl hx0) rfl (fun s7 I7' hsb=>?_) (.inr hx0))));obtain⟨a7,hsb,ha7⟩:=hsb;have cNe:C≠a7:=by
  rcases ha7 with z|z
  ·rw[z];exact nl
  ·exact Ne.symm (cn _ _ z)
 refine⟨m,A6 hm hsb cNe,fun h' hs'=>Q9 (Q9 ⟨_,H5,?_,qn⟩)⟩;exact I7'.turned (t':=s7.toks) (it:=C) (fun b o hb e=>hs'.extBut b o hb e) fr nl (.inr sz) cn pn
theorem oO{X:Cx}{Nc capN tn:List Str}{scope:Scope}{cl:List (Str×Addr)}{n:Nat}{caps:List Nat}{tg iter elt:Expr}{pos:Pos}{wi:TI}{g:TG}{te:TE}{tt:TT}{c:Expr}
  (hc:X.calm=true) (hi:WI X tg iter wi) (hg:∀s3 H3 fp,WG (cxC X Nc scope cl s3 H3 fp) tg g) (he:∀s3 H3 fp,WE (cxC X Nc scope cl s3 H3 fp) elt te)
  (ht:∀s3 H3 fp,WT (cxC X Nc scope cl s3 H3 fp) c tt)
  (hclos:closureFor scope X.env=pure cl) (hkind:scope.kind=.function) (hnl:∀x∈scope.names,x.2=.local->scope.names.lookup x.1=some .local) (hcell:∀x∈scope.names,x.2≠.cell)
  (hcl:qj X.env cl) (hhas:((relabel scope X.env).names.all fun p=>!(p.2 == .cell||p.2 == .free)||(cl.lookup p.1).isSome)=true)
  (hcap:Paired (Cap X scope cl) caps capN) (hN:Nc=tn++capN) (hn:tn.length=n)
  {i₀:Nat} {x₀:Str} {pos₀ pos':Pos} (hN0:X.N.Nodup) (hi0:X.N[i₀]?=some x₀) (hx0:X.env.scope.names.lookup x₀=some .local)
  (hsw:swapsWith (.ListComp elt [⟨tg,iter,[c],0⟩] scope pos) (some (.Name x₀ pos')) pos₀.line X.env=pure true)
  (hs:∀x,foldedSetIterable iter X.env x=pure x:=by intro _;rfl) :
  WS X (.Assign [.Name x₀ pos'] (.ListComp elt [⟨tg,iter,[c],0⟩] scope pos) pos₀) (fun D σ H=>nN wi g tt te n caps σ H fun v H'=>D.nx (σ.set i₀ (some v)) H'):=by
 constructor;intro pins s σ H Dn I h;rw[exec_Assign_arm];refine Q2 (wpAny_standAt ?_);have hsw':swapsWithSole [.Name x₀ pos'] (.ListComp elt [⟨tg,iter,[c],0⟩] scope pos) pos₀.line X.env=pure true:=hsw;rw[hsw'];refine Q2 (Q9 ?_);rw[if_pos rfl,arm_evalThenUse_ListComp];refine Q2 (Q2 (ny (Qf:=fun _ s'=>wpAny (model X.prog X.w) X.A (pure ()) (fun _ s'=>wpAny (model X.prog X.w) X.A (pure Flow.next) (SP X pins Dn) X.xe s') X.xe s') hc hi hg he ht hclos hkind hnl hcell hcl hhas hcap hN hn I h (fun D C s6 H5 m I7 hm fr nl sz cn pn qn=>?_) hs));show wpAny _ _ (assign (.Name x₀ pos') X.env (.ref D)) _ _ s6;rw[arm_assign_Name];refine Q2 (wpAny_standAt (wpAny_bindName (kQ (v:=.ref D) I7 hN0 hi0 (.inl hx0) rfl (fun s7 I7' hsb=>?_) (.inr hx0))));obtain⟨a7,hsb,ha7⟩:=hsb;have cNe:C≠a7:=by
  rcases ha7 with z|z
  ·rw[z];exact nl
  ·exact Ne.symm (cn _ _ z)
 refine⟨m,A6 hm hsb cNe,fun h' hs'=>Q9 (Q9 ⟨_,H5,?_,qn⟩)⟩;exact I7'.turned (t':=s7.toks) (it:=C) (fun b o hb e=>hs'.extBut b o hb e) fr nl (.inr sz) cn pn
end OG
namespace OP
open PySem PySem.Spec PyProof.Rows L2 OG
section
variable{X:Cx}{K:Q1}
theorem mY{i₀:Nat}{x₀:Str}{pos₀ pos':Pos}{Nc capN tn:List Str}{scope:Scope}{cl:List (Str×Addr)}{n:Nat}{caps:List Nat}{tg iter elt:Expr}{pos:Pos}{ci:CI}{g:CG}{ce:CE}
  (hc:X.calm=true) (hi:QI X tg iter ci) (hg:∀s3 H3 fp,WG (cxC X Nc scope cl s3 H3 fp) tg (tG X.K g)) (he:∀s3 H3 fp,WE (cxC X Nc scope cl s3 H3 fp) elt (tE X.K ce))
  (hclos:closureFor scope X.env=pure cl) (hkind:scope.kind=.function) (hnl:∀x∈scope.names,x.2=.local->scope.names.lookup x.1=some .local) (hcell:∀x∈scope.names,x.2≠.cell)
  (hcl:qj X.env cl) (hhas:((relabel scope X.env).names.all fun p=>!(p.2 == .cell||p.2 == .free)||(cl.lookup p.1).isSome)=true)
  (hcap:Paired (Cap X scope cl) caps capN) (hN:Nc=tn++capN) (hn:tn.length=n)
  (hN0:X.N.Nodup) (hi0:X.N[i₀]?=some x₀) (hx0:X.env.scope.names.lookup x₀=some .local)
  (hsw:swapsWith (.ListComp elt [⟨tg,iter,[],0⟩] scope pos) (some (.Name x₀ pos')) pos₀.line X.env=pure true)
  (hs:∀x,foldedSetIterable iter X.env x=pure x:=by intro _;rfl) :
  QS X (.Assign [.Name x₀ pos'] (.ListComp elt [⟨tg,iter,[],0⟩] scope pos) pos₀) (cY i₀ (dQ ci g ce n caps)):=(tV hc hi hg he hclos hkind hnl hcell hcl hhas hcap hN hn hN0 hi0 hx0 hsw hs).imp fun D σ H hz=>qi hz fun m ρ S o ρ' S' sr lr hc post=>by
 obtain⟨⟨u,S1⟩,h1,h2⟩:=Q0.mp hc;cases h2;exact tq _ _ _ ⟨m,ρ,S,u,_,sr,lr,h1,fun m1 v1 H1 e1 sr1 i1=>post m1 _ H1 e1 sr1 ((lr.mono e1).set i₀ i1)⟩
theorem o5{i₀:Nat}{x₀:Str}{pos₀ pos':Pos}{Nc capN tn:List Str}{scope:Scope}{cl:List (Str×Addr)}{n:Nat}{caps:List Nat}{tg iter elt:Expr}{pos:Pos}{ci:CI}{g:CG}{ct:CT}{ce:CE}{c:Expr}
  (hc:X.calm=true) (hi:QI X tg iter ci) (hg:∀s3 H3 fp,WG (cxC X Nc scope cl s3 H3 fp) tg (tG X.K g)) (ht:∀s3 H3 fp,WT (cxC X Nc scope cl s3 H3 fp) c (tT X.K ct)) (he:∀s3 H3 fp,WE (cxC X Nc scope cl s3 H3 fp) elt (tE X.K ce))
  (hclos:closureFor scope X.env=pure cl) (hkind:scope.kind=.function) (hnl:∀x∈scope.names,x.2=.local->scope.names.lookup x.1=some .local) (hcell:∀x∈scope.names,x.2≠.cell)
  (hcl:qj X.env cl) (hhas:((relabel scope X.env).names.all fun p=>!(p.2 == .cell||p.2 == .free)||(cl.lookup p.1).isSome)=true)
  (hcap:Paired (Cap X scope cl) caps capN) (hN:Nc=tn++capN) (hn:tn.length=n)
  (hN0:X.N.Nodup) (hi0:X.N[i₀]?=some x₀) (hx0:X.env.scope.names.lookup x₀=some .local)
  (hsw:swapsWith (.ListComp elt [⟨tg,iter,[c],0⟩] scope pos) (some (.Name x₀ pos')) pos₀.line X.env=pure true)
  (hs:∀x,foldedSetIterable iter X.env x=pure x:=by intro _;rfl) :
  QS X (.Assign [.Name x₀ pos'] (.ListComp elt [⟨tg,iter,[c],0⟩] scope pos) pos₀) (cY i₀ (dC ci g ct ce n caps)):=(oO hc hi hg he ht hclos hkind hnl hcell hcl hhas hcap hN hn hN0 hi0 hx0 hsw hs).imp fun D σ H hz=>qi hz fun m ρ S o ρ' S' sr lr hc post=>by
 obtain⟨⟨u,S1⟩,h1,h2⟩:=Q0.mp hc;cases h2;exact nv _ _ _ ⟨m,ρ,S,u,_,sr,lr,h1,fun m1 v1 H1 e1 sr1 i1=>post m1 _ H1 e1 sr1 ((lr.mono e1).set i₀ i1)⟩
end
end OP
namespace OP
open PySem PySem.Spec PyProof PyProof.Rows L2 OG
section
variable{X:Cx}{K:Q1}
def q0(ca:CE):CE:=fun ρ S=>(ca ρ S).bind fun p=>match p.1 with
 |.int i=>some (.int (-i),p.2)
 |_=>none
theorem AI:UnR X (unaryOp .USub) (fun x H Q=>∃i,x=.int i/\Q (.int (-i)) H):=by
 rintro pins s σ H x v Q I rx ⟨i,rfl,q⟩;obtain⟨t,rfl⟩:=rx;exact PyProof.Rows.neg_int ⟨.int (-i),H,I.tok _,⟨_,rfl⟩,q⟩
theorem ua{a:Expr}{ca:CE}{pos:Pos}(ha:QE X a ca):QE X (.UnaryOp .USub a pos) (q0 ca):=(Fv AI ha).imp fun σ H Q hz=>kf hz fun m ρ S u S' sr lr hc post=>by
 obtain⟨⟨x,S1⟩,h1,h2⟩:=Q0.mp hc;refine⟨m,ρ,S,x,S1,sr,lr,h1,fun m1 v1 H1 e1 sr1 i1=>?_⟩;cases x<;>simp at h2;obtain⟨rfl,rfl⟩:=h2;exact⟨_,i1.of_int,post m1 _ H1 e1 sr1 .int_⟩
def yK:U->List U->Sto->Option (U×Sto)
 |.ref l,[],S=>match S[l]? with
  |some (.lst us)=>(us[us.length-1]?).bind fun u=>some (u,S.set l (.lst us.dropLast))
  |_=>none
 |_,_,_=>none
theorem IsL.dropLast{m:List Addr}{H:Hp}{xs:List V}{us:List U}(h:IsL K m H xs us):IsL K m H xs.dropLast us.dropLast:=by
 rw[List.dropLast_eq_take,List.dropLast_eq_take,h.length];exact h.take _
theorem Kj:MtP K Ls yK:=by
 intro m S H x v us vs u S' Q sr ix i hf post;match x,us,hf with
 |.ref l,[],hf=>
  simp only[yK]at hf;split at hf<;>try cases hf
  rename_i ws hS;obtain⟨w,hw,h⟩:=Q0.mp hf;cases h;obtain⟨a,ha,rfl⟩:=ix.of_ref;obtain⟨a',ha',xs,hx,la⟩:=sr.get hS;rw[ha]at ha';cases ha';obtain⟨y,hy,iy⟩:=la.getD hw;have eu:Ext K m H m (upd H a (.lst xs.dropLast)):=.of (sr.keep ha _);exact⟨a,xs,y,rfl,i.of_nil,hx,by rw[la.length];exact hy,post m _ _ eu (sr.put ha ⟨_,aG,la.dropLast.mono eu⟩) (iy.mono eu)⟩
def fO:U->List U->Sto->Option (U×Sto)
 |.ref l,[.int i],S=>match S[l]? with
  |some (.lst us)=>if 0<=i/\i<us.length/\us.length<=LIM then(us[i.toNat]?).bind fun u=>some (u,S.set l (.lst (us.eraseIdx i.toNat)))else none
  |_=>none
 |_,_,_=>none
theorem C8:MtP K AU fO:=by
 intro m S H x v us vs u S' Q sr ix i hf post;match x,us,hf with
 |.ref l,[.int k],hf=>
  simp only[fO]at hf;split at hf<;>try cases hf
  rename_i ws hS;split at hf<;>try cases hf
  rename_i hk;obtain⟨w,hw,h⟩:=Q0.mp hf;cases h;obtain⟨a,ha,rfl⟩:=ix.of_ref;obtain⟨a',ha',xs,hx,la⟩:=sr.get hS;rw[ha]at ha';cases ha';obtain⟨y,hy,iy⟩:=la.getD hw;obtain⟨z,rfl,iz⟩:=i.one;have eu:Ext K m H m (upd H a (.lst (xs.eraseIdx k.toNat))):=.of (sr.keep ha _);have hL:ws.length<=100000:=hk.2.2;exact⟨a,xs,k,k.toNat,y,rfl,by rw[iz.of_int],hx,by omega,by omega,seqIndex_of hk.1 (by rw[la.length];exact hk.2.1),hy,post m _ _ eu (sr.put ha ⟨_,aG,(la.erase _).mono eu⟩) (iy.mono eu)⟩
variable{e:Expr}{es:List Expr}{co:CE}{cr:CA}{o:Expr}{apos cpos:Pos}
theorem qA (ho : QE X o co) (ha : QA X (e :: es) cr) (hbase : attributeBase o "pop" X.env (eval o X.env) = eval o X.env := by rfl) (hfew : ((backTo cpos (starEach (e :: es) X.env)).all (fun x => !x.1) && (backToKw cpos (keywordEach [] X.env)).all (fun x => x.1.isSome)
   && decide ((e::es).length+([]:List Keyword).length+(if ([]:List Keyword).isEmpty then 0 else 1)<30))=true:=by rfl) (hline:(apos.endLine == cpos.line)=true:=by rfl) (hs:starEach (e::es) X.env=(false,eval e X.env)::starEach es X.env:=by rfl) (hplain:(backTo cpos (starEach es X.env)).any (·.1)=false:=by rfl) :
  QE X (.Call (.Attribute o "pop" apos) (e::es) [] cpos) (cBM fO co cr):=(vn PySem.F.plainAttrs_list PySem.F.slot_list_pop PySem.F.type_list_pop zW ho ha.h hbase hfew hline hs hplain).imp (tM C8)
theorem FY(ho:QE X o co)(hbase:attributeBase o "pop" X.env (eval o X.env)=eval o X.env:=by rfl)(hline:(apos.endLine == cpos.line)=true:=by rfl) :
  QE X (.Call (.Attribute o "pop" apos) [] [] cpos) (cBM yK co aD):=(B7 PySem.F.plainAttrs_list PySem.F.slot_list_pop PySem.F.type_list_pop GW ho hbase hline).imp fun σ H Q h=>by
 obtain⟨m,ρ,S,u,S',sr,lr,hc,k⟩:=tM (cr:=aD) Kj σ H Q h;refine⟨m,ρ,S,u,S',sr,lr,hc,fun m1 v1 H1 e1 sr1 i1=>?_⟩;obtain⟨ty,m2,ρ2,S2,us,S3,sr2,lr2,h4,h5⟩:=k m1 v1 H1 e1 sr1 i1;cases h4;exact⟨ty,h5 m2 [] H1 .refl sr2 .nil_⟩
def fU(cr:CA):CE:=fun ρ S=>(cr ρ S).bind fun p=>match p.1 with
 |[.int j]=>if 0<=j/\j<=1000 then some (.ref p.2.length,p.2++[.lst (cq 0 j.toNat)])else none
 |_=>none
theorem ng:∀(n:Nat) (a:Int) (vs:List Value),vs.length=n->(∀(j:Nat) (v:Value),vs[j]?=some v->∃t,v=Value.int (a+(j:Int)) t)->bP ((Qr n).map fun i:Nat=>V.int (a+(i:Nat))) vs
 |0,a,vs,hl,h=>by
  rw[Qi.mp hl];exact .nil
 |n+1,a,[],hl,h=>by simp at hl
 |n+1,a,v::vs,hl,h=>by
  rw[List.range_succ_eq_map,QJ,QM];refine .cons ?_ ?_
  ·obtain⟨t,e⟩:=h 0 v rfl;exact⟨t,by simpa using e⟩
  ·have:=ng n (a+1) vs (by simpa using hl) fun j x hx=>by
    obtain⟨t,e⟩:=h (j+1) x (by simpa using hx);exact⟨t,by rw[e];congr 1;omega⟩
   have e:(Qr n).map (fun i:Nat=>V.int (a+1+(i:Nat)))=(Qr n).map ((fun i:Nat=>V.int (a+(i:Nat))) ∘ Nat.succ):=Qn fun i _=>by
    simp only[Function.comp];congr 1;omega
   rw[<-e];exact this
theorem oR{a:Expr}{ta:TA}{p1 p2 pos1 pos2:Pos}(hc:X.calm=true)(hgl:Gl X "list")(hml:X.mg "list"=none)(hg:Gl X "range")(hm:X.mg "range"=none)(ha:WA X [a] ta)(hs:starEach [a] X.env=[(false,eval a X.env)])
  (hs1:starEach [Expr.Call (.Name "range" p2) [a] [] pos2] X.env=[(false,eval (.Call (.Name "range" p2) [a] [] pos2) X.env)]) :
  WE X (.Call (.Name "list" p1) [.Call (.Name "range" p2) [a] [] pos2] [] pos1) (fun σ H Q=>ta σ H fun vs H1=>∃j:Int,vs=[.int j]/\0<=j/\j<=1000/\∀p,H1 p=none->Q (.ref p) (upd H1 p (.lst ((Qr j.toNat).map fun i:Nat=>V.int (0+(i:Nat)))))):=by
 constructor;intro pins s σ H Q I h;refine wpAny_Call_Name_kw (j9 I hgl hml OG.mr ?_ (by decide) (by decide));refine PyProof.Rows.callWith_type1 ?_ hs1 rfl;rw[hs1];show wpAny _ _ (spliced [(false,eval (.Call (.Name "range" p2) [a] [] pos2) X.env)]) _ _ s;refine Calls.spliced_cons ?_;refine Call_ (j9 I hg hm boot_range (PyProof.Rows.callWith_type1 (thn (ha.h pos2 pins s σ H _ I h) fun us s1 ⟨vs,H1,I1,r1,q1⟩=>?_) hs rfl));obtain⟨j,e,j0,j1,q⟩:=q1;subst e;cases r1 with
 |cons r rr=>
  cases rr;obtain⟨t,rfl⟩:=r;refine call_range_1 ?_;refine Calls.spliced_nil ?_;have hsz:Builtin.Range.rangeSize 0 j 1=((j.toNat:Nat):Int):=by
   unfold Builtin.Range.rangeSize;simp;omega
  refine call_list_range (n:=j.toNat) (I1.ok.hd hc) (QY _ rfl) ?_ hsz (by omega) fun h' tk acc c' hk hg' hi=>?_
  ·unfold Builtin.Range.small;rw[hsz];unfold Builtin.Range.rangeFitsLong;simp;omega
  ·have hv:bP ((Qr j.toNat).map fun i:Nat=>V.int (0+(i:Nat))) acc.toList:=ng j.toNat 0 acc.toList (by simpa using hi.1) fun k v hv=>by
    obtain⟨t,e⟩:=hi.2 k v (by simpa using hv);exact⟨t,by rw[e];congr 1;omega⟩
   refine⟨.ref _,_,I1.laid (t':=tk) (o:=.lst ((Qr j.toNat).map fun i:Nat=>V.int (0+(i:Nat)))) (fun b ob q=>hk b ob (QQ _ q)) (by rw[ZM];omega) ?_,rfl,q _ (I1.hok.fresh (by rw[ZM];omega))⟩;exact⟨by rw[Q6,List.length_range];exact Qd (by omega) (show 1000<=sizeLine by decide),_,_,hv,by simpa using hg'⟩
theorem xm{m:List Addr}{H:Hp}(n:Nat):IsL K m H ((Qr n).map fun i:Nat=>V.int (0+(i:Nat))) (cq 0 n):=by
 unfold cq;generalize Qr n=l;induction l with
 |nil=>exact .nil_
 |cons a r ih=>exact .cons_ .int_ ih
theorem lq{a:Expr}{cr:CA}{p1 p2 pos1 pos2:Pos}(hc:X.calm=true)(hgl:Gl X "list")(hml:X.mg "list"=none)(hg:Gl X "range")(hm:X.mg "range"=none)(ha:QA X [a] cr)(hs:starEach [a] X.env=[(false,eval a X.env)])
  (hs1:starEach [Expr.Call (.Name "range" p2) [a] [] pos2] X.env=[(false,eval (.Call (.Name "range" p2) [a] [] pos2) X.env)]) :
  QE X (.Call (.Name "list" p1) [.Call (.Name "range" p2) [a] [] pos2] [] pos1) (fU cr):=(oR hc hgl hml hg hm ha.h hs hs1).imp fun σ H Q hz=>kf hz fun m ρ S u S' sr lr hc post=>by
 obtain⟨⟨ws,S1⟩,h1,h2⟩:=Q0.mp hc;simp only at h2;split at h2<;>try cases h2
 rename_i j;split at h2<;>try cases h2
 rename_i hj;refine⟨m,ρ,S,_,S1,sr,lr,h1,fun m1 v1 H1 e1 sr1 i1=>?_⟩;obtain⟨x,rfl,ix⟩:=i1.one;rw[ix.of_int];exact⟨j,rfl,hj.1,hj.2,fun p hp=>fb sr1 (xm _) (post.mono e1) hp⟩
end
section
variable{X:Cx}{K:Q1}
theorem Cb{e:Expr}{t:TE}(h:WE X e t):WE X e (fun σ H Q=>t σ H fun v H'=>∃a ob kvs,uU X a/\H' a=some (.frz ob (.dK kvs))/\Q v (upd H' a (.dK kvs))):=
 ⟨fun pins s σ H Q I k=>thn (h.h pins s σ H _ I k) fun u s1 ⟨v,H1,I1,r1,a,ob,kvs,nf,e,q⟩=>⟨v,_,Ab I1 nf e,r1,q⟩⟩
def yi(ce:CE)(f:(Sto->Prop)->Nat->List U->Rho->Sto->Option Sto)(n:Nat)(caps:List Nat):CE:=fun ρ S=>(ce ρ S).bind fun p=>match p.1 with
 |.ref l=>match p.2[l]? with
  |some (.dic kus)=>uni fun ep=>(f (fun S'=>S'[l]?=some (.fdc ep kus)) p.2.length (kus.map fun q=>kU q.1) (kB n caps ρ) (p.2.set l (.fdc ep kus)++[.lst []])).bind fun S'=>match S'[l]? with
   |some (.fdc _ kus')=>some (.ref p.2.length,S'.set l (.dic kus'))
   |_=>none
  |_=>none
 |_=>none
def kJ(ce:CE)(g:CG)(ct:CT)(el:CE)(n:Nat)(caps:List Nat):CE:=yi ce (fun ok l=>b5 ok g ct el l) n caps
theorem vw{ce:CE}{f:(Sto->Prop)->Nat->List U->Rho->Sto->Option Sto}{n:Nat}{caps:List Nat}{G:It->Hp->L2.St->VK->Prop}
  (core:∀{J:It} {us:List U} {ok:Sto->Prop} {Q:VK} {m1:List Addr} {H1:Hp} {S1 S':Sto} {ρ:Rho} {σ:L2.St},Sr X.K m1 S1 H1->Lr X.K m1 H1 ρ σ->yG X.K J m1 H1 us ok->f ok S1.length us (kB n caps ρ) (S1++[.lst []])=some S'->
   (∀l,H1 l=none->∀m2 H2,Ext X.K (m1++[l]) (upd H1 l (.lst [])) m2 H2->Sr X.K m2 S' H2->Q (.ref l) H2)->G J H1 σ Q) :
  ∀σ H Q,tE X.K (yi ce f n caps) σ H Q->Hy X (tE X.K ce) σ H fun J H1=>G J H1 σ fun v H'=>∃a ob kvs,uU X a/\H' a=some (.frz ob (.dK kvs))/\Q v (upd H' a (.dK kvs)):=by
 rintro σ H Q ⟨m,ρ,S,u,S',sr,lr,hc,post⟩;obtain⟨⟨x,S1⟩,h1,h⟩:=Q0.mp hc;refine⟨m,ρ,S,x,S1,sr,lr,h1,fun m1 v1 H1 e1 sr1 i1=>?_⟩;cases x with
 |ref l=>
  simp only at h;split at h<;>try cases h
  rename_i kus hS;obtain⟨a,ha,rfl⟩:=i1.of_ref;obtain⟨a',ha',kvs,hx,ip⟩:=sr1.get hS;rw[ha]at ha';cases ha';refine⟨a,kvs,rfl,hx,fun ob es ep nf hd=>?_⟩;obtain⟨S2,h2,h3⟩:=Q0.mp (rN h ep);try simp only at h3
  split at h3<;>try cases h3
  rename_i ep' kus' hS2;have kp:yN X.K H1 (upd H1 a (.frz ob (.dK kvs))):=sr1.keep ha _;have ee:Ext X.K m1 H1 m1 (upd H1 a (.frz ob (.dK kvs))):=.of kp;have sr2:Sr X.K m1 (S1.set l (.fdc ep kus)) (upd H1 a (.frz ob (.dK kvs))):=sr1.put ha ⟨ob,es,kvs,aG,hd,ip.mono ee⟩;rw[ip.1];have hln:(S1.set l (.fdc ep kus)).length=S1.length:=by simp
  refine core sr2 (lr.mono (e1.trans ee)) (DB ha) (by rw[hln];exact h2) fun p hp m3 H3 e3 sr3=>?_;have en:Ext X.K m1 (upd H1 a (.frz ob (.dK kvs))) (m1++[p]) (upd (upd H1 a (.frz ob (.dK kvs))) p (.lst [])):=.new (bI hp _);have e03:=en.trans e3;obtain⟨a3,ha3,ob3,es3,kvs3,hx3,hd3,ip3⟩:=sr3.get hS2;rw[e03.get ha]at ha3;cases ha3;have e4:Ext X.K m3 H3 m3 (upd H3 a (.dK kvs3)):=.of (sr3.keep (e03.get ha) _);refine⟨a,ob3,kvs3,nf,hx3,post m3 _ _ (((e1.trans ee).trans e03).trans e4) (sr3.put (e03.get ha) ⟨kvs3,aG,ip3.mono e4⟩) ?_⟩;have lg:(m1++[p])[S1.length]?=some p:=dr sr1.len;exact .ref_ (e3.get lg)
 |_=>cases h
variable{Nc capN tn:List Str}{scope:Scope}{cl:List (Str×Addr)}{n:Nat}{caps:List Nat}{tg iter elt c:Expr}{pos:Pos}{ci:CE}{g:CG}{ct:CT}{ce:CE}
theorem wo(hc:X.calm=true)(hi:QE X iter ci)(hg:∀s3 H3 fp,WG (cxC X Nc scope cl s3 H3 fp) tg (tG X.K g))(ht:∀s3 H3 fp,WT (cxC X Nc scope cl s3 H3 fp) c (tT X.K ct))(he:∀s3 H3 fp,WE (cxC X Nc scope cl s3 H3 fp) elt (tE X.K ce))
  (hclos:closureFor scope X.env=pure cl) (hkind:scope.kind=.function) (hnl:∀x∈scope.names,x.2=.local->scope.names.lookup x.1=some .local) (hcell:∀x∈scope.names,x.2≠.cell)
  (hcl:qj X.env cl) (hhas:((relabel scope X.env).names.all fun p=>!(p.2 == .cell||p.2 == .free)||(cl.lookup p.1).isSome)=true)
  (hcap:Paired (Cap X scope cl) caps capN) (hN:Nc=tn++capN) (hn:tn.length=n)
  (hs:∀x,foldedSetIterable iter X.env x=pure x:=by intro _;rfl) :
  QE X (.ListComp elt [⟨tg,iter,[c],0⟩] scope pos) (kJ ci g ct ce n caps):=
 (Cb (mR hc (Ca hi) hg he ht hclos hkind hnl hcell hcl hhas hcap hN hn hs)).imp (vw (G:=fun J H1 σ Q=>∀l,H1 l=none->∃W:Nat->Nat->L2.St->Hp->Prop,(∃m,W 0 m (OG.stC n caps σ) (upd H1 l (.lst [])))/\
  ∀i m σ' H2,W i m σ' H2->(J.stop i H2/\Q (.ref l) H2)\/(J.go i H2/\∃N:L2.St->Hp->Prop,(∀σ'' H',N σ'' H'->∃m',m'<m/\W (i+1) m' σ'' H')/\
  ∀x H3,J.yld i H2 x H3->tG X.K g x σ' H3 fun σ2 H4=>tT X.K ct σ2 H4 fun b H5=>match b with
   |true=>tE X.K ce σ2 H5 fun v H6=>∃ys,H6 l=some (.lst ys)/\ys.length<sizeLine/\N σ2 (upd H6 l (.lst (ys++[v])))
   |false=>N σ2 H5)) fun sr lr ito h2 post l hl=>mj sr lr ito hl h2 (post l hl))
def Ip:List U->Option (List Key)
 |[]=>some []
 |u::r=>(km u).bind fun k=>(Ip r).map (k::·)
theorem vD{m:List Addr}{H:Hp}:∀{us:List U} {xs:List V} {ks:List Key},IsL K m H xs us->Ip us=some ks->xs=ks.map kV
 |[],xs,ks,i,h=>by cases h;exact i.of_nil
 |u::r,xs,ks,i,h=>by
  obtain⟨x,t,rfl,ix,it⟩:=i.of_cons;obtain⟨k,hk,h⟩:=Q0.mp h;obtain⟨ks',h',rfl⟩:=Qc.mp h;rw[iY ix hk,vD it h'];rfl
def yl:CE:=fun _ S=>some (.ref S.length,S++[.dit []])
theorem Cz{pos:Pos}:QE X (.Dict [] [] pos) yl:=vi.imp fun σ H Q hz=>kf hz fun m ρ S u S' sr lr hc post=>by
 cases hc;exact fun p hp=>post (m++[p]) _ _ (.new (bI hp _)) (sr.new hp ⟨[],aG,.nil_⟩) (.ref_ (dr sr.len))
def mq(co:CE)(cr:CA)(cv:CE):CS:=fun ρ S=>(cv ρ S).bind fun p=>(co ρ p.2).bind fun q=>(cr ρ q.2).bind fun r=>match q.1 with
 |.ref l=>match r.2[l]? with
  |some (.dit kus)=>(Ip r.1).bind fun k=>if kus.length<LIM/\r.1.length<=LIM then some (.nx,ρ,r.2.set l (.dit (fj kus k p.1)))else none
  |_=>none
 |_=>none
theorem v8{o:Expr}{es:List Expr}{e:Expr}{co cv:CE}{cr:CA}{k2:Nat}{p2 pos pos':Pos}(hu:X.A.units+1<cLine)(ho:QE X o co)(hi:QA X es cr)(hv:QE X e cv)
  (hs:swapsWith e (some (.Subscript o (.Tuple es k2 p2) pos')) pos.line X.env=pure false:=by rfl):QS X (.Assign [.Subscript o (.Tuple es k2 p2) pos'] e pos) (mq co cr cv):=
 (rF hu ho (vf hi.h) hv hs).imp fun D σ H hz=>qi hz fun m ρ S oo ρ' S' sr lr hc post=>by
 obtain⟨⟨v,S1⟩,h1,ha⟩:=Q0.mp hc;obtain⟨⟨ou,S2⟩,h2,hb⟩:=Q0.mp ha;obtain⟨⟨ius,S3⟩,h3,h⟩:=Q0.mp hb;clear ha hb hc;cases ou with
 |ref l=>
  simp only at h;split at h<;>try cases h
  rename_i kus hS;obtain⟨k,hk,h4⟩:=Q0.mp h;split at h4<;>try cases h4
  rename_i ed;refine⟨m,ρ,S,v,S1,sr,lr,h1,fun m1 v1 H1 e1 sr1 i1=>⟨m1,ρ,S1,_,S2,sr1,lr.mono e1,h2,fun m2 v2 H2 e2 sr2 i2=>⟨m2,ρ,S2,ius,S3,sr2,lr.mono (e1.trans e2),h3,fun m3 vs H3 e3 sr3 i3=>?_⟩⟩⟩;refine⟨lim (by rw[i3.length];exact ed.2),fun p hp=>?_⟩;obtain⟨a,ha,rfl⟩:=(i2.mono e3).of_ref;obtain⟨a',ha',kvs,hx,ip⟩:=sr3.get hS;rw[ha]at ha';cases ha';have hvs:=vD i3 hk;subst hvs;have s3:rl H3 (upd H3 p (.tup (k.map kV))):=cV hp _;have en:Ext X.K m3 H3 m3 (upd H3 p (.tup (k.map kV))):=.of (bI hp _);have srn:=sr3.same s3;have hxn:(upd H3 p (.tup (k.map kV))) a=some (.dT kvs):=s3 _ _ hx;have e13:=((e1.trans e2).trans e3).trans en;have ee:Ext X.K m3 (upd H3 p (.tup (k.map kV))) m3 (upd (upd H3 p (.tup (k.map kV))) a (.dT (oH kvs k v1))):=.of (srn.keep ha _);exact⟨a,_,rfl,Bx.t hxn aG (Eo (by rw[IsP.length ip];exact ed.1)),post m3 σ _ (e13.trans ee) (srn.put ha ⟨_,aG,(IsP.put (ip.mono en) (i1.mono ((e2.trans e3).trans en))).mono ee⟩) (lr.mono (e13.trans ee))⟩
 |_=>cases h
end
section
variable{prog:Program}{w:World}{A:Around}{E:Value->Shared->Prop}{s:Shared}{d it:Addr}{o:Obj}{es:Array DictEntry}{ep i:Nat}
theorem rV{Q:Value->Shared->Prop}(hd:(d == sysModules)=false)(ho:s.heap.get? d=some o)(hc:o.ExactDict)(he:o.data=.dict es ep)
  (q:Q (.ref s.heap.objs.size) { s with heap:=s.heap.push { cls:=.type "dict_keyiterator",data:=.fields #[.ref d,.int 0 0,.int es.size 0,.int ep 0] } }):wpAny (model prog w) A (pyIter (.ref d)) Q E s:=by
 have T:s.TypeIs (.ref d) "dict":=⟨o,ho,hc.1⟩;refine wpAny_pyIter_slot T F.slot_dict_iter (wpAny_call_entry F.slot_dict_iter T F.entry_dict_iter ?_ (F.args_dict_iter_1 _));unfold Builtin.«dict.__iter__»;refine Q2 ?_;unfold Builtin.Dict.dictSlotNone;refine Q2 (wpAny_notOrdered_dict T ?_);refine Q9 (show wpAny _ _ (Builtin.Dict.showsAll d >>= _) _ _ s from ?_);unfold Builtin.Dict.showsAll;rw[if_neg (by rw[hd];exact QV)];refine Q2 (Q9 (Q2 (wpAny_dictEntries ho he (Q2 (wpAny_dictEpoch ho he ?_)))));refine Q2 (wpAny_newObj_type (Q9 ⟨_,rfl,"dict_keyiterator",_,⟨_,QY _ rfl,rfl⟩,F.slot_dict_keyiterator_next.lookup,q⟩))
theorem rW{Q:Option Value->Shared->Prop}(hit:s.heap.IsKeyIter it d i es.size ep)(ho:s.heap.get? d=some o)(he:o.data=.dict es ep)(hi:i<es.size)
  (q:∀h',h'.IsKeyIter it d (i+1) es.size ep->ZH it s.heap h'->Q (some es[i].key) { s with heap:=h' }):wpAny (model prog w) A (pyNext (.ref it)) Q E s:=by
 obtain⟨io,hio,ic,id'⟩:=id hit;unfold pyNext;refine Q2 (wpAny_attempt (wpAny_callSpecial?_slot (name:=Str.ofString "__next__") hit.typeIs F.slot_dict_keyiterator_next (wpAny_call_entry F.slot_dict_keyiterator_next hit.typeIs F.entry_dict_keyiterator_next ?_ (F.args_dict_keyiterator_next_1 _))));refine Q2 (Q9 (Q2 (Q2 ?_)));first|refine Q2 (wpAny_typeNameOfWhole_keyiter hit.typeIs (Q9 (Q2 (wpAny_fieldsOf hio id' ?_))))|refine Q2 (wpAny_typeNameOf_keyiter hit.typeIs (Q9 (Q2 (wpAny_fieldsOf hio id' ?_))))
 simp only[show Builtin.Dict_items.ownsTuple "dict_keyiterator"=false by decide,Qb,if_false];refine(show wpAny _ _ (if (Value.ref d == Value.none)=true then _ else _) _ _ s from ?_);rw[if_neg (show ¬((Value.ref d == Value.none)=true)from QV)];refine Q2 (Q9 (Q2 (wpAny_dictEntries ho he ?_)));rw[if_neg (by simp)];refine Q2 (Q9 (Q2 (wpAny_dictEpoch ho he ?_)));rw[if_neg (by simp)];refine Q9 ?_;simp only[show ¬((i:Int)<0)by omega,if_false,ZF,ZJ hi];refine Q2 ?_;first|refine Q2 (wpAny_typeNameOfWhole_keyiter hit.typeIs (Q9 (Q2 (wpAny_isOneOf_keyiter hit.typeIs ?_))))|refine Q2 (wpAny_typeNameOf_keyiter hit.typeIs (Q9 (Q2 (wpAny_isOneOf_keyiter hit.typeIs ?_))))
 refine(show wpAny _ _ (setField (.ref it) 1 (rawInt ((i:Int)+1)) >>= _) _ _ s from Q2 (wpAny_setField hio id' (by simp) ?_));have hit2:(s.heap.update it (Obj.mapFields (·.setIfInBounds 1 (rawInt ((i:Int)+1))))).IsKeyIter it d (i+1) es.size ep:=⟨_,Heap.get?_update_self _ hio (Obj.isFreed_of_fields (Obj.data_mapFields id' _)),(Obj.cls_mapFields ..).trans ic,by rw[Obj.data_mapFields id'];simp[rawInt]⟩;refine Q2 (wpAny_holding (Q2 (wpAny_isOneOf_keyiter (s:={ s with heap:=s.heap.update it (Obj.mapFields (·.setIfInBounds 1 (rawInt ((i:Int)+1)))) }) hit2.typeIs ?_)));exact(show wpAny _ _ (pure es[i].key) _ _ _ from Q9 (Q9 ⟨_,rfl,Q9 (q _ hit2 (Heap.SameBut.update ..))⟩))
theorem vX{Q:Option Value->Shared->Prop}(hh:A.handled=none)(hit:s.heap.IsKeyIter it d i es.size ep)(ho:s.heap.get? d=some o)(he:o.data=.dict es ep)(hi:es.size<=i)
  (q:∀h',Heap.ExtBut it s.heap h'->Q none { s with heap:=h' }):wpAny (model prog w) A (pyNext (.ref it)) Q E s:=by
 obtain⟨io,hio,ic,id'⟩:=id hit;unfold pyNext;refine Q2 (wpAny_attempt (wpAny_callSpecial?_slot (name:=Str.ofString "__next__") hit.typeIs F.slot_dict_keyiterator_next (wpAny_call_entry F.slot_dict_keyiterator_next hit.typeIs F.entry_dict_keyiterator_next ?_ (F.args_dict_keyiterator_next_1 _))));refine Q2 (Q9 (Q2 (Q2 ?_)));first|refine Q2 (wpAny_typeNameOfWhole_keyiter hit.typeIs (Q9 (Q2 (wpAny_fieldsOf hio id' ?_))))|refine Q2 (wpAny_typeNameOf_keyiter hit.typeIs (Q9 (Q2 (wpAny_fieldsOf hio id' ?_))))
 simp only[show Builtin.Dict_items.ownsTuple "dict_keyiterator"=false by decide,Qb,if_false];refine(show wpAny _ _ (if (Value.ref d == Value.none)=true then _ else _) _ _ s from ?_);rw[if_neg (show ¬((Value.ref d == Value.none)=true)from QV)];refine Q2 (Q9 (Q2 (wpAny_dictEntries ho he ?_)));rw[if_neg (by simp)];refine Q2 (Q9 (Q2 (wpAny_dictEpoch ho he ?_)));rw[if_neg (by simp)];refine Q9 ?_;simp only[show ¬((i:Int)<0)by omega,if_false,ZF,Array.getElem?_eq_none hi];refine Q2 ?_;first|refine Q2 (wpAny_typeNameOfWhole_keyiter hit.typeIs (Q9 ?_));skip|refine Q2 (wpAny_typeNameOf_keyiter hit.typeIs (Q9 ?_));skip
 refine(show wpAny _ _ (setField (.ref it) 0 .none >>= _) _ _ s from Q2 (wpAny_setField hio id' (by simp) ?_));refine(show wpAny _ _ (newExc (.type "StopIteration") [] >>= _) _ _ _ from Q2 ?_);simp only[newExc,newTuple];refine Q2 (wpAny_newObj_type ?_ (by size_fits));refine Q2 (m:=firstArgMember _ _) (wpAny_of_eq (a:=Value.none) (by first|rfl|(simp only[firstArgMember];rfl)) (wpAny_newObj_type ?_ (by size_fits)));simp only[raiseNew];refine Q2 (wpAny_handled ?_);rw[show A.in1.handled=none from hh];refine Q2 (Q9 (wpAny_throw ?_));refine Q2 (wpAny_isInstance (T:="StopIteration") (b:=true) ⟨_,QY _ rfl,rfl⟩ isSubtype_stop ?_);exact Q9 (q _ (((Heap.SameBut.update ..).extBut.push _).push _))
end
def FzT(H:Hp)(a:Addr)(ep:Nat)(ks:List (List Key)):Prop:=∃ob es kvs,H a=some (.frz ob (.dT kvs))/\ob.data=.dict es ep/\kvs.map (·.1)=ks
def Itt(a:Addr)(ep:Nat)(ks:List (List Key)):It:=
 ⟨fun i H=>i<ks.length/\FzT H a ep ks,fun i H x H'=>H'=H/\∃k p,ks[i]?=some k/\x=.ref p/\H p=some (.tup (k.map kV)),fun i H=>ks.length<=i/\FzT H a ep ks⟩
theorem xF{P:Program}{w:World}{H:Hp}{h:Heap}{a:Addr}{ob:Obj}{kvs:List (List Key×V)}{es:Array DictEntry}{ep:Nat}(ok:HOk P w H h)(e:H a=some (.frz ob (.dT kvs)))(d:ob.data=.dict es ep) :
  h.get? a=some ob/\es.size=kvs.length/\∀(i:Nat) (hi:i<es.size),∃k p,(kvs.map (·.1))[i]?=some k/\es[i].key=.ref p/\H p=some (.tup (k.map kV)):=by
 obtain⟨e1,_,_,xs,r,o,es',ep',e2,e3,e4,e5,_⟩:=(show bU P w H h a (.frz ob (.dT kvs))from ok a _ e);rw[e1]at e2;cases e2;rw[d]at e4;cases e4;have hl:kvs.length=xs.length:=Paired.length r;have hs:es.size=xs.length:=size_of_entries e5;refine⟨e1,by omega,fun i hi=>?_⟩;have key:∀{l:List (List Key×V)} {m:List (List Key×Addr×Value)} {i:Nat} {x:List Key×Addr×Value},Paired (fun(p:List Key×V) (q:List Key×Addr×Value)=>p.1=q.1/\H q.2.1=some (.tup (p.1.map kV))/\bV p.2 q.2.2) l m->m[i]?=some x->∃k,(l.map (·.1))[i]?=some k/\H x.2.1=some (.tup (k.map kV)):=by
  intro l m i x q;induction q generalizing i with
  |nil=>intro z;simp at z
  |@cons p q ps qs hq t ih=>
   intro z;cases i with
   |zero=>simp at z;subst z;exact⟨p.1,by simp,hq.2.1⟩
   |succ i=>obtain⟨k,k1,k2⟩:=ih (by simpa using z);exact⟨k,by simpa using k1,k2⟩
 have hx:xs[i]?=some xs[i]:=Q4 (by omega);obtain⟨k,k1,k2⟩:=key r hx;refine⟨k,(xs[i]).2.1,k1,?_,k2⟩;have h1:=entry_at e5 i;rw[hx,ZJ hi]at h1;have h2:=Option.some.inj h1;rw[h2];rfl
theorem t7{P:Program}{w:World}{K:Q1}{tg:Expr}(a it:Addr){ks:List (List Key)}{ep:Nat} :
  Bu P w K tg (Itt a ep ks) [it] it (fun n h=>h.IsKeyIter it a n ks.length ep) where
 mem:=by simp
 obj:=fun n h st c hc=>by
  simp only[QD,Qe,or_false]at hc;subst hc;obtain⟨o,e,_,q⟩:=st;exact⟨o,e,fun v z=>by rw[q]at z;cases z⟩
 keep:=fun n h h' st kp=>Heap.IsKeyIter.at st fun o q=>kp it (by simp) o q
 item:=by
  intro X hP hw hK hc n pins s σ H E Iv hf st hg;subst hP hw hK;obtain⟨hi,ob,es,kvs,hq,d,ek⟩:=hg;obtain⟨g1,g2,g3⟩:=xF Iv.hok hq d;have hl:ks.length=es.size:=by rw[<-ek,Q6,g2]
  have hi':n<es.size:=by omega
  obtain⟨k,p,k1,k2,k3⟩:=g3 n hi';obtain⟨f0,f1,f2,f3⟩:=hf it (by simp);refine rW (by rw[<-hl];exact st) g1 d hi' fun h1 st1 sb=>⟨_,rfl,?_⟩;have I1:Inv X pins σ H { s with heap:=h1 }:=Iv.turned (t':=s.toks) (fun b o hb e=>(sb.2 b hb).trans e) f0 f1 f3.1 f3.2.1 f3.2.2;have st2:h1.IsKeyIter it a (n+1) ks.length ep:=by rw[hl];exact st1
  obtain⟨o,e,c,q⟩:=id st2;exact xD (s:={ s with heap:=h1 }) e c q (by decide) ⟨.ref p,H,I1,by rw[k2];rfl,⟨rfl,k,p,by rw[<-ek];exact k1,rfl,k3⟩,st2,fun b hb=>(hf b hb).1⟩
 done:=by
  intro X hP hw hK hc n pins s σ H E Iv hf st hg;subst hP hw hK;obtain⟨hi,ob,es,kvs,hq,d,ek⟩:=hg;obtain⟨g1,g2,g3⟩:=xF Iv.hok hq d;have hl:ks.length=es.size:=by rw[<-ek,Q6,g2]
  obtain⟨f0,f1,f2,f3⟩:=hf it (by simp);exact vX (Iv.ok.hd hc) (by rw[<-hl];exact st) g1 d (by omega) fun h1 eb=>⟨rfl,Iv.turned (t':=s.toks) (fun b o hb e=>eb b o hb e) f0 f1 f3.1 f3.2.1 f3.2.2⟩
 self:=fun _ _ _ _ _ st h=>wpAny_pyIter_keyiter st h
def Bh(X:Cx)(tl:TE):TI:=fun σ H R=>tl σ H fun x H1=>∃a kvs,x=.ref a/\H1 a=some (.dT kvs)/\∀ob es ep,uU X a->ob.data=.dict es ep->R (Itt a ep (kvs.map (·.1))) (upd H1 a (.frz ob (.dT kvs)))
theorem y4{X:Cx}{tg l:Expr}{tl:TE}(hl:WE X l tl):WI X tg l (Bh X tl):=by
 constructor;intro pins s σ H R I h;refine thn (hl.h pins s σ H _ I h) fun v s1 hz=>?_;obtain⟨x,H1,I1,r1,q1⟩:=hz;obtain⟨a,kvs,rfl,hq,q⟩:=q1;have hq0:=hq;cases r1;obtain⟨hz,hs,xs,rv,ob,es,ep,e1,e2,e3,e4,e5⟩:=(show bU X.prog X.w H1 s1.heap a (.dT kvs)from I1.hok a _ hq);have hl:kvs.length=es.size:=by rw[size_of_entries e4];exact Paired.length rv
 have nf:uU X a:=fun ob' u' z=>by have:=I1.base.frzs a ob' u' z;rw[hq]at this;cases this
 have mono:∀{l:List (List Key×V)} {m:List (List Key×Addr×Value)} (fz:HO),Paired (fun(p:List Key×V) (q:List Key×Addr×Value)=>p.1=q.1/\H1 q.2.1=some (.tup (p.1.map kV))/\bV p.2 q.2.2) l m->Paired (fun(p:List Key×V) (q:List Key×Addr×Value)=>p.1=q.1/\(upd H1 a fz) q.2.1=some (.tup (p.1.map kV))/\bV p.2 q.2.2) l m:=by
  intro l m fz z;induction z with
  |nil=>exact .nil
  |cons hq t ih=>exact .cons ⟨hq.1,by rw[bj (fun e=>by rw[e,hq0]at hq;cases hq.2.1)];exact hq.2.1,hq.2.2⟩ ih
 have rv2:=mono (.frz ob (.dT kvs)) rv;have I2:Inv X pins σ (upd H1 a (.frz ob (.dT kvs))) s1:=kG I1 hq (by simp) (by simp) (by simp) nf ⟨e1,hz,hs,xs,rv2,ob,es,ep,e1,e2,e3,e4,e5⟩;refine rV hs e1 e2 e3 ?_;refine⟨s1.heap.objs.size,[s1.heap.objs.size],_,_,_,rfl,I2.kept (t':=s1.toks) fun b o g=>QQ _ g,t7 a _,⟨_,QY _ rfl,rfl,by rw[Q6,hl];rfl⟩,fun b hb=>?_,q ob es ep nf e3⟩;simp only[QD,Qe,or_false]at hb;subst hb;exact I2.fpOk (QX _) (I2.hok.fresh (QX _))
def Bw(X:Cx)(D:yI):yI where
 nx:=fun σ H=>∃a ob kvs,uU X a/\H a=some (.frz ob (.dT kvs))/\D.nx σ (upd H a (.dT kvs))
 rt:=fun v H=>∃a ob kvs,uU X a/\H a=some (.frz ob (.dT kvs))/\D.rt v (upd H a (.dT kvs))
 bk:=fun σ H=>∃a ob kvs,uU X a/\H a=some (.frz ob (.dT kvs))/\D.bk σ (upd H a (.dT kvs))
 ct:=fun σ H=>∃a ob kvs,uU X a/\H a=some (.frz ob (.dT kvs))/\D.ct σ (upd H a (.dT kvs))
theorem jw{X:Cx}{pins:List (Addr×Obj)}{σ:L2.St}{H:Hp}{s:Shared}{a:Addr}{ob:Obj}{kvs:List (List Key×V)}(I:Inv X pins σ H s)(nf:uU X a)(e:H a=some (.frz ob (.dT kvs))):Inv X pins σ (upd H a (.dT kvs)) s:=by
 obtain⟨_,hz,hs,xs,rv,rest⟩:=(show bU X.prog X.w H s.heap a (.frz ob (.dT kvs))from I.hok a _ e);have mono:∀{l:List (List Key×V)} {m:List (List Key×Addr×Value)} (fz:HO),Paired (fun(p:List Key×V) (q:List Key×Addr×Value)=>p.1=q.1/\H q.2.1=some (.tup (p.1.map kV))/\bV p.2 q.2.2) l m->Paired (fun(p:List Key×V) (q:List Key×Addr×Value)=>p.1=q.1/\(upd H a fz) q.2.1=some (.tup (p.1.map kV))/\bV p.2 q.2.2) l m:=by
  intro l m fz z;induction z with
  |nil=>exact .nil
  |cons hq t ih=>exact .cons ⟨hq.1,by rw[bj (fun q=>by rw[q,e]at hq;cases hq.2.1)];exact hq.2.1,hq.2.2⟩ ih
 exact kG I e (by simp) (by simp) (by simp) nf ⟨hz,hs,xs,mono _ rv,rest⟩
theorem yP{X:Cx}{st:Stmt}{t:TS}(h:WS X st t):WS X st (fun D σ H=>t (Bw X D) σ H):=by
 constructor;intro pins s σ H D I k;refine thn (h.h pins s σ H _ I k) fun f s1 q=>?_;cases f with
 |next=>obtain⟨σ1,H1,I1,a,ob,kvs,nf,e,r⟩:=q;exact⟨σ1,_,jw I1 nf e,r⟩
 |brk=>obtain⟨σ1,H1,I1,a,ob,kvs,nf,e,r⟩:=q;exact⟨σ1,_,jw I1 nf e,r⟩
 |cont=>obtain⟨σ1,H1,I1,a,ob,kvs,nf,e,r⟩:=q;exact⟨σ1,_,jw I1 nf e,r⟩
 |ret u=>obtain⟨v,σ1,H1,I1,rv,a,ob,kvs,nf,e,r⟩:=q;exact⟨v,σ1,_,jw I1 nf e,rv,r⟩
def yk(ce:CE)(g:CG)(cb:CS):CS:=fun ρ S=>(ce ρ S).bind fun p=>match p.1 with
 |.ref l=>match p.2[l]? with
  |some (.dit kus)=>uni fun ep=>(eA (fun S'=>S'[l]?=some (.fdt ep kus)) g cb (kus.map fun q=>.tup (q.1.map kU)) ρ (p.2.set l (.fdt ep kus))).bind fun r=>match r.2.2[l]? with
   |some (.fdt _ kus')=>some (r.1,r.2.1,r.2.2.set l (.dit kus'))
   |_=>none
  |_=>none
 |_=>none
theorem sQ{K:Q1}{m:List Addr}{H:Hp}:∀ks:List Key,IsL K m H (ks.map kV) (ks.map kU)
 |[]=>.nil_
 |k::r=>.cons_ (Bf k) (sQ r)
theorem Aa{K:Q1}{m:List Addr}{H:Hp}{a:Addr}{l ep:Nat}{kus:List (List Key×U)}(ha:m[l]?=some a):yG K (Itt a ep (kus.map (·.1))) m H (kus.map fun q=>.tup (q.1.map kU)) (fun S'=>S'[l]?=some (.fdt ep kus)):=by
 intro m2 S2 H2 i e sr hok;obtain⟨a',ha',ob,es,kvs,hx,hd,ip⟩:=sr.get hok;have ha2:=e.get ha;rw[ha2]at ha';cases ha';have hz:FzT H2 a ep (kus.map (·.1)):=⟨ob,es,kvs,hx,hd,ip.1⟩;refine⟨fun u hu=>?_,fun hu=>⟨by simpa using hu,hz⟩⟩;have hi:i<kus.length:=by have:=(Q5.mp hu).1;simpa using this
 refine⟨⟨by simpa using hi,hz⟩,?_⟩;rintro x H3 ⟨rfl,k,p,hk,rfl,hp⟩;refine⟨.refl,sr,?_⟩;rw[QC]at hk hu;rw[Q4 hi]at hk hu;cases hk;cases hu;exact .tup_ (.inl (.inl hp)) (sQ _)
theorem Ai{X:Cx}{ce:CE}{g:CG}{cb:CS}:∀D σ H,tS X.K (yk ce g cb) D σ H->Ek (Bh X (tE X.K ce)) (tG X.K g) (tS X.K cb) (Bw X D) σ H:=by
 rintro D σ H ⟨m,ρ,S,o,ρ',S',sr,lr,hc,post⟩;obtain⟨⟨x,S1⟩,h1,h⟩:=Q0.mp hc;refine⟨m,ρ,S,x,S1,sr,lr,h1,fun m1 v1 H1 e1 sr1 i1=>?_⟩;cases x with
 |ref l=>
  simp only at h;split at h<;>try cases h
  rename_i kus hS;obtain⟨a,ha,rfl⟩:=i1.of_ref;obtain⟨a',ha',kvs,hx,ip⟩:=sr1.get hS;rw[ha]at ha';cases ha';refine⟨a,kvs,rfl,hx,fun ob es ep nf hd=>?_⟩;obtain⟨⟨o1,ρ1,S2⟩,h2,h3⟩:=Q0.mp (rN h ep);simp only at h3;split at h3<;>try cases h3
  rename_i ep' kus' hS2;have kp:yN X.K H1 (upd H1 a (.frz ob (.dT kvs))):=sr1.keep ha _;have ee:Ext X.K m1 H1 m1 (upd H1 a (.frz ob (.dT kvs))):=.of kp;have sr2:Sr X.K m1 (S1.set l (.fdt ep kus)) (upd H1 a (.frz ob (.dT kvs))):=sr1.put ha ⟨ob,es,kvs,aG,hd,ip.mono ee⟩;rw[ip.1];refine sD sr2 (lr.mono (e1.trans ee)) (Aa ha) h2 ?_;have back:∀m3 H3,Ext X.K m1 (upd H1 a (.frz ob (.dT kvs))) m3 H3->Sr X.K m3 S2 H3->∃ob' kvs',H3 a=some (.frz ob' (.dT kvs'))/\Ext X.K m3 H3 m3 (upd H3 a (.dT kvs'))/\Sr X.K m3 (S2.set l (.dit kus')) (upd H3 a (.dT kvs')):=fun m3 H3 e3 sr3=>by
   obtain⟨a3,ha3,ob3,es3,kvs3,hx3,hd3,ip3⟩:=sr3.get hS2;rw[e3.get ha]at ha3;cases ha3;have e4:Ext X.K m3 H3 m3 (upd H3 a (.dT kvs3)):=.of (sr3.keep (e3.get ha) _);exact⟨ob3,kvs3,hx3,e4,sr3.put (e3.get ha) ⟨kvs3,aG,ip3.mono e4⟩⟩
  have nxt:∀(R:L2.St->Hp->Prop),gw X.K m H R ρ' (S2.set l (.dit kus'))->gw X.K m1 (upd H1 a (.frz ob (.dT kvs))) (fun σ H=>∃a ob kvs,uU X a/\H a=some (.frz ob (.dT kvs))/\R σ (upd H a (.dT kvs))) ρ' S2:=fun R p m3 σ3 H3 e3 sr3 lr3=>by
   obtain⟨ob3,kvs3,hx3,e4,sr4⟩:=back m3 H3 e3 sr3;exact⟨a,ob3,kvs3,nf,hx3,p m3 σ3 _ (((e1.trans ee).trans e3).trans e4) sr4 (lr3.mono e4)⟩
  cases o with
  |nx=>exact nxt _ post
  |bk=>exact nxt _ post
  |ct=>exact nxt _ post
  | rt v=>
    intro m3 v3 H3 e3 sr3 i3;obtain⟨ob3,kvs3,hx3,e4,sr4⟩:=back m3 H3 e3 sr3;exact⟨a,ob3,kvs3,nf,hx3,post m3 v3 _ (((e1.trans ee).trans e3).trans e4) sr4 (i3.mono e4)⟩
 |_=>cases h
theorem Cu{X:Cx}{tg iter:Expr}{body:List Stmt}{ce:CE}{g:CG}{cb:CS}{pos:Pos}(hp:PassesOwn (model X.prog X.w) X.A X.env X.xe)(hc:X.calm=true)(hi:QE X iter ce)(hg:QG X tg g)(hb:QSs X body cb)(hs:∀x,foldedSetIterable iter X.env x=pure x:=by intro _;rfl):QS X (.For tg iter body [] pos) (yk ce g cb):=
 (yP (qp hp hc (y4 hi) hg hb hs)).imp Ai
end OP
namespace OP
open PySem PySem.Spec PyProof PyProof.Rows L2 OG PySem.W
section
variable{X:Cx}{K:Q1}
def AW:V->List V->Hp->VK->Prop:=fun x vs H Q=>∃(l:Addr) (ns:List Int) (z:Int) (j:Nat),x=.ref l/\vs=[.int z]/\H l=some (.lst (ns.map V.int))/\ns[j]?=some z/\(∀m,m<j->ns[m]?≠some z)/\j<1000000/\Q (.int (j:Nat)) H
def xp(z:Int):Value->Bool
 |.int i _=>i == z
 |_=>false
theorem oW{ns:List Int}{its:List Value}(r:bP (ns.map V.int) its){i:Nat}{v:Value}(h:its[i]?=some v):∃n t,ns[i]?=some n/\v=Value.int n t:=by
 have hi:i<its.length:=(Q5.mp h).1;have hl:=r.length;rw[Q6]at hl;have hn:i<ns.length:=by omega
 obtain⟨u,e1,e2⟩:=r.get (i:=i) (x:=.int ns[i]) (by rw[QC,Q4 hn];rfl);rw[h]at e1;cases e1;obtain⟨t,e⟩:=e2;exact⟨_,t,Q4 hn,e⟩
theorem zX:MtM X "list.index" AW:=by
 intro pins s σ H x vs v us Q I rx rv h;obtain⟨l,ns,z,j,rfl,rfl,hH,hj,hm,hb,q⟩:=h;cases rx;obtain⟨u,rfl,ru⟩:=rv.one;obtain⟨tz,rfl⟩:=ru;obtain⟨_,its,n,r,hl,e⟩:=I.lstM hH;have ed:=r.length;rw[Q6]at ed;have hj':j<its.toArray.size:=by have:=(Q5.mp hj).1;simp;omega
 have at_:∀(m:Nat) (hm:m<its.toArray.size),∃k t,ns[m]?=some k/\its.toArray[m]=Value.int k t:=fun m hm=>by
  have hm':m<its.length:=by simpa using hm
  obtain⟨k,t,e1,e2⟩:=oW r (Q4 hm');exact⟨k,t,e1,by simpa using e2⟩
 refine call_meets PySem.F.slot_list_index ⟨_,e,rfl⟩ PySem.F.entry_list_index (PySem.F.args_list_index_2 _ _) (PySem.MeetsSeq.list_index l its.toArray n (Value.int z tz) (xp z) (fun y hy=>?_) j hj' (by omega) ?_ fun m hm1 hm2=>?_) ⟨e,?_⟩
 ·obtain⟨m,hm1,rfl⟩:=Array.mem_iff_getElem.mp hy;obtain⟨k,t,_,e2⟩:=at_ m hm1;rw[e2];exact PySem.MeetsSeq.EqGives.int _ _ _ _
 ·obtain⟨k,t,e1,e2⟩:=at_ j hj';rw[e2];rw[hj]at e1;cases e1;simp[xp]
 ·obtain⟨k,t,e1,e2⟩:=at_ m hm1;rw[e2];simp only[xp,beq_eq_false_iff_ne];intro e3;exact hm m hm2 (by rw[e1,e3])
 ·exact⟨.int (j:Nat),_,I.kept (fun b o g=>g),⟨_,rfl⟩,q⟩
theorem Bg:∀{ns:List Int} {z:Int} {k:Nat} (h:k<ns.length),ns[k]=z->ns.idxOf z<=k
 |[],_,_,h,_=>absurd h (Nat.not_lt_zero _)
 |n::ns,z,0,_,e=>by
  have:n=z:=e;subst this;simp
 |n::ns,z,k+1,h,e=>by
  rw[List.idxOf_cons];have:=Bg (ns:=ns) (z:=z) (k:=k) (by simpa using h) (by simpa using e);cases (n == z)<;>simp<;>omega
def l6:U->List U->Sto->Option (U×Sto)
 |.ref l,[.int z],S=>match S[l]? with
  |some (.lst us)=>(nZ us).bind fun ns=>if z∈ns/\ns.length<=LIM then some (.int (ns.idxOf z:Nat),S)else none
  |_=>none
 |_,_,_=>none
theorem Dc:MtP K AW l6:=by
 intro m S H x v us vs u S' Q sr ix i hf post;match x,us,hf with
 |.ref l,[.int z],hf=>
  simp only[l6]at hf;split at hf<;>try cases hf
  rename_i ws hS;obtain⟨ns,hn,h⟩:=Q0.mp hf;split at h<;>try cases h
  have hk:z∈ns/\ns.length<=LIM:=by assumption
  obtain⟨a,ha,rfl⟩:=ix.of_ref;obtain⟨a',ha',xs,hx,la⟩:=sr.get hS;rw[ha]at ha';cases ha';obtain⟨y,rfl,iy⟩:=i.one;rw[jx hn]at la;rw[la.ints]at hx;have hlt:ns.idxOf z<ns.length:=List.idxOf_lt_length_of_mem hk.1;have hL:ns.length<=100000:=hk.2;refine⟨a,ns,z,ns.idxOf z,rfl,by rw[iy.of_int],hx,?_,fun k hk e=>?_,by omega,post m _ _ .refl sr .int_⟩
  ·rw[Q4 hlt,List.getElem_idxOf]
  ·obtain⟨h1,h2⟩:=Q5.mp e;exact absurd (Bg h1 h2) (Nat.not_le.mpr hk)
variable{e:Expr}{es:List Expr}{co:CE}{cr:CA}{o:Expr}{apos cpos:Pos}
theorem Cy (ho : QE X o co) (ha : QA X (e :: es) cr) (hbase : attributeBase o "index" X.env (eval o X.env) = eval o X.env := by rfl) (hfew : ((backTo cpos (starEach (e :: es) X.env)).all (fun x => !x.1) && (backToKw cpos (keywordEach [] X.env)).all (fun x => x.1.isSome)
   && decide ((e::es).length+([]:List Keyword).length+(if ([]:List Keyword).isEmpty then 0 else 1)<30))=true:=by rfl) (hline:(apos.endLine == cpos.line)=true:=by rfl) (hs:starEach (e::es) X.env=(false,eval e X.env)::starEach es X.env:=by rfl) (hplain:(backTo cpos (starEach es X.env)).any (·.1)=false:=by rfl) :
  QE X (.Call (.Attribute o "index" apos) (e::es) [] cpos) (cBM l6 co cr):=(vn PySem.F.plainAttrs_list PySem.F.slot_list_index PySem.F.type_list_index zX ho ha.h hbase hfew hline hs hplain).imp (tM Dc)
end
theorem Ct{prog:Program}{w:World}{d:Addr}{o:Obj}{es:Array DictEntry}{ep:Nat}(hd:(d == sysModules)=false)(hc:o.ExactDict)(he:o.data=.dict es ep) :
  KdlSrc prog w "dict" d d es.size (fun i v=>∃h:i<es.size,v=es[i].key) (fun h=>h.get? d=some o) where
 type:=fun s g=>⟨o,g,hc.1⟩
 there:=fun h g=>⟨QR g,QR g⟩
 keep:=fun h h' g m=>m d (.inl rfl) o g
 notList:=by decide
 notTuple:=by decide
 hint:=fun A E s Q g q=>kdl_hint_dict ⟨o,g,hc.1⟩ q
 iter:=fun A s hh g=>by
  refine⟨_,fun i h=>h.IsKeyIter s.heap.objs.size d i es.size ep/\h.get? d=some o,fun E Q q=>rV hd g hc he q,?_,⟨⟨_,QY _ rfl,rfl,rfl⟩,QQ _ g⟩⟩;refine⟨fun b hb=>by simp at hb;simp[hb],fun i h h' st m=>?_,fun i s' Q E hi st k=>?_,fun s' Q E st k=>?_,fun i s' Q E st q=>?_⟩
  ·obtain⟨⟨o1,g1,c1,d1⟩,g2⟩:=st;exact⟨⟨o1,m _ (by simp) o1 g1,c1,d1⟩,m _ (by simp) o g2⟩
  ·refine rW st.1 st.2 he hi fun h' it' sb=>k _ h' _ ⟨hi,rfl⟩ ⟨it',?_⟩ fun b o' hb g'=>?_
   ·have:d≠s.heap.objs.size:=QL (QR g);rw[sb.2 d this];exact st.2
   ·rw[sb.2 b (by simpa using hb)];exact g'
  ·exact vX hh st.1 st.2 he (QX _) fun h' eb=>k h' _ fun b o' hb g'=>eb b o' (by simpa using hb) g'
  ·exact wpAny_pyIter_keyiter st.1 q
end OP
namespace OP
open PySem PySem.Spec PyProof.Rows L2 OG
section
variable{P:Program}{w:World}{K:Q1}{h base:Heap}{mg:Str->Option Value}{x q:Str}{st:Stmt}{f C:Addr}{oc:Value}{od an:Option Addr}{osl:Array (Option Value)}{kV doc pm cdv ct:Value}{ps N:List Str}{k:Nat}{c:CS}{cl:Cl}
def LQ(K:Q1)(x q:Str)(st:Stmt)(f:Addr):Prop:=∃fd,Fun K x q st f fd
abbrev fAt(x q:Str)(st:Stmt)(oc:Value)(od an:Option Addr)(osl:Array (Option Value))(kV doc pm cdv ct:Value):Obj:=⟨oc,od,.func (PySem.W.fnOf x q (i6 st) (du st) (aw st) .none kV doc pm an cdv ct),osl⟩
def Im(K:Q1)(x:Str)(st:Stmt):Prop:=∃f,PySem.W.nsIn K mainGlobals x=some (some (.ref f))/\LQ K x x st f
theorem Mw(a:PySem.W.nsIn K mainGlobals x=some (some (.ref f)))(l:K.lookup f=some (fAt x x st oc od an osl kV doc pm cdv ct))(c:PySem.W.codeIn K cdv x=true)(k:PySem.W.keepIn K (.ref f)=true):Im K x st:=⟨f,a,_,Bi l c k⟩
def Il(K:Q1):List (Str×Stmt)->Prop
 |[]=>True
 |(x,st)::r=>Im K x st/\Il K r
def Ih(K:Q1)(C:Addr)(x q:Str)(st:Stmt):Prop:=∃f,PySem.W.findIn K (.ref C) x=some (some (.ref f))/\PySem.W.isFn K (.ref f)=true/\LQ K x q st f
theorem Lx(a:PySem.W.findIn K (.ref C) x=some (some (.ref f)))(i:PySem.W.isFn K (.ref f)=true)(l:K.lookup f=some (fAt x q st oc od an osl kV doc pm cdv ct))(c:PySem.W.codeIn K cdv q=true)(k:PySem.W.keepIn K (.ref f)=true):Ih K C x q st:=⟨f,a,i,_,Bi l c k⟩
def Ig(K:Q1)(C:Addr):List (Str×Str×Stmt)->Prop
 |[]=>True
 |(x,q,st)::r=>Ih K C x q st/\Ig K C r
def Ie(K:Q1)(C:Addr):List Str->Prop
 |[]=>True
 |x::r=>PySem.W.findIn K (.ref C) x=some none/\Ie K C r
def IJ(K:Q1):List Str->Prop
 |[]=>True
 |x::r=>PySem.W.nsIn K mainGlobals x=some none/\IJ K r
structure EC(K:Q1)(x:Str)(C:Addr)(ns:List Str)(ms:List (Str×Str×Stmt)):Prop where
 a:PySem.W.nsIn K mainGlobals x=some (some (.ref C))
 pg:PySem.W.plainGet K C Str.empty=true
 hd:PySem.W.hasDictIn K C=true
 po:PySem.W.plainOver K C=true
 sa:PySem.W.findIn K (.ref C) "__setattr__"=some (some (.builtin "object.__setattr__"))
 mc:PySem.W.makesIn K C=true
 kc:PySem.W.keepIn K (.ref C)=true
 nf:Ie K C ns
 ms:Ig K C ms
theorem Ie.nas:∀{ns:List Str},Ie K C ns->∀f∈ns,PySem.W.findIn K (.ref C) f=some none
 |[],_,f,h=>by cases h
 |x::r,h,f,hf=>by
  rcases QD.mp hf with rfl|z
  ·exact h.1
  ·exact Ie.nas h.2 f z
theorem EC.tc{ns:List Str}{ms:List (Str×Str×Stmt)}(h:EC K x C ns ms):TC K (⟨C,ns⟩:Cl) ns:=⟨⟨h.pg,h.hd,h.po,h.sa⟩,rfl,fun f hf=>h.nf.nas f hf⟩
abbrev Bd(x q:Str)(st:Stmt)(ps:List Str):Prop:=∀us:List Value,us.length=ps.length->∀(kV doc pm:Value) (an:Option Addr) (cdv ct:Value),bindArgs (PySem.W.fnOf x q (i6 st) (du st) (aw st) .none kV doc pm an cdv ct) ⟨us,[]⟩=pure (ps.zip us)
theorem Im.df(d:Im K x st)(X:K.In h)(G:h.Ns mainGlobals mg)(b:Bd x x st ps:=by first|exact Ey fun _ _ _ _ _ _=>rfl|(repeat (first|exact Ey fun _ _ _ _ _ _=>rfl|refine K6 fun _=>?_))):Def K mg x st ps:=by
 obtain⟨f,a,fd,F⟩:=d;exact⟨f,fd,F,F.binds fun kV doc pm an cdv ct us hl=>b us hl kV doc pm an cdv ct,PySem.W.mg_of X G a⟩
def MtD(K:Q1)(C:Addr)(x q:Str)(st:Stmt)(ps:List Str):Prop:=∃fa fd,Fun K x q st fa fd/\gI K fd ps []/\Ik K C x fa
theorem Ih.mt(d:Ih K C x q st)(b:Bd x q st ps:=by first|exact Ey fun _ _ _ _ _ _=>rfl|(repeat (first|exact Ey fun _ _ _ _ _ _=>rfl|refine K6 fun _=>?_))):MtD K C x q st ps:=by
 obtain⟨f,a,i,fd,F⟩:=d;exact⟨f,fd,F,F.binds fun kV doc pm an cdv ct us hl=>b us hl kV doc pm an cdv ct,a,i,F.kp⟩
theorem MtD.pure(d:MtD K cl.C x q st ps)(S:aP N ps (aw st))
  (hb:∀(f:Addr) (cdv:Value) (A:Around) (outer:List Env) (s:Shared) (H:Hp) (E:XK),fX k (A.deeper (envOfC q (aw st) s.heap.objs.size f cdv))->WSs (tj CX0 P w K mg base N q (aw st) f cdv A outer s H E).nox (du st) (tS K c)) :
  oJ P w K mg base cl x (k+1) ps (fnU N.length ps.length c):=by
 obtain⟨fa,fd,F,b,m⟩:=d;exact⟨fa,fd,m,F.pure S (hb fa),b⟩
def MkD(K:Q1)(mg:Str->Option Value)(C:Addr)(x q:Str)(st:Stmt)(ps:List Str):Prop:=∃fa fd,Fun K "__init__" q st fa fd/\gI K fd ps []/\Mk K C fa/\mg x=some (.ref C)
theorem EC.mkd{ns:List Str}{ms:List (Str×Str×Stmt)}(h0:EC K x C ns ms)(d:Ih K C "__init__" q st)(X:K.In h)(G:h.Ns mainGlobals mg)(b:Bd "__init__" q st ps:=by first|exact Ey fun _ _ _ _ _ _=>rfl|(repeat (first|exact Ey fun _ _ _ _ _ _=>rfl|refine K6 fun _=>?_))):MkD K mg C x q st ps:=by
 obtain⟨f,a,i,fd,F⟩:=d;exact⟨f,fd,F,F.binds fun kV doc pm an cdv ct us hl=>b us hl kV doc pm an cdv ct,⟨h0.mc,a,i,h0.kc⟩,PySem.W.mg_of X G h0.a⟩
theorem MkD.pure{NS:List Str}(d:MkD K mg cl.C x q st ps)(T:TC K cl NS)(S:aP N ps (aw st))
  (hb:∀(f:Addr) (cdv:Value) (A:Around) (outer:List Env) (s:Shared) (H:Hp) (E:XK),fX k (A.deeper (envOfC q (aw st) s.heap.objs.size f cdv))->WSs (tj CX0 P w K mg base N q (aw st) f cdv A outer s H E).nox (du st) (tS K c))
  (nd:NS.Nodup:=by decide +kernel) (few:NS.length<1000:=by decide):CMk P w K mg base cl x (k+1) ps (fnU N.length ps.length c):=by
 obtain⟨fa,fd,F,b,m,g⟩:=d;exact⟨⟨fa,fd,m,F.pure S (hb fa),b,g⟩,by rw[T.ns];exact nd,by rw[T.ns];exact few⟩
def LO:List Str:=["len","isinstance","int","bool","str","tuple","list","range","min","sum","all","zip","sorted","dict","enumerate","any","max","set"]
theorem IJ.blt(z:IJ K LO)(X:K.In h)(G:h.Ns mainGlobals mg):Blt mg:=by
 obtain⟨a,b,c,d,e,f,g,i,j,k,l,m,n,o,p,q,r,s,-⟩:=z;constructor<;>(refine PySem.W.mg_none_of X G ?_;assumption)
theorem Ha{sp:Sp}{fa:Addr}(d:Im K "law" st)(X:K.In h)(G:h.Ns mainGlobals mg)(hfa:mg "law"=some (.ref fa))(ok:∀fd,Fun K "law" "law" st fa fd->∀base:Heap,kh P w K mg base CX0 k fa fd ["script"] sp)
  (b:∀(kV doc pm:Value) (an:Option Addr) (cdv ct v:Value),bindArgs (PySem.W.fnOf "law" "law" (i6 st) (du st) (aw st) .none kV doc pm an cdv ct) ⟨[v],[]⟩=pure [(("script":Str),v)]:=by intros;rfl) :
  ∃fd:FuncData,(∀(s:Shared) (v:Value),BindsTo s fd ⟨[v],[]⟩ [("script",v)])/\∀base:Heap,K.In base->base.Ns mainGlobals mg->kh P w K mg base CX0 k fa fd ["script"] sp:=by
 obtain⟨f,a,fd,F⟩:=d;cases hfa.symm.trans (PySem.W.mg_of X G a);refine⟨fd,fun s v=>?_,fun base _ _=>ok fd F base⟩;obtain⟨oc,od,kV,doc,pm,an,cdv,ct,osl,rfl,lk,hcd⟩:=F.ex;exact .of_eq (b kV doc pm an cdv ct v)
theorem My{i:Int}{t:Tok}(X:K.In h)(G:h.Ns mainGlobals mg)(a:PySem.W.nsIn K mainGlobals x=some (some (.int i t))):∃t,mg x=some (.int i t):=⟨_,PySem.W.mg_of X G a⟩
end
end OP
namespace OP
open PySem PySem.Spec PyProof PyProof.Rows L2 OG PySem.W
section
variable{P:Program}{w:World}
def NI(P:Program)(w:World)(h:Heap)(k:List Int)(v:Value):Prop:=∃b,v=.ref b/\IsTupleKey (intKind P w) h k b
def rA(P:Program)(w:World)(h:Heap)(ks:NK)(a:Addr):Prop:=∃o its n,h.get? a=some o/\o.cls=.type "tuple"/\o.data=.seq its n/\Paired (NI P w h) ks its.toList
def dNK(ks:NK):Nat:=(ks.map fun k=>k.length+1).sum
variable{h:Heap}{s:Shared}{A:Around}{E:Value->Shared->Prop}
theorem rA.ty{ks:NK}{a:Addr}(x:rA P w s.heap ks a):s.TypeIs (.ref a) "tuple":=let ⟨o,_,_,g,c,_⟩:=x;⟨o,g,c⟩
theorem A7:∀{ks ls:NK} {vs:List Value},Paired (NI P w h) ks vs->Paired (NI P w h) ls vs->ks=ls
 |_,_,_,.nil,.nil=>rfl
 |_,_,_,.cons a r,.cons b t=>by
  obtain⟨x,rfl,p⟩:=a;obtain⟨y,e,q⟩:=b;cases e;rw[p.inj q,A7 r t]
theorem rA.inj{ks ls:NK}{a:Addr}(x:rA P w h ks a)(y:rA P w h ls a):ks=ls:=by
 obtain⟨o,its,n,g,_,d,r⟩:=x;obtain⟨o',its',n',g',_,d',r'⟩:=y;rw[g]at g';cases g';rw[d]at d';cases d';exact A7 r r'
theorem rA.keeps{h':Heap}{ks:NK}{a d:Addr}{o:Obj}{es ep}(x:rA P w h ks a)(g0:h.get? d=some o)(d0:o.data=.dict es ep)(sb:ZH d h h'):rA P w h' ks a:=by
 obtain⟨ob,its,n,g,c,e,r⟩:=x;have ne:a≠d:=fun z=>by subst z;rw[g]at g0;cases g0;rw[e]at d0;cases d0
 exact⟨ob,its,n,(sb.2 a ne).trans g,c,e,Paired.mapP r fun k v ⟨b,e1,t⟩=>⟨b,e1,t.keeps g0 d0 sb⟩⟩
theorem Dq{ks:NK}{a:Addr}{Q:Int->Shared->Prop}(hu:A.units+1<cLine)(hk:rA P w s.heap ks a)(q:Q (hNK ks) { s with toks:=s.toks+(dNK ks+1) }):wpAny (model P w) A (pyHash (.ref a)) Q E s:=by
 have T:=hk.ty;obtain⟨o,its,n,g,_,d,r⟩:=hk;have eh:hNK ks=reduceHash (Builtin.Tuple.tupleHashOf (ks.map (tupleKeyHash (intKind P w)))):=rfl;rw[eh]at q;clear eh;unfold pyHash;first|unfold pyHashByItsType|skip
 first|refine Q2 (wpAny_cRoomFor_or (Or.inr (Nat.lt_of_succ_lt hu)) ?_)|skip
 refine Q2 (wpAny_specialOf T PySem.F.slot_tuple_hash.lookup ?_);have nb:¬(some (Value.builtin "tuple.__hash__") == some Value.none)=true:=by rw[beq_builtin_none];exact QV
 dsimp only;rw[if_neg nb];refine Q2 (wpAny_specialOf T PySem.F.slot_tuple_hash.lookup ?_);refine Q2 (wpAny_callSpecialIfBoundUnlessNone?_slot T PySem.F.slot_tuple_hash (wpAny_call_entry PySem.F.slot_tuple_hash T PySem.F.entry_tuple_hash ?_ (PySem.F.args_tuple_hash_1 _)));refine Q2 (m:=Builtin.Tuple.tupleItemsOf (.ref a)) (wpAny_tupleItemsOf g d ?_);refine Q2 ?_;rw[<-Array.forIn_toList];refine wpAny_forIn_list _ (fun rest (b:Array Int) s'=>∃fore aft,ks=fore++aft/\Paired (NI P w s.heap) aft rest/\b.toList=fore.map (tupleKeyHash (intKind P w))/\s'={ s with toks:=s.toks+dNK fore }) _ ?_ ?_ _ _ ⟨[],ks,rfl,r,rfl,rfl⟩
 ·rintro x rest b s' ⟨fore,aft,rfl,hl,hb,rfl⟩;cases hl with
  |@cons k _ ks' _ h1 hl'=>
   obtain⟨c,rfl,t⟩:=h1;refine Q2 (wpAny_pyHash_tuple (s:={ s with toks:=s.toks+dNK fore }) hu t ?_);have fin:∃fore' aft',fore++k::ks'=fore'++aft'/\Paired (NI P w s.heap) aft' rest/\(b.push (tupleKeyHash (intKind P w) k)).toList=fore'.map (tupleKeyHash (intKind P w))/\({ s with toks:=s.toks+dNK fore+(k.length+1) }:Shared)={ s with toks:=s.toks+dNK fore' }:=⟨fore++[k],ks',by simp,hl',by simp[hb],by simp[dNK,Nat.add_assoc]⟩;first
    |exact Q9 fin
    |exact Q2 (Q9 (Q9 fin))
 ·rintro b s' ⟨fore,aft,rfl,hl,hb,rfl⟩;cases hl;rw[QB]at q;show wpAny _ _ (retInt (Builtin.Tuple.tupleHashOf b.toList)) _ _ _;rw[hb];refine wpAny_ret_mkInt ?_;unfold reduceHash at q;unfold pyHashByItsType.reduced;dsimp only;split at q
  ·rename_i c;rw[if_pos c];exact Q9 (by simpa [Nat.add_assoc] using q)
  ·rename_i c;rw[if_neg c];exact Q2 (wpAny_rule (Q9 (by simpa [Nat.add_assoc] using q)))
theorem GS{x y:NK}{a b:Addr}{R:PySem.Fin->Shared->Prop}(hu:A.units<cLine)(hx:rA P w s.heap x a)(hy:rA P w s.heap y b)(q:R (.done (.ret (.bool (decide (x=y))))) s) :
  wpAny (model P w) A (Builtin.«tuple.__eq__» ⟨[.ref a,.ref b],[]⟩) R E s:=by
 have T:=hy.ty;obtain⟨oa,xs,na,ga,_,da,ra⟩:=hx;obtain⟨ob,ys,nb,gb,_,db,rb⟩:=hy;refine Q2 (m:=isInstance (.ref b) (.type "tuple")) (wpAny_isInstance T isSubtype_tuple_tuple ?_);simp only[Bool.not_true,Qb,if_false];refine Q2 (wpAny_tupleItemsOf ga da (Q2 (wpAny_tupleItemsOf gb db (Q2 ?_))));refine wpAny_forIn_list _ (fun rest r s'=>r.1=none/\s'=s/\∃x' y' us vs,rest=List.zip us vs/\Paired (NI P w s.heap) x' us/\Paired (NI P w s.heap) y' vs/\decide (x'=y')=decide (x=y)/\(us.length == vs.length)=(xs.size == ys.size)) _ ?_ ?_ _ _ ⟨rfl,rfl,x,y,xs.toList,ys.toList,rfl,ra,rb,rfl,by simp⟩
 ·rintro⟨u,v⟩ rest r s' ⟨hr,rfl,x',y',us,vs,hz,h1,h2,hd,hl⟩;cases h1 with
  |nil=>simp at hz
  |@cons k1 _ x2 us2 p1 t1=>cases h2 with
   |nil=>simp at hz
   |@cons k2 _ y2 vs2 p2 t2=>
    rw[List.zip_cons_cons]at hz;injection hz with e1 e2;injection e1 with e3 e4;subst e2;subst e3;subst e4;obtain⟨c1,rfl,q1⟩:=p1;obtain⟨c2,rfl,q2⟩:=p2;refine Q2 (wpAny_eqBool_tuple hu q1 q2 ?_);by_cases hk:k1=k2
    ·subst hk;rw[decide_eq_true rfl];simp only[Bool.not_true,Qb,if_false];refine Q9 ⟨rfl,rfl,x2,y2,us2,vs2,rfl,t1,t2,?_,by simpa using hl⟩;rw[<-hd];by_cases hxy:x2=y2<;>simp[hxy]
    ·rw[decide_eq_false hk];simp only[Bool.not_false,if_true];have hf:decide (x=y)=false:=by rw[<-hd];simp[hk]
     rw[hf]at q;exact Q2 (Q9 (Q9 (Q9 q)))
 ·rintro⟨r1,r2⟩ s' ⟨hr,rfl,x',y',us,vs,hz,h1,h2,hd,hl⟩;dsimp only at hr;subst hr;refine Q9 ?_;have e:(xs.size == ys.size)=decide (x=y):=by
   rw[<-hd,<-hl];cases h1 with
   |nil=>cases h2 with
    |nil=>simp
    |cons _ _=>simp
   |cons _ _=>cases h2 with
    |nil=>simp
    |cons _ _=>simp at hz
  rw[<-e]at q;exact q
theorem Ks{x y:NK}{a b:Addr}{Q:Bool->Shared->Prop}(hu:A.units+1<cLine)(hx:rA P w s.heap x a)(hy:rA P w s.heap y b)(q:Q (decide (x=y)) s):wpAny (model P w) A (eqBool (.ref a) (.ref b)) Q E s:=by
 unfold eqBool;try with_reducible refine wpAny_holding ?_
 dsimp only;by_cases hab:(Value.ref a == Value.ref b)=true
 ·rw[if_pos hab];have e:a=b:=by have:=eq_of_beq hab;injection this
  subst e;obtain rfl:=hx.inj hy;exact Q2 (wpAny_rule (Q9 (by simpa using q)))
 ·rw[if_neg hab];exact Q2 (wpAny_richCompare_same_room (op:=.Eq) hx.ty hy.ty PySem.F.slot_tuple_eq (wpAny_call_entry PySem.F.slot_tuple_eq hx.ty PySem.F.entry_tuple_eq (GS hu hx hy ⟨_,rfl,(fun e=>nomatch e),wpAny_truthy_bool q⟩) (PySem.F.args_tuple_eq_2 _ _)) (Nat.lt_of_succ_lt hu))
theorem wK{ks:List Int}{a:Addr}{n:Nat}{Q:Bool->Shared->Prop}(hk:IsTupleKey (intKind P w) s.heap ks a)(q:Q true s):wpAny (model P w) A (eqIsQuiet (n+1) (.ref a)) Q E s:=by
 have T:=hk.typeIs;obtain⟨o,its,k,g,_,d,i⟩:=hk;unfold eqIsQuiet;refine Q2 (wpAny_specialOf T PySem.F.slot_tuple_eq.lookup ?_);refine Q2 (m:=isInstance (.ref a) (.type "tuple")) (wpAny_isInstance T isSubtype_tuple_tuple ?_);simp only[Bool.not_true,Qb,if_false];refine Q2 (wpAny_seqItems g d (Q2 ?_));change wpAny _ _ (forIn its _ _) _ _ s;rw[<-Array.forIn_toList];refine wpAny_forIn_list _ (fun rest r s'=>r.1=none/\s'=s/\∀v∈rest,carriedByValue v=true) _ ?_ ?_ _ _ ⟨rfl,rfl,i.byValue⟩
 ·rintro v rest r s' ⟨hr,rfl,all⟩;rw[eqIsQuiet_byValue _ (all v Qx)];refine Q2 (Q9 ?_);simp only[Bool.not_true,Qb,if_false];exact Q9 ⟨rfl,rfl,fun u hu'=>all u (Qq _ hu')⟩
 ·rintro⟨r1,r2⟩ s' ⟨hr,rfl,_⟩;dsimp only at hr;subst hr;exact Q9 q
theorem zU{ks:NK}{a:Addr}{Q:Bool->Shared->Prop}(hk:rA P w s.heap ks a)(q:Q true s):wpAny (model P w) A (eqIsQuiet 8 (.ref a)) Q E s:=by
 have T:=hk.ty;obtain⟨o,its,k,g,_,d,i⟩:=hk;unfold eqIsQuiet;refine Q2 (wpAny_specialOf T PySem.F.slot_tuple_eq.lookup ?_);refine Q2 (m:=isInstance (.ref a) (.type "tuple")) (wpAny_isInstance T isSubtype_tuple_tuple ?_);simp only[Bool.not_true,Qb,if_false];refine Q2 (wpAny_seqItems g d (Q2 ?_));change wpAny _ _ (forIn its _ _) _ _ s;rw[<-Array.forIn_toList];refine wpAny_forIn_list _ (fun rest r s'=>r.1=none/\s'=s/\∃ls,Paired (NI P w s.heap) ls rest) _ ?_ ?_ _ _ ⟨rfl,rfl,ks,i⟩
 ·rintro v rest r s' ⟨hr,rfl,ls,all⟩;cases all with
  |cons p t=>
   obtain⟨c,rfl,p⟩:=p;refine Q2 (wK p ?_);simp only[Bool.not_true,Qb,if_false];exact Q9 ⟨rfl,rfl,_,t⟩
 ·rintro⟨r1,r2⟩ s' ⟨hr,rfl,_⟩;dsimp only at hr;subst hr;exact Q9 q
end
def gf(P:Program)(w:World):HeapKind P w NK where
 is:=rA P w
 hash:=hNK
 draws:=fun ks=>dNK ks+1
 room:=fun A=>A.units+1<cLine
 inj:=fun x y=>x.inj y
 keeps:=fun x g d sb=>x.keeps g d sb
 pyHash:=fun hu hk q=>Dq hu hk q
 eqBool:=fun hu x y q=>Ks hu x y q
 quiet:=fun hk q=>zU hk q
section
variable{P:Program}{w:World}{K:Q1}{H:Hp}
theorem sS:∀{ns:List Int} {us:List Value},bP (ns.map V.int) us->ItemsAre (intKind P w) ns us
 |[],_,r=>by cases r;exact .nil
 |n::ns,_,r=>by
  cases r with
  |cons a t=>obtain⟨k,rfl⟩:=a;exact .cons (intKind_is _ _ _ _) (sS t)
theorem rT:∀{cs:List Addr} {us:List Value},bP (cs.map V.ref) us->us=cs.map Value.ref
 |[],_,r=>by cases r;rfl
 |c::cs,_,r=>by
  cases r with
  |cons a t=>cases a;rw[rT t];rfl
variable{X:Cx}{pins:List (Addr×Obj)}{σ:L2.St}{s:Shared}{a b:Addr}{k:NK}{kvs:List ((NK×Addr)×V)}{v:V}{A:Around}{E:Value->Shared->Prop}
theorem w9(I:Inv X pins σ H s)(h:kM X.K H b k):(gf X.prog X.w).is s.heap k b:=by
 obtain⟨cs,p,q⟩:=h;obtain⟨its,r,⟨o,h1,h2,n,h3⟩,hz⟩:=I.tuple p;have e:=rT r;subst e;refine⟨o,_,n,h1,h2,h3,?_⟩;clear p r h3 hz;induction q with
 |nil=>exact .nil
 |cons z _ ih=>
  refine .cons ?_ ih;obtain⟨its,r,⟨o,h1,h2,n,h3⟩,_⟩:=I.tuple z;exact⟨_,rfl,o,its.toArray,n,h1,h2,h3,by simpa using sS r⟩
theorem KN.val{xs:List (NK×Addr×Value)}(r:KN kvs xs)(k:NK):nC (iB (nP kvs) k) ((atKey xs k).map (·.2)):=by
 induction r with
 |nil=>exact True.intro
 |@cons p q ps qs h t ih=>
  obtain⟨h1,_,h2⟩:=h;by_cases e:p.1.1=k
  ·have e':q.1=k:=h1.symm.trans e;have b:atKey (q::qs) k=some q.2:=by simp[atKey,Qp,e']
   have c:iB (nP (p::ps)) k=some p.2:=by simp[iB,nP,Qp,e]
   rw[c,b];exact h2
  ·have e':¬q.1=k:=fun z=>e (h1.trans z);have b:atKey (q::qs) k=atKey qs k:=by simp[atKey,Qp,e']
   have c:iB (nP (p::ps)) k=iB (nP ps) k:=by simp[iB,nP,Qp,e]
   rw[c,b];exact ih
def wq(kvs:List ((NK×Addr)×V))(k:NK)(b:Addr)(v:V):List ((NK×Addr)×V):=if (iB (nP kvs) k).isSome=true then kvs.map fun p=>if p.1.1=k then(p.1,v)else p else kvs++[((k,b),v)]
theorem GU:nP (wq kvs k b v)=oH (nP kvs) k v:=by
 unfold wq oH;have e:((nP kvs).any fun kv=>decide (kv.1=k))=(iB (nP kvs) k).isSome:=by rw[nL]
 rw[e];split
 ·unfold nP;rw[QM,QM];refine Qn fun p _=>?_;dsimp only[Function.comp];by_cases c:p.1.1=k
  ·rw[if_pos c,if_pos c]
  ·rw[if_neg c,if_neg c]
 ·unfold nP;rw[QK];rfl
theorem zv{p:(NK×Addr)×V}(h:p∈wq kvs k b v):(∃q∈kvs,q.1=p.1)\/p.1=(k,b):=by
 unfold wq at h;split at h
 ·obtain⟨q,hq,e⟩:=QF.mp h;refine .inl ⟨q,hq,?_⟩;split at e
  ·rw[<-e]
  ·rw[e]
 ·rcases Qg.mp h with z|z
  ·exact .inl ⟨p,z,rfl⟩
  ·rw[Qh.mp z];exact .inr rfl
theorem zw:(wq kvs k b v).length<=kvs.length+1:=by
 unfold wq;split
 ·rw[Q6];omega
 ·rw[Q7];exact QX _
theorem KN.put{xs:List (NK×Addr×Value)}{u:Value}(r:KN kvs xs)(ru:bV v u):KN (wq kvs k b v) (storedH xs k b u):=by
 have e:=(r.val k).isSome_eq;rw[Option.isSome_map]at e;unfold wq storedH;rw[e];split
 ·clear e;rename_i hs;clear hs;induction r with
  |nil=>exact .nil
  |@cons p q ps qs h t ih=>
   rw[QJ,QJ];refine .cons ?_ ih;obtain⟨h1,h2,h3⟩:=h;unfold putAt;by_cases c:p.1.1=k
   ·rw[if_pos c,if_pos (h1.symm.trans c)];exact⟨h1,h2,ru⟩
   ·rw[if_neg c,if_neg (fun z=>c (h1.trans z))];exact⟨h1,h2,h3⟩
 ·exact Paired.snoc r ⟨rfl,rfl,ru⟩
theorem xV(I:Inv X pins σ H s)(e:Rd H a (dNo a kvs))(ky:∀p∈kvs,kM X.K H p.1.2 p.1.1):kvs.length<=sizeLine/\(a == sysModules)=false/\∃xs,KN kvs xs/\s.heap.DictOfH (gf X.prog X.w) a xs:=by
 obtain⟨⟨z,y,xs,r,o,es,ep,h1,h2,h3,h4,h5⟩,rest⟩:=(show bU X.prog X.w H s.heap a (dNo a kvs)from e.ok I.hok);refine⟨z,y,xs,r,o,es,ep,h1,h2,h3,h4,fun x hx=>?_,h5⟩;clear h4 h5 e z rest;induction r with
 |nil=>exact nomatch hx
 |@cons p q ps qs hq t ih=>
  rcases QD.mp hx with e|hx
  ·subst e;have:=w9 I (ky p Qx);rw[hq.1,hq.2.1]at this;exact this
  ·exact ih (fun p hp=>ky p (Qq _ hp)) hx
theorem Kx{Q:Value->Shared->Prop}(hu:A.units+2<cLine)(I:Inv X pins σ H s)(e:Rd H a (dNo a kvs))(ky:∀p∈kvs,kM X.K H p.1.2 p.1.1)(kb:kM X.K H b k)(l:iB (nP kvs) k=some v)(q:∀w' s',Inv X pins σ H s'->bV v w'->Q w' s') :
  wpAny (model X.prog X.w) A (getItem (.ref a) (.ref b)) Q E s:=by
 obtain⟨z,hd,xs,rel,dd⟩:=xV I e ky;obtain⟨w',hw,rw'⟩:=nC.some_of (v:=v) (o:=(atKey xs k).map (·.2)) (by rw[<-l];exact rel.val k);obtain⟨p,hp,hp2⟩:=Qc.mp hw;refine wpAny_getItem_heap (knd:=gf X.prog X.w) hu (w9 I kb) dd hp ?_;rw[hp2];exact q w' _ (I.tok _) rw'
theorem Kw{Q:Value->Shared->Prop}(hu:A.units+2<cLine)(I:Inv X pins σ H s)(e:Rd H a (dNo a kvs))(ky:∀p∈kvs,kM X.K H p.1.2 p.1.1)(kb:kM X.K H b k)(q:∀s',Inv X pins σ H s'->Q (.bool (!(iB (nP kvs) k).isSome)) s') :
  wpAny (model X.prog X.w) A (compareOp .NotIn (.ref b) (.ref a)) Q E s:=by
 obtain⟨z,hd,xs,rel,dd⟩:=xV I e ky;refine wpAny_notIn_heap (knd:=gf X.prog X.w) hu (w9 I kb) hd dd ?_;have e1:=(rel.val k).isSome_eq;rw[Option.isSome_map]at e1;rw[<-e1];exact q _ (I.tok _)
theorem xW{h':Heap}{P:Program}{w:World}{xs:List (NK×Addr×Value)}(z:kvs.length<=sizeLine)(hd:(a == sysModules)=false)(rel:KN kvs xs)(dd:h'.DictOfH (gf P w) a xs):bU P w H h' a (dNo a kvs):=by
 obtain⟨o,es,ep,h1,h2,h3,h4,_,h5⟩:=dd;refine⟨⟨z,hd,xs,rel,o,es,ep,h1,h2,h3,h4,h5⟩,⟨o,h1⟩,fun g1 g2 ⟨z,y,xs,r,o,es,ep,h1,h2⟩ k=>⟨z,y,xs,r,o,es,ep,k o h1,h2⟩⟩
theorem Kv{u:Value}{Q:Unit->Shared->Prop}(hu:A.units+2<cLine)(I:Inv X pins σ H s)(e:H a=some (dNo a kvs))(ky:∀p∈kvs,kM X.K H p.1.2 p.1.1)(kb:kM X.K H b k)(hl:kvs.length<sizeLine)(ru:bV v u)
  (q:∀s',Inv X pins σ (upd H a (dNo a (wq kvs k b v))) s'->Q () s'):wpAny (model X.prog X.w) A (setItem (.ref a) (.ref b) u) Q E s:=by
 obtain⟨z,hd,xs,rel,dd⟩:=xV I (.inl e) ky;have hz:xs.length<=sizeLine:=by rw[<-Paired.length rel];exact z
 refine wpAny_setItem_heap (hsz:=hz) (knd:=gf X.prog X.w) hu (w9 I kb) dd fun h' dd' hs=>q _ ?_;obtain⟨o,es,ep,h1,_⟩:=id dd';exact oy I (by rw[e];exact True.intro) hs ⟨o,h1⟩ (xW (by have:=zw (kvs:=kvs) (k:=k) (b:=b) (v:=v);omega) hd (rel.put ru) dd')
end
section
variable{X:Cx}{K:Q1}{m:List Addr}{H:Hp}
def uX:List U->Option NK
 |[]=>some []
 |.tup us::r=>(nZ us).bind fun k=>(uX r).map (k::·)
 |_=>none
theorem wJ:∀{us:List U} {xs:List V} {ks:NK},IsL K m H xs us->uX us=some ks->∃cs:List Addr,xs=cs.map V.ref/\Paired (fun(l:List Int) c=>SqT K H c (l.map V.int)) ks cs
 |[],xs,ks,i,h=>by cases h;exact⟨[],i.of_nil,.nil⟩
 |u::us,xs,ks,i,h=>by
  unfold uX at h;split at h
  ·rename_i e;cases e
  ·rename_i us' r e;injection e with e1 e2;subst e1;subst e2;obtain⟨k,hk,h⟩:=Q0.mp h;obtain⟨ks',hk',rfl⟩:=Qc.mp h;obtain⟨x,r,rfl,ix,ir⟩:=i.of_cons;obtain⟨c,ys,rfl,sq,il⟩:=ix.of_tup;rw[jx hk]at il;rw[IsL.ints il]at sq;obtain⟨cs,rfl,q⟩:=wJ ir hk';exact⟨c::cs,rfl,.cons sq q⟩
  ·cases h
theorem z7{us:List U}{v:V}{ks:NK}(i:Is K m H v (.tup us))(h:uX us=some ks):∃b,v=.ref b/\kM K H b ks:=by
 obtain⟨b,xs,rfl,sq,il⟩:=i.of_tup;obtain⟨cs,rfl,q⟩:=wJ il h;exact⟨b,rfl,cs,sq,q⟩
def Eu(S:Sto)(l:Nat):Option (List (NK×U)):=match S[l]? with
 |some (.dnt kus)=>some kus
 |some (.fdn _ kus)=>some kus
 |_=>none
theorem HS{S:Sto}{l:Nat}{kus:List (NK×U)}{a:Addr}(sr:Sr K m S H)(ha:m[l]?=some a)(h:Eu S l=some kus):∃kvs,Rd H a (dNo a kvs)/\(∀p∈kvs,kM K H p.1.2 p.1.1)/\IsP K m H (nP kvs) kus:=by
 unfold Eu at h;split at h<;>try cases h
 ·rename_i hS;obtain⟨a',ha',kvs,hx,ky,ip⟩:=sr.get hS;rw[ha]at ha';cases ha';exact⟨kvs,.inl hx,ky,ip⟩
 ·rename_i ep hS;obtain⟨a',ha',ob,es,kvs,hx,hd,ky,ip⟩:=sr.get hS;rw[ha]at ha';cases ha';exact⟨kvs,.inr ⟨ob,hx⟩,ky,ip⟩
def J1(K:Q1)(td ty:TE):TE:=fun σ H Q=>td σ H fun x H1=>ty σ H1 fun y H2=>∃a b kvs k v,x=.ref a/\y=.ref b/\Rd H2 a (dNo a kvs)/\(∀p∈kvs,kM K H2 p.1.2 p.1.1)/\kM K H2 b k/\iB (nP kvs) k=some v/\Q v H2
theorem Cc{o i:Expr}{td ty:TE}{pos:Pos}(hu:X.A.units+2<cLine)(ho:WE X o td)(hi:WE X i ty)(hs:EB i):WE X (.Subscript o i pos) (J1 X.K td ty):=by
 constructor;intro pins s σ H Q I h;refine vJ PySem.F.slot_dict_getitem.lookup hs (thn (ho.h pins s σ H _ I h) fun u s1 hz=>?_);obtain⟨x,H1,I1,rx,q1⟩:=hz;refine thn (hi.h pins s1 σ H1 _ I1 q1) fun iv s2 hz=>?_;obtain⟨y,H2,I2,ry,a,b,kvs,k,v,rfl,rfl,e,ky,kb,l,q2⟩:=hz;cases rx;cases ry;obtain⟨_,_,xs,rel,dd⟩:=xV I2 e ky;exact⟨dd.typeIs,Kx hu I2 e ky kb l fun w' s' I' r=>⟨v,H2,I',r,q2⟩⟩
def Bk:U->U->Sto->Option (U×Sto):=fun x y S=>match x with
 |.ref l=>match y with
  |.tup us=>(uX us).bind fun ks=>(Eu S l).bind fun kus=>(aR kus ks).bind fun u=>some (u,S)
  |_=>none
 |_=>none
theorem FZ{a b:Expr}{ca cb:CE}{pos:Pos}(hu:X.A.units+2<cLine)(ha:QE X a ca)(hb:QE X b cb)(hs:EB b):QE X (.Subscript a b pos) (cOp Bk ca cb):=
 (Cc hu ha hb hs).imp fun σ H Q hz=>kf hz fun m ρ S u S' sr lr hc post=>by
 obtain⟨⟨x,S1⟩,h1,h⟩:=Q0.mp hc;obtain⟨⟨y,S2⟩,h3,h4⟩:=Q0.mp h;refine⟨m,ρ,S,_,S1,sr,lr,h1,fun m1 v1 H1 e1 sr1 i1=>⟨m1,ρ,S1,_,S2,sr1,lr.mono e1,h3,fun m2 v2 H2 e2 sr2 i2=>?_⟩⟩;cases x with
 |ref l=>cases y with
  |tup us=>
   simp only[Bk]at h4;obtain⟨ks,hk,h5⟩:=Q0.mp h4;obtain⟨kus,hd,h6⟩:=Q0.mp h5;obtain⟨z,hv,h7⟩:=Q0.mp h6;cases h7;obtain⟨a,ha,rfl⟩:=(i1.mono e2).of_ref;obtain⟨b,rfl,kb⟩:=z7 i2 hk;obtain⟨kvs,rd,ky,ip⟩:=HS sr2 ha hd;have rf:=IsP.val (k:=ks) ip;rw[hv]at rf;cases hw:iB (nP kvs) ks with
   |none=>rw[hw]at rf;exact rf.elim
   |some w=>
    rw[hw]at rf;exact⟨a,b,kvs,ks,w,rfl,rfl,rd,ky,kb,hw,post m2 _ H2 (e1.trans e2) sr2 rf⟩
  |_=>cases h4
 |_=>cases h4
def FF(K:Q1)(ty td:TE):TE:=fun σ H Q=>ty σ H fun y H1=>td σ H1 fun x H2=>∃a b kvs k,x=.ref a/\y=.ref b/\Rd H2 a (dNo a kvs)/\(∀p∈kvs,kM K H2 p.1.2 p.1.1)/\kM K H2 b k/\Q (.bl (!(iB (nP kvs) k).isSome)) H2
theorem Cd{o i:Expr}{td ty:TE}(hu:X.A.units+2<cLine)(hi:WE X i ty)(ho:WE X o td):WC X .NotIn i o (FF X.K ty td):=by
 constructor;intro pins s σ H Q I h;refine thn (hi.h pins s σ H _ I h) fun iv s1 hz=>?_;obtain⟨y,H1,I1,ry,q1⟩:=hz;refine thn (ho.h pins s1 σ H1 _ I1 q1) fun u s2 hz=>?_;obtain⟨x,H2,I2,rx,a,b,kvs,k,rfl,rfl,e,ky,kb,q2⟩:=hz;cases rx;cases ry;exact Kw hu I2 e ky kb fun s3 I3=>⟨.bl _,H2,I3,rfl,q2⟩
def Et:U->U->Sto->Option (U×Sto):=fun y x S=>match x with
 |.ref l=>match y with
  |.tup us=>(uX us).bind fun ks=>(Eu S l).bind fun kus=>some (.bl (!(aR kus ks).isSome),S)
  |_=>none
 |_=>none
theorem zT{ca cb:CE}:∀σ H Q,tE X.K (cOp Et ca cb) σ H Q->FF X.K (tE X.K ca) (tE X.K cb) σ H Q:=by
 rintro σ H Q ⟨m,ρ,S,u,S',sr,lr,hc,post⟩;obtain⟨⟨y,S1⟩,h1,h⟩:=Q0.mp hc;obtain⟨⟨x,S2⟩,h3,h4⟩:=Q0.mp h;refine⟨m,ρ,S,_,S1,sr,lr,h1,fun m1 v1 H1 e1 sr1 i1=>⟨m1,ρ,S1,_,S2,sr1,lr.mono e1,h3,fun m2 v2 H2 e2 sr2 i2=>?_⟩⟩;cases x with
 |ref l=>cases y with
  |tup us=>
   simp only[Et]at h4;obtain⟨ks,hk,h5⟩:=Q0.mp h4;obtain⟨kus,hd,h6⟩:=Q0.mp h5;cases h6;obtain⟨a,ha,rfl⟩:=i2.of_ref;obtain⟨b,rfl,kb⟩:=z7 (i1.mono e2) hk;obtain⟨kvs,rd,ky,ip⟩:=HS sr2 ha hd;have rf:=IsP.val (k:=ks) ip;have es:(iB (nP kvs) ks).isSome=(aR kus ks).isSome:=by
    cases h7:iB (nP kvs) ks<;>cases h8:aR kus ks<;>rw[h7,h8]at rf<;>first|rfl|exact rf.elim
   refine⟨a,b,kvs,ks,rfl,rfl,rd,ky,kb,?_⟩;rw[es];exact post m2 _ H2 (e1.trans e2) sr2 .bl_
  |_=>cases h4
 |_=>cases h4
theorem wg{a b:Expr}{ca cb:CE}{pos:Pos}(hu:X.A.units+2<cLine)(ha:QE X a ca)(hb:QE X b cb)(hm:behindInMarks .NotIn b=false):QT X (.Compare a [.NotIn] [b] pos) (aL (cOp Et ca cb)):=(qo (Cd hu ha hb) hm).imp (jg zT)
def J0(K:Q1)(td ty tv:TE):TS:=fun D σ H=>tv σ H fun v H1=>td σ H1 fun x H2=>ty σ H2 fun y H3=>∃a b kvs k,x=.ref a/\y=.ref b/\H3 a=some (dNo a kvs)/\(∀p∈kvs,kM K H3 p.1.2 p.1.1)/\kM K H3 b k/\kvs.length<sizeLine/\D.nx σ (upd H3 a (dNo a (wq kvs k b v)))
theorem BS{o i e:Expr}{td ty tv:TE}{pos pos':Pos}(hu:X.A.units+2<cLine)(ho:WE X o td)(hi:WE X i ty)(hv:WE X e tv)(hs:swapsWith e (some (.Subscript o i pos')) pos.line X.env=pure false):WS X (.Assign [.Subscript o i pos'] e pos) (J0 X.K td ty tv):=by
 constructor;intro pins s σ H D I h;refine wpAny_Assign_Subscript (thn (hv.h pins s σ H _ I h) fun r s1 hz=>?_) hs;obtain⟨v,H1,I1,rv,q1⟩:=hz;refine thn (ho.h pins s1 σ H1 _ I1 q1) fun u s2 hz=>?_;obtain⟨x,H2,I2,rx,q2⟩:=hz;refine thn (hi.h pins s2 σ H2 _ I2 q2) fun iv s3 hz=>?_;obtain⟨y,H3,I3,ry,a,b,kvs,k,rfl,rfl,e1,ky,kb,hl,q3⟩:=hz;cases rx;cases ry;exact Kv hu I3 e1 ky kb hl rv fun s4 I4=>⟨σ,_,I4,q3⟩
def oA(co ci cv:CE):CS:=fun ρ S=>(cv ρ S).bind fun p=>(co ρ p.2).bind fun q=>(ci ρ q.2).bind fun r=>match q.1 with
 |.ref l=>match r.1 with
  |.tup us=>match r.2[l]? with
   |some (.dnt kus)=>(uX us).bind fun k=>if kus.length<LIM then some (.nx,ρ,r.2.set l (.dnt (fj kus k p.1)))else none
   |_=>none
  |_=>none
 |_=>none
theorem wa{o i e:Expr}{co ci cv:CE}{pos pos':Pos}(hu:X.A.units+2<cLine)(ho:QE X o co)(hi:QE X i ci)(hv:QE X e cv)(hs:swapsWith e (some (.Subscript o i pos')) pos.line X.env=pure false:=by rfl):QS X (.Assign [.Subscript o i pos'] e pos) (oA co ci cv):=
 (BS hu ho hi hv hs).imp fun D σ H hz=>qi hz fun m ρ S oo ρ' S' sr lr hc post=>by
 obtain⟨⟨v,S1⟩,h1,ha⟩:=Q0.mp hc;obtain⟨⟨ou,S2⟩,h2,hb⟩:=Q0.mp ha;obtain⟨⟨iu,S3⟩,h3,h⟩:=Q0.mp hb;clear ha hb hc;cases ou with
 |ref l=>cases iu with
  |tup us=>
   simp only at h;split at h<;>try cases h
   rename_i kus hS;obtain⟨k,hk,h4⟩:=Q0.mp h;split at h4<;>try cases h4
   rename_i ed;refine⟨m,ρ,S,v,S1,sr,lr,h1,fun m1 v1 H1 e1 sr1 i1=>⟨m1,ρ,S1,_,S2,sr1,lr.mono e1,h2,fun m2 v2 H2 e2 sr2 i2=>⟨m2,ρ,S2,_,S3,sr2,lr.mono (e1.trans e2),h3,fun m3 v3 H3 e3 sr3 i3=>?_⟩⟩⟩;obtain⟨a,ha,rfl⟩:=(i2.mono e3).of_ref;obtain⟨a',ha',kvs,hx,ky,ip⟩:=sr3.get hS;rw[ha]at ha';cases ha';obtain⟨b,rfl,kb⟩:=z7 i3 hk;have e13:=(e1.trans e2).trans e3;have ee:Ext X.K m3 H3 m3 (upd H3 a (dNo a (wq kvs k b v1))):=.of (sr3.keep ha _);have hl:kvs.length<sizeLine:=Eo (by have:=IsP.length ip;unfold nP at this;rw[Q6]at this;rw[this];exact ed);refine⟨a,b,kvs,k,rfl,rfl,hx,ky,kb,hl,post m3 σ _ (e13.trans ee) (sr3.put ha ⟨_,aG,fun p hp=>?_,?_⟩) (lr.mono (e13.trans ee))⟩
   ·rcases zv hp with⟨q,hq,e⟩|e
    ·rw[<-e];exact(ky q hq).mono ee.keep
    ·rw[e];exact kb.mono ee.keep
   ·rw[GU];exact(IsP.put ip (i1.mono (e2.trans e3))).mono ee
  |_=>cases h
 |_=>cases h
end
section
variable{X:Cx}{K:Q1}{m:List Addr}{H:Hp}{a:Addr}{kvs:List ((NK×Addr)×V)}
def FH(K:Q1)(tk tv:TE):TE:=fun σ H Q=>∀p,H p=none->vG [(tk,tv)] σ (upd H p (dNo p [])) fun ps H2=>H2 p=some (dNo p [])/\∃b k v,ps=[(.ref b,v)]/\kM K H2 b k/\Q (.ref p) (upd H2 p (dNo p [((k,b),v)]))
theorem Ao{P:Program}{w:World}(h:Heap)(hb:sysModules<h.objs.size):bU P w H (h.push { cls:=.type "dict",data:=.dict #[] }) h.objs.size (dNo h.objs.size []):=by
 refine xW (xs:=[]) (Z5 _) (beq_eq_false_iff_ne.mpr (Ne.symm (QL hb))) .nil ?_;exact⟨_,#[],0,QY _ rfl,⟨rfl,rfl,rfl⟩,rfl,rfl,fun x hx=>(Qe hx).elim,ZC⟩
theorem zb{k v:Expr}{tk tv:TE}{pos:Pos}(hu:X.A.units+2<cLine)(hk:WE X k tk)(hv:WE X v tv):WE X (.Dict [some k] [v] pos) (FH X.K tk tv):=by
 constructor;intro pins s σ H Q I q;have hn:=I.hok.fresh (QX s.heap.objs.size);have I1:=I.laid (a:=s.heap.objs.size) (o:=dNo s.heap.objs.size []) (h':=s.heap.push { cls:=.type "dict",data:=.dict #[] }) (t':=s.toks) (fun _ _ q=>QQ _ q) (QX _) (Ao s.heap I.big);refine wpAny_Dict_any rfl rfl (by simp) (by simp) (thn (zC hk.h hv.h CN pins _ σ _ _ I1 (q _ hn)) fun ws s2 hz=>?_);obtain⟨ps,H2,I2,rel,e,b,k,v,rfl,kb,q2⟩:=hz;cases rel with
 |cons r t=>
  cases t;rename_i w0;obtain⟨w1,w2⟩:=w0;obtain⟨r1,r2⟩:=r;cases (show w1=Value.ref b from r1);obtain⟨z,hd,xs,rel,dd⟩:=xV I2 (.inl e) (fun p hp=>(Qe hp).elim);cases rel;unfold storeAll;rw[List.forIn_cons];refine Q2 (Q2 (wpAny_dictSet_heap (hsz:=Z5 _) (knd:=gf X.prog X.w) (Nat.lt_of_succ_lt hu) (w9 I2 kb) dd fun h' dd' hs=>Q9 ?_));dsimp only;rw[List.forIn_nil];obtain⟨o,es,ep,h1,_⟩:=id dd';refine Q9 ⟨.ref s.heap.objs.size,_,oy I2 (by rw[e];exact True.intro) hs ⟨o,h1⟩ (xW (kvs:=[((k,b),v)]) (show 1<=sizeLine by decide) hd (KN.put (kvs:=[]) (k:=k) (b:=b) .nil r2) dd'),rfl,q2⟩
def tJ(ck cv:CE):CE:=fun ρ S=>(ck ρ (S++[.dnt []])).bind fun p=>(cv ρ p.2).bind fun q=>match p.1 with
 |.tup us=>(uX us).bind fun k=>match q.2[S.length]? with
  |some (.dnt [])=>some (.ref S.length,q.2.set S.length (.dnt [(k,q.1)]))
  |_=>none
 |_=>none
theorem CB{k v:Expr}{ck cv:CE}{pos:Pos}(hu:X.A.units+2<cLine)(hk:QE X k ck)(hv:QE X v cv):QE X (.Dict [some k] [v] pos) (tJ ck cv):=
 (zb hu hk hv).imp fun σ H Q hz=>kf hz fun m ρ S u S' sr lr hc post=>by
 obtain⟨⟨x,S1⟩,h1,h⟩:=Q0.mp hc;obtain⟨⟨y,S2⟩,h2,h3⟩:=Q0.mp h;cases x with
 |tup us=>
  simp only at h3;obtain⟨kk,hk,h4⟩:=Q0.mp h3;split at h4<;>try cases h4
  rename_i hS;intro p hp;have ee:Ext X.K m H (m++[p]) (upd H p (dNo p [])):=.new (bI hp _);refine⟨m++[p],ρ,_,_,S1,sr.new (o:=.dnt []) hp ⟨[],aG,(fun q hq=>(Qe hq).elim),.nil_⟩,lr.mono ee,h1,fun m1 v1 H1 e1 sr1 i1=>⟨m1,ρ,S1,y,S2,sr1,lr.mono (ee.trans e1),h2,fun m2 v2 H2 e2 sr2 i2=>?_⟩⟩;have ha:m2[S.length]?=some p:=(e1.trans e2).get (dr sr.len);obtain⟨a',ha',kv0,hx,ky,ip0⟩:=sr2.get hS;rw[ha]at ha';cases ha';have e0:kv0=[]:=by have:=IsP.length ip0;unfold nP at this;simpa using this
  subst e0;obtain⟨b,rfl,kb⟩:=z7 (i1.mono e2) hk;have eu:Ext X.K m2 H2 m2 (upd H2 p (dNo p [((kk,b),v2)])):=.of (sr2.keep ha _);refine⟨hx,b,kk,v2,rfl,kb,post m2 _ _ (((ee.trans e1).trans e2).trans eu) (sr2.put (o:=.dnt [(kk,y)]) ha ⟨_,aG,fun q hq=>?_,.cons_ (i2.mono eu) .nil_⟩) (.ref_ ha)⟩;rw[Qh.mp hq];exact kb.mono eu.keep
 |_=>cases h3
theorem DO{P:Program}{w:World}{h:Heap}{ob:Obj}{es:Array DictEntry}{ep:Nat}(ok:HOk P w H h)(e:Rd H a (dNo a kvs))(g:h.get? a=some ob)(d:ob.data=.dict es ep) :
  es.size=kvs.length/\∀(i:Nat) (hi:i<es.size),∃q,kvs[i]?=some q/\es[i].key=.ref q.1.2:=by
 obtain⟨⟨_,_,xs,r,o,es',ep',e2,e3,e4,e5,_⟩,_⟩:=(show bU P w H h a (dNo a kvs)from e.ok ok);rw[g]at e2;cases e2;rw[d]at e4;cases e4;have hl:kvs.length=xs.length:=Paired.length r;have hs:es.size=xs.length:=by rw[<-ZK,e5,Q6]
 refine⟨by omega,fun i hi=>?_⟩;have key:∀{l:List ((NK×Addr)×V)} {m:List (NK×Addr×Value)} {i:Nat} {x:NK×Addr×Value},KN l m->m[i]?=some x->∃q,l[i]?=some q/\q.1.2=x.2.1:=by
  intro l m i x q;induction q generalizing i with
  |nil=>intro z;simp at z
  |@cons p q ps qs hq t ih=>
   intro z;cases i with
   |zero=>simp at z;subst z;exact⟨p,rfl,hq.2.1⟩
   |succ i=>exact ih (by simpa using z)
 have hx:xs[i]?=some xs[i]:=Q4 (by omega);obtain⟨q,k1,k2⟩:=key r hx;refine⟨q,k1,?_⟩;have h1:es.toList[i]?=some (⟨hNK xs[i].1,.ref xs[i].2.1,xs[i].2.2⟩:DictEntry):=by rw[e5,QC,hx];rfl
 rw[ZE,ZJ hi]at h1;rw[Option.some.inj h1,k2]
def nU(k:NK):U:=.tup (k.map fun l=>.tup (l.map U.int))
theorem KS{p:Addr}{k:NK}(h:kM K H p k):Is K m H (.ref p) (nU k):=by
 obtain⟨cs,sq,q⟩:=h;refine .tup_ sq ?_;clear sq;induction q with
 |nil=>exact .nil_
 |cons z _ ih=>exact .cons_ (.tup_ z (iE _)) ih
variable{c:Expr}
def AV(K:Q1):List V->Hp->VK->Prop:=fun xs H Q=>∃d kvs,xs=[.ref d]/\H d=some (dNo d kvs)/\∀l,H l=none->Q (.ref l) (upd H l (.lst (kvs.map fun p=>.ref p.1.2)))
theorem Dk(hc:X.calm=true):eZ X (.type "list") (AV X.K):=by
 rintro pins s σ H xs us Q I r ⟨d,kvs,rfl,hD,q⟩;obtain⟨u,rfl,ru⟩:=ki r;cases ru;obtain⟨⟨hz,hs,xs,rv,ob,es,ep,e1,e2,e3,e4,e5⟩,st⟩:=(show bU X.prog X.w H s.heap d (dNo d kvs)from I.hok d _ hD);obtain⟨g2,g3⟩:=DO I.hok (.inl hD) e1 e3;refine kdl_call (Ct hs e2 e3) (I.ok.hd hc) e1 (by rw[g2];exact hz) fun h' tk acc c up gl hac=>?_;have hv:bP (kvs.map fun p=>V.ref p.1.2) acc.toList:=by
  have ea:acc.toList=kvs.map fun p=>Value.ref p.1.2:=by
   refine List.ext_getElem? fun i=>?_;by_cases hi:i<es.size
   ·have hi':i<acc.size:=by rw[hac.1];exact hi
    obtain⟨_,e6⟩:=hac.2 i acc[i] (ZJ hi');obtain⟨q,k1,k2⟩:=g3 i hi;rw[ZE,ZJ hi',e6,k2,QC,k1];rfl
   ·rw[Z7 (by rw[ZK,hac.1];omega),Z7 (by rw[Q6,<-g2];omega)]
  rw[ea];clear hac e4 rv g3 hz g2 hD q st gl ea;induction kvs with
  |nil=>exact .nil
  |cons p r ih=>exact .cons rfl ih
 exact⟨.ref s.heap.objs.size,_,I.laid (o:=.lst (kvs.map fun p=>.ref p.1.2)) (t':=tk) up (QX _) ⟨by rw[Q6];exact hz,_,c,hv,by rw[gl]⟩,rfl,q _ (I.hok.fresh (QX _))⟩
def pM:Fn
 |[.ref l],S=>match S[l]? with
  |some (.dnt kus)=>some (.ref S.length,S++[.lst (kus.map fun p=>nU p.1)])
  |_=>none
 |_,_=>none
theorem xo:∀{kvs:List ((NK×Addr)×V)},(∀p∈kvs,kM K H p.1.2 p.1.1)->IsL K m H (kvs.map fun p=>.ref p.1.2) (((nP kvs).map (·.1)).map nU)
 |[],_=>.nil_
 |p::r,h=>.cons_ (KS (h p Qx)) (xo fun q hq=>h q (Qq _ hq))
theorem C9:mQ K (AV K) pM:=by
 intro m S H us vs u S' Q sr i hf post;match us,hf with
 |[.ref l],hf=>
  obtain⟨v,rfl,iv⟩:=i.one;obtain⟨a,ha,rfl⟩:=iv.of_ref;simp only[pM]at hf;split at hf<;>try cases hf
  rename_i ws hS;obtain⟨a',ha',kvs,hx,ky,ip⟩:=sr.get hS;rw[ha]at ha';cases ha';refine⟨a,kvs,rfl,hx,fun p hp=>?_⟩;have il:=xo (m:=m) ky;rw[ip.1,QM]at il;exact fb sr il post hp
end
theorem pB{A:Around}{k:Nat}(hr:fX k A):A.units+2<cLine:=ZR (Nat.add_le_add_left (by decide:2<=64) _) hr.units
section
variable{prog:Program}{w:World}{A:Around}{E:Value->Shared->Prop}{s:Shared}
theorem qY{l:Addr}{vs:List Value}{Q:List Value->Shared->Prop}(ht:IsTup s.heap l vs.toArray)(hz:vs.length<=sizeLine)
  (q:Q vs { s with heap:=(s.heap.push (seqObj "list" #[] 0)).update s.heap.objs.size (Obj.mapSeq fun x=>x++vs.toArray) }):wpAny (model prog w) A (collect (.ref l)) Q E s:=by
 obtain⟨o,g,c,n,d⟩:=id ht;have g':(s.heap.push (seqObj "list" #[] 0)).get? l=some o:=QQ _ g;have g0:(s.heap.push (seqObj "list" #[] 0)).get? s.heap.objs.size=some (seqObj "list" #[] 0):=QY _ rfl;unfold collect;refine Q2 (wpAny_runValue (codeAny_builtin entry_proto_collect' ?_));refine Q2 (m:=newList []) (wpAny_newList (Q9 ⟨Code.quiet_builtin _ (by decide +kernel),codeAny_builtin entry_list_iadd' ?_⟩));refine(show wpAny _ _ (Builtin.List.listExtendWith (.ref s.heap.objs.size) (.ref l) (.ref s.heap.objs.size)) _ _ { s with heap:=s.heap.push (seqObj "list" #[] 0) } from ?_);unfold Builtin.List.listExtendWith;refine Q2 (wpAny_typeOf (T:="tuple") ⟨o,g',c⟩ ?_);have tt:(Value.type "tuple" == Value.type "tuple")=true:=by rfl
 rw[if_pos (by rw[tt,Bool.or_true])];refine Q2 (listItems_at g' d (Q2 (listItems_at g0 rfl ?_)));rw[if_neg (by simp)];refine Q2 (listUpdate_at g0 rfl ?_ (Z5 _) (by simp only[Array.size_append,QH,List.length_nil];omega));refine Q9 ?_;refine Q2 (m:=load s.heap.objs.size) (wpAny_load (get?_update_seq g0 fun x=>x++vs.toArray) ?_);dsimp only;have e:((#[]:Array Value)++vs.toArray).toList=vs:=by simp
 show wpAny _ _ (pure ((#[]:Array Value)++vs.toArray).toList) Q E _;rw[e];exact Q9 q
theorem t8{l:Addr}{vs:List Value}{ns:List Int}{Q:Value->Shared->Prop}(ht:IsTup s.heap l vs.toArray)(hI:IntsAre vs ns)(h64:vs.length<64)
  (q:∀(out:Array Value) (ms:List Int),IntsAre out.toList ms->ms.Perm ns->ms.Pairwise (·<=·)->Q (.ref (s.heap.objs.size+1)) { s with heap:=sortedAll s.heap vs out }) :
  wpAny (model prog w) A (call (.builtin "sorted") [.ref l]) Q E s:=by
 have hz:vs.length<=sizeLine:=by unfold sizeLine;omega
 refine Calls.call_function_entry kind_sorted plain_sorted entry_sorted (args_sorted1 _) ?_;unfold Builtin.«sorted»;refine Q2 (m:=checkCount "sorted" 1 1 _) (Q9 (Q2 (qY ht hz (Q2 (wpAny_newList ?_ hz)))));have sz:((s.heap.push (seqObj "list" #[] 0)).update s.heap.objs.size (Obj.mapSeq fun x=>x++vs.toArray)).objs.size=s.heap.objs.size+1:=by rw[Heap.size_update,size_push']
 have gL:(((s.heap.push (seqObj "list" #[] 0)).update s.heap.objs.size (Obj.mapSeq fun x=>x++vs.toArray)).push (seqObj "list" vs.toArray 0)).get? (s.heap.objs.size+1)=some (seqObj "list" vs.toArray 0):=by
  rw[<-sz];exact QY _ rfl
 refine(show wpAny _ _ _ _ _ { s with heap:=((s.heap.push (seqObj "list" #[] 0)).update s.heap.objs.size (Obj.mapSeq fun x=>x++vs.toArray)).push (seqObj "list" vs.toArray 0) } from ?_);rw[sz];refine Q2 (wpAny_holding (wpAny_call_entry slot_list_sort ⟨_,gL,rfl⟩ entry_list_sort (list_sort_tree gL hI h64 fun out ms a1 a2 a3=>⟨_,rfl,?_⟩) (args_list_sort _)));exact Q9 ⟨_,rfl,q out ms a1 a2 a3⟩
end
def rX(K:Q1):List V->Hp->VK->Prop:=fun xs H Q=>∃(p:Addr) (ns:List Int),xs=[.ref p]/\SqT K H p (ns.map V.int)/\ns.length<64/\∀(l:Addr) (ms:List Int),H l=none->ms.Perm ns->ms.Pairwise (·<=·)->Q (.ref l) (upd H l (.lst (ms.map V.int)))
theorem wI{X:Cx}:eZ X (.builtin "sorted") (rX X.K):=by
 rintro pins s σ H xs us Q I r ⟨p,ns,rfl,sq,h64,q⟩;obtain⟨u,rfl,ru⟩:=ki r;cases ru;obtain⟨its,rv,tp,hz⟩:=I.tuple sq;have ed:=rv.length;rw[Q6]at ed;refine t8 tp (fF rv) (by omega) fun out ms a1 a2 a3=>?_;obtain⟨e,ge⟩:=sortedAll_at s.heap its out;have hf:=I.hok.fresh (Nat.le_succ s.heap.objs.size);exact⟨.ref (s.heap.objs.size+1),_,I.laid (t':=s.toks) (fun b o e=>sortedAll_old e) (Nat.le_succ _) (qH ge a1 (by rw[a2.length_eq];exact h64)),rfl,q _ ms hf a2 a3⟩
def jA:Fn
 |[.tup us],S=>(nZ us).bind fun ns=>if ns.length<64 then some (.ref S.length,S++[.lst ((aW ns).map U.int)])else none
 |_,_=>none
theorem wB{K:Q1}:mQ K (rX K) jA:=by
 intro m S H us vs u S' Q sr i hf post;match us,hf with
 |[.tup ws],hf=>
  obtain⟨v,rfl,iv⟩:=i.one;simp only[jA]at hf;obtain⟨ns,hn,h⟩:=Q0.mp hf;split at h<;>try cases h
  have hc:ns.length<64:=by assumption
  obtain⟨a,xs,rfl,sq,il⟩:=iv.of_tup;rw[jx hn]at il;rw[il.ints]at sq;refine⟨a,ns,rfl,sq,hc,fun p ms hp pm sm=>?_⟩;rw[iC pm sm];exact fb sr (iE _) post hp
open PySem.AutoSeq1 (wpAny_loadPart')
section
variable{prog:Program}{w:World}{A:Around}{E:Value->Shared->Prop}{s:Shared}
theorem zS{T mk:String}{self:Value}{more:List Value}{kw:List (Str×Value)}(hlook:typeLookup (.type T) "__init__"=pure (some (.builtin "object.__init__")))
  (hmk:Bind.madeBy (.type T)=pure (some mk)) (hno:(some mk !=some "object.__new__")=true) :
  Meets (Builtin.«object.__init__» ⟨self::more,kw⟩) (fun _ R s=>s.TypeIs self T/\R (.ok (.ret .none)) s):=by
 refine Meets.of_wp fun prog w A R s hh=>?_;obtain⟨hself,hend⟩:=hh;cases more with
 |nil=>
  cases kw with
  |nil=>exact Q9 ⟨_,rfl,hend⟩
  |cons b kw=>
   repeat (any_goals (first|assumption|wp_step))
   exact⟨_,rfl,hend⟩
 |cons a more=>
  repeat (any_goals (first|assumption|wp_step))
  exact⟨_,rfl,hend⟩
theorem D4{T mk:String}{Bn:Builtin}{args:List Value}{kw:List (Str×Value)}{S:PySem.Spec}{Q:Value->Shared->Prop}(ft:TypeCalled T mk "object.__init__")(hno:(some mk !=some "object.__new__")=true)
  (c1:checkTypeCall T ⟨args,kw⟩=pure ()) (c2:checkBuiltinCall mk ⟨.type T::args,kw⟩=pure ()) (c3:∀ob,argsOk "object.__init__" ⟨ob::args,kw⟩)
  (eN:entryFor table mk=some Bn) (gN:Meets (Bn ⟨.type T::args,kw⟩) S) (hS:S A.in1 (wants (fun ob s1=>s1.TypeIs ob T/\Q ob s1) E) s) :
  wpAny (model prog w) A (call (.type T) args kw) Q E s:=by
 obtain⟨c,tl,hm⟩:=ft.mro;have hmk:=ft.made;have hsb:=ft.sub;refine wpAny_call (codeAny_of_tree ?_);show wpAny _ _ (callAny (.type T) _) _ _ _;refine Q9 ⟨Code.quiet_builtin _ (by decide +kernel),codeAny_builtin F.entry_type_call ?_⟩;rw[Around.under_plain (weight_type_call_type T args kw) (units_type_call_type T args kw)];have n1:=ft.notType;have n2:=ft.canCreate;repeat (any_goals (first|assumption|wp_step))
 refine codeAny_mono (codeAny_call_builtin ft.plain eN (wpAny_of_eq c2 (gN prog w A.in1 _ s hS))) fun r s1 hr=>?_;match r,hr with
 |.error e,hr=>exact hr
 |.ok (.ret ob),hr=>
  have hT:s1.TypeIs ob T:=hr.1;have li:=ft.init.lookup;have bi:=ft.init.bind ob;repeat (any_goals (first|assumption|wp_step))
  refine codeAny_mono (codeAny_call_builtin ft.init.plain F.entry_object_init (ft.init.check _ _ _ _ _ _ _ _ hr.1 (c3 ob) ((zS ft.init.lookup ft.made hno) prog w A.in1 (wants (fun r s2=>r=.none/\Q ob s2) E) s1 ⟨hr.1,rfl,hr.2⟩))) fun r2 s2 hr2=>?_;match r2,hr2 with
  |.error e,hr2=>exact hr2
  |.ok (.ret v),hr2=>
   obtain⟨rfl,q⟩:=hr2;repeat (any_goals (first|assumption|wp_step))
theorem xP(l:Addr)(ys:Array Value)(n:Nat)(dct:Option Addr)(sl:Array (Option Value))(t:Tok) :
  Meets (Builtin.«enumerate.__new__» ⟨[.type "enumerate",.ref l],[("start",.int 1 t)]⟩) (fun _ R s=>s.heap.get? l=some { cls:=.type "list",dict:=dct,data:=.seq ys n,slots:=sl }/\
   R (.ok (.ret (.ref (s.heap.push (itO true l)).objs.size))) { s with heap:=(s.heap.push (itO true l)).push { cls:=.type "enumerate",data:=.fields #[.none,.bool false,.ref s.heap.objs.size,rawInt 1,.none,.none] } }):=
 .of_wp fun prog w A R s q=>by
  obtain⟨hp,g,d,tk,os⟩:=s;obtain⟨gl,q⟩:=q;have sb:=sub_enumerate;have tl:Heap.IsList (Shared.heap ⟨hp,g,d,tk,os⟩) l ys:=⟨_,gl,rfl,n,rfl⟩
  wp_walk using wpAny_loadPart' gl
  refine wpAny_stack_any (fun st=>Q9 ?_);split
  ·rename_i c _ _ _ _ _;cases (c == Value.type "enumerate")<;>(wp_walk using wpAny_loadPart' gl,wpAny_pyIter_list tl;exact⟨_,rfl,q⟩)
  ·wp_walk using wpAny_loadPart' gl,wpAny_pyIter_list tl
   exact⟨_,rfl,q⟩
theorem uC{a:Addr}{ys:Array Value}{t:Tok}{Q:Value->Shared->Prop}(ha:s.heap.IsList a ys)
  (k:∀h',IsEnum h' (s.heap.objs.size+1) s.heap.objs.size 1 .none->h'.IsListIter s.heap.objs.size a 0->(∀c o,s.heap.get? c=some o->h'.get? c=some o)->Q (.ref (s.heap.objs.size+1)) { s with heap:=h' }) :
  wpAny (model prog w) A (call (.type "enumerate") [.ref a] [("start",.int 1 t)]) Q E s:=by
 obtain⟨⟨c,dct,dt,sl⟩,gl,hc,n,hd⟩:=ha;simp only at hc hd;subst hc hd;refine D4 PySem.F.called_enumerate (by decide) (by kernel_rfl) (by kernel_rfl) (fun ob=>?_) PySem.F.entry_enumerate_new (xP a ys n dct sl t) ⟨gl,?_⟩
 ·unfold argsOk;rw[signature?_of (id:="object.__init__") (n:=['_','_','t','i','n','i','_','_']) (o:=['t','c','e','j','b','o']) (by kernel_rfl) PySem.F.owner_object];kernel_rfl
 have n1:(s.heap.push (itO true a)).objs.size=s.heap.objs.size+1:=ZM ..;have p2:=QY (s.heap.push (itO true a)) (o:={ cls:=.type "enumerate",data:=.fields #[.none,.bool false,.ref s.heap.objs.size,rawInt 1,.none,.none] }) rfl;have p1:((s.heap.push (itO true a)).push { cls:=.type "enumerate",data:=.fields #[.none,.bool false,.ref s.heap.objs.size,rawInt 1,.none,.none] }).get? s.heap.objs.size=some (itO true a):=QQ _ (QY _ rfl);rw[n1]at p2;show _/\_;rw[n1];exact⟨⟨_,p2,rfl⟩,k _ p2 (Be p1) fun c o z=>QQ _ (QQ _ z)⟩
end
theorem DX{prog:Program}{w:World}{A:Around}{it:Addr}{fp:List Addr}{n:Nat}{P:Nat->Value->Prop}{St:Nat->Heap->Prop}(D:Draws prog w A it fp n P St):Draws prog w A it fp (n+1) (fun i v=>∃j,i=j+1/\P j v) (fun i h=>∃j,i=j+1/\St j h) where
 live:=fun _ h ⟨j,_,st⟩=>D.live j h st
 frame:=fun _ h h' ⟨j,e,st⟩ k=>⟨j,e,D.frame j h h' st k⟩
 item:=fun i s Q E hi ⟨j,e,st⟩ q=>D.item j s Q E (by omega) st fun x h' tk p st' sb=>q x h' tk ⟨j,e,p⟩ ⟨j+1,by omega,st'⟩ sb
 done:=fun s Q E ⟨j,e,st⟩ q=>by
  have:j=n:=by omega
  subst this;exact D.done s Q E st q
structure MB(h:Heap)(e it a:Addr)(n:Nat):Prop where
 he:∃old,IsEnum h e it ((n+1:Nat):Int) old
 hi:SI true h it a n
def ItK(K:Q1)(a:Addr):It:=
  ⟨fun i H=>∃xs x,Sq K true H a xs/\xs[i]?=some x,
   fun i H v H'=>∃p x,v=.ref p/\H p=none/\H'=upd H p (.tup [.int ((i+1:Nat):Int),x])/\∀xs,Sq K true H a xs->xs[i]?=some x,
   fun i H=>∃xs,Sq K true H a xs/\xs.length<=i⟩
theorem t6{P:Program}{w:World}{K:Q1}{es:List Expr}{k:Nat}{pos:Pos}{e it a:Addr}(ne:e≠it)(nae:a≠e)(nai:a≠it) :
  Bu P w K (.Tuple es k pos) (ItK K a) [e,it] e (fun n h=>MB h e it a n) where
 mem:=by simp
 obj:=fun n h st c hc=>by
  obtain⟨⟨old,he⟩,hi⟩:=st;simp only[QD,Qe,or_false]at hc;rcases hc with rfl|rfl
  ·exact⟨_,he,fun v q=>by cases q⟩
  ·exact hi.obj
 keep:=fun n h h' st kp=>let ⟨old,he⟩:=st.he;⟨⟨old,kp e (by simp) _ he⟩,st.hi.at_ fun o q=>kp it (by simp) o q⟩
 item:=by
  intro X hP hw hK hc n pins s σ H E Iv hf st hg;subst hP hw hK;obtain⟨xs,x,qa,hx⟩:=hg;obtain⟨ia,ra,sa⟩:=Iv.sq qa;obtain⟨u,hu,ru⟩:=ra.get hx;obtain⟨⟨old,he⟩,hi⟩:=st;have hlt:n+1<ia.toArray.size+1:=by have:=(Q5.mp hu).1;simp;omega
  refine wpAny_pyNext_enum_itemD (DX (xU (b:=true) (show X.A.in1.handled=none from Iv.ok.hd hc) it a nai ia.toArray)) he ⟨n,rfl,hi,sa⟩ hlt ne (by simp[ne,Ne.symm nae]) fun y h1 tk py out1 st1 T1 sz1 up1=>⟨_,rfl,wpAny_letOwnedTupleGo_enum out1 fun h2 e2 s2=>?_⟩;have ey:y=u:=by
   obtain⟨j,ej,p'⟩:=py;have:j=n:=by omega
   subst this;have p':ia.toArray[j]?=some y:=p';rw[List.getElem?_toArray,hu]at p';cases p';rfl
  subst ey;obtain⟨j,ej,st1⟩:=st1;have ej':j=n+1:=by omega
  subst ej';have hfr:H s.heap.objs.size=none:=Iv.hok.fresh (QX _);have elt:e<s.heap.objs.size:=QR he;have ilt:it<s.heap.objs.size:=by obtain⟨o,q,_⟩:=hi.obj;exact QR q
  have sz:∀c∈[e,it],c<s.heap.objs.size:=fun c hc=>by
   simp only[QD,Qe,or_false]at hc;rcases hc with rfl|rfl
   ·exact elt
   ·exact ilt
  have T2:h2.get? s.heap.objs.size=some { cls:=.type "tuple",data:=.seq #[.int ((n+1:Nat):Int) tk,y] }:=s2.extBut _ _ (Nat.ne_of_gt elt) T1;have I1:Inv X pins σ (upd H s.heap.objs.size (.tup [.int ((n+1:Nat):Int),x])) { s with heap:=s.heap.push { cls:=.type "tuple",data:=.seq #[.int ((n+1:Nat):Int) tk,y] },toks:=s.toks }:=
   Iv.laid (fun b o e=>QQ _ e) (QX _) (sf (QY _ rfl) ⟨tk,rfl⟩ ru)
  have fr2:∀c∈[e,it],(upd H s.heap.objs.size (.tup [.int ((n+1:Nat):Int),x])) c=none:=fun c hc=>by rw[bj (QL (sz c hc))];exact(hf c hc).1
  have I2:Inv X pins σ (upd H s.heap.objs.size (.tup [.int ((n+1:Nat):Int),x])) { s with heap:=h2,toks:=tk+1 }:=
   Inv.turnedL (s:={ s with heap:=s.heap.push { cls:=.type "tuple",data:=.seq #[.int ((n+1:Nat):Int) tk,y] },toks:=s.toks }) (h':=h2) (t':=tk+1) (ch:=[e,it]) I1 (fun c o hn q=>by
    by_cases ce:c=s.heap.objs.size
    ·subst ce;have q':(s.heap.push { cls:=.type "tuple",data:=.seq #[.int ((n+1:Nat):Int) tk,y] }).get? s.heap.objs.size=some o:=q;rw[QY _ rfl]at q';cases q';exact T2
    ·have q':s.heap.get? c=some o:=sd q ce;simp only[QD,Qe,or_false,not_or]at hn;exact s2.extBut _ _ hn.1 (up1 c o hn.1 hn.2 q')) fun c hc=>⟨fr2 c hc,(hf c hc).2⟩
  refine⟨.ref s.heap.objs.size,_,I2,rfl,⟨_,x,rfl,hfr,rfl,fun xs' q=>by rw[Iv.sq_inj q qa];exact hx⟩,⟨⟨_,by simpa using e2⟩,st1.1.at_ fun o q=>s2.extBut _ _ (Ne.symm ne) q⟩,fr2⟩
 done:=by
  intro X hP hw hK hc n pins s σ H E Iv hf st hg;subst hP hw hK;obtain⟨xs,qa,hx⟩:=hg;obtain⟨ia,ra,sa⟩:=Iv.sq qa;have la:=ra.length;obtain⟨⟨old,he⟩,hi⟩:=st;refine sY (show X.A.in1.handled=none from Iv.ok.hd hc) he hi sa (by simp;omega) fun h1 up1=>⟨rfl,?_⟩;exact Iv.turnedL (t':=s.toks) (ch:=[e,it]) (fun c o hn q=>by
   simp only[QD,Qe,or_false,not_or]at hn;exact up1 c o hn.2 q) hf
 self:=fun _ _ _ _ _ st h=>let ⟨old,he⟩:=st.he;wpAny_pyIter_enum he h
def qK(K:Q1)(ta:TA):TI:=fun σ H R=>ta σ H fun vs H2=>∃a,vs=[.ref a]/\(∃xs,Sq K true H2 a xs)/\R (ItK K a) H2
section
variable{X:Cx}{pos:Pos}
theorem K5{M:Model}{A:Around}{E:Value->Shared->Prop}{s:Shared}{ps:Pos}{T:String}{as:List (Bool×Sem Value)}{kws:List (Option Str×Sem Value)}{Q:Value->Shared->Prop}(e1:as.any (·.1)=false)(e2:kws.any (·.1.isNone)=false)
  (hq:wpAny M A (evalArgs (.type T) true as kws) (fun b s1=>wpAny M A (call (.type T) b.pos b.kw) Q E s1) E s):wpAny M A (callWith ps (.type T) [] as kws) Q E s:=by
 unfold callWith;refine Q2 (wpAny_holding (thn hq fun b s1 q1=>Q2 (wpAny_standAt ?_)));simp only[e1,e2,Bool.or_false];exact Q2 (Q9 (Q2 (thn q1 fun r s2 q2=>Q2 (wpAny_holding (wpAny_point (Q9 q2))))))
theorem y3{es:List Expr}{k j:Nat}{tp p p2 p3:Pos}{a:Expr}{ta:TA}(hg:Gl X "enumerate")(hm:X.mg "enumerate"=none)(ha:WA X [a] ta)
  (hs:starEach [a] X.env=(false,eval a X.env)::starEach [] X.env:=by rfl) (hpl:(backTo pos (starEach [a] X.env)).any (·.1)=false:=by rfl):WI X (.Tuple es k tp) (.Call (.Name "enumerate" p) [a] [⟨some "start",.Constant (.int 1) j p2,p3⟩] pos) (qK X.K ta):=by
 constructor;intro pins s σ H R I h;refine wpAny_Call_Name_kw (j9 I hg hm OP.p9 ?_);refine K5 hpl rfl (evalArgs_kw2 rfl (thn (ha.h pos pins s σ H _ I h) fun us s1 ⟨vs,H1,I1,r1,q1⟩=>?_) hs);obtain⟨aa,rfl,⟨xs,qa⟩,q⟩:=q1;obtain⟨u,rfl,ru⟩:=ki r1;cases ru;refine PyProof.Rows.kwAll_cons (wpAny_Constant_int (PyProof.Rows.kwAll_nil ?_));have I2:=I1.tok (s1.toks+1);obtain⟨ia,ra,sa⟩:=I2.sq qa;have sa':({ s1 with toks:=s1.toks+1 }:Shared).heap.IsList aa ia.toArray:=sa;refine uC sa' fun h1 hE hi up=>?_;have lt:=sa.lt;refine wpAny_pyIter_enum hE ⟨s1.heap.objs.size+1,[s1.heap.objs.size+1,s1.heap.objs.size],_,_,H1,rfl,I2.kept (t':=s1.toks+1) up,t6 (Nat.ne_of_gt (Nat.lt_succ_self _)) (QL (Nat.lt_succ_of_lt lt)) (QL lt),⟨⟨_,hE⟩,hi⟩,fun c hc=>?_,q⟩;simp only[QD,Qe,or_false]at hc;rcases hc with rfl|rfl
 ·exact I2.fpOk (Nat.le_succ _) (I2.hok.fresh (Nat.le_succ _))
 ·exact I2.fpOk (QX _) (I2.hok.fresh (QX _))
def uE(us:List U):List U:=us.zipIdx.map fun p=>.tup [.int ((p.2+1:Nat):Int),p.1]
end
end OP
namespace OP
open PySem PySem.Spec PyProof PyProof.Rows L2 OG
mutual
def RfU(p:Nat->Prop):U->Prop
 |.tup us=>RfL p us
 |.ref l=>p l
 |_=>True
def RfL(p:Nat->Prop):List U->Prop
 |[]=>True
 |u::us=>RfU p u/\RfL p us
end
section
variable{K:Q1}{m m':List Addr}{H:Hp}{p:Nat->Prop}{a:Addr}{o o':O}{S S':Sto}
mutual
theorem Is.ren(e:∀l,p l->m'[l]?=m[l]?):∀{v:V} {u:U},RfU p u->Is K m H v u->Is K m' H v u
 |v,.non,_,h=>by unfold Is at h ⊢;exact h
 |v,.bl b,_,h=>by unfold Is at h ⊢;exact h
 |v,.int i,_,h=>by unfold Is at h ⊢;exact h
 |v,.str x,_,h=>by unfold Is at h ⊢;exact h
 |v,.tup us,r,h=>by
  unfold Is at h ⊢;unfold RfU at r;obtain⟨a,xs,e1,k,l⟩:=h;exact⟨a,xs,e1,k,IsL.ren e r l⟩
 |v,.ref l,r,h=>by
  unfold Is at h ⊢;unfold RfU at r;obtain⟨a,k,e1⟩:=h;exact⟨a,(e l r).trans k,e1⟩
 |v,.kl ns,_,h=>by unfold Is at h ⊢;exact h
theorem IsL.ren(e:∀l,p l->m'[l]?=m[l]?):∀{xs:List V} {us:List U},RfL p us->IsL K m H xs us->IsL K m' H xs us
 |xs,[],_,h=>by unfold IsL at h ⊢;exact h
 |xs,u::us,r,h=>by
  unfold IsL at h ⊢;unfold RfL at r;obtain⟨x,t,e1,k,l⟩:=h;exact⟨x,t,e1,Is.ren e r.1 k,IsL.ren e r.2 l⟩
end
mutual
theorem Is.rf:∀{v:V} {u:U},Is K m H v u->RfU (· < m.length) u
 |v,.non,h=>by unfold RfU;trivial
 |v,.bl b,h=>by unfold RfU;trivial
 |v,.int i,h=>by unfold RfU;trivial
 |v,.str x,h=>by unfold RfU;trivial
 |v,.tup us,h=>by
  unfold Is at h;unfold RfU;obtain⟨a,xs,e1,k,l⟩:=h;exact IsL.rf l
 |v,.ref l,h=>by
  unfold Is at h;unfold RfU;obtain⟨a,k,e1⟩:=h;exact(Q5.mp k).1
 |v,.kl ns,h=>by unfold RfU;trivial
theorem IsL.rf:∀{xs:List V} {us:List U},IsL K m H xs us->RfL (· < m.length) us
 |xs,[],h=>by unfold RfL;trivial
 |xs,u::us,h=>by
  unfold IsL at h;unfold RfL;obtain⟨x,t,e1,k,l⟩:=h;exact⟨Is.rf k,IsL.rf l⟩
end
def RfO(p:Nat->Prop):O->Prop
 |.lst us=>RfL p us
 |.dic kvs=>RfL p (kvs.map (·.2))
 |.ins _ fs=>∀(i:Nat) (u:U),fs[i]?=some (some u)->RfU p u
 |.fdc _ kvs=>RfL p (kvs.map (·.2))
 |.dit kvs=>RfL p (kvs.map (·.2))
 |.fdt _ kvs=>RfL p (kvs.map (·.2))
 |.dnt kvs=>RfL p (kvs.map (·.2))
 |.fdn _ kvs=>RfL p (kvs.map (·.2))
theorem Rf.ren{v:Option V}{u:Option U}(h:Rf K m H v u)(f:∀w x,u=some w->Is K m H x w->Is K m' H x w):Rf K m' H v u:=by
 cases v with
 |none=>cases u with
  |none=>trivial
  |some u=>exact h.elim
 |some v=>cases u with
  |none=>exact h.elim
  |some u=>exact f u v rfl h
theorem Ob.ren(e:∀l,p l->m'[l]?=m[l]?)(r:RfO p o)(h:Ob K m H a o):Ob K m' H a o:=by
 cases o with
 |lst us=>obtain⟨xs,k,i⟩:=h;exact⟨xs,k,i.ren e r⟩
 |dic kus=>obtain⟨xs,k,i⟩:=h;exact⟨xs,k,i.1,i.2.ren e r⟩
 |ins C fus=>
  obtain⟨dx,fs,k,i⟩:=h;exact⟨dx,fs,k,i.nd,i.few,i.knd,i.sub,i.len,fun j x q=>(i.at_ j x q).ren fun u v hu hi=>Is.ren e (r j u (Option.join_eq_some_iff.mp hu)) hi⟩
 |fdc ep kus=>obtain⟨ob,es,kvs,k,d,i⟩:=h;exact⟨ob,es,kvs,k,d,i.1,i.2.ren e r⟩
 |dit kus=>obtain⟨xs,k,i⟩:=h;exact⟨xs,k,i.1,i.2.ren e r⟩
 |fdt ep kus=>obtain⟨ob,es,kvs,k,d,i⟩:=h;exact⟨ob,es,kvs,k,d,i.1,i.2.ren e r⟩
 |dnt kus=>obtain⟨kvs,k,y,i⟩:=h;exact⟨kvs,k,y,i.1,i.2.ren e r⟩
 |fdn ep kus=>obtain⟨ob,es,kvs,k,d,y,i⟩:=h;exact⟨ob,es,kvs,k,d,y,i.1,i.2.ren e r⟩
theorem Ob.rf(h:Ob K m H a o):RfO (· < m.length) o:=by
 cases o with
 |lst us=>obtain⟨xs,k,i⟩:=h;exact i.rf
 |dic kus=>obtain⟨xs,k,i⟩:=h;exact i.2.rf
 |ins C fus=>
  obtain⟨dx,fs,k,i⟩:=h;intro j u hj;have hl:j<C.ns.length:=by rw[<-i.len];exact(Q5.mp hj).1
  have z:=i.at_ j _ (Q4 hl);rw[hj]at z;cases hv:fs.lookup C.ns[j]with
  |none=>rw[hv]at z;exact z.elim
  |some v=>rw[hv]at z;exact Is.rf z
 |fdc ep kus=>obtain⟨ob,es,kvs,k,d,i⟩:=h;exact i.2.rf
 |dit kus=>obtain⟨xs,k,i⟩:=h;exact i.2.rf
 |fdt ep kus=>obtain⟨ob,es,kvs,k,d,i⟩:=h;exact i.2.rf
 |dnt kus=>obtain⟨kvs,k,y,i⟩:=h;exact i.2.rf
 |fdn ep kus=>obtain⟨ob,es,kvs,k,d,y,i⟩:=h;exact i.2.rf
theorem Sr.rf(r:Sr K m S H){i:Nat}(h:S[i]?=some o):RfO (· < S.length) o:=by
 obtain⟨a,h1,h2⟩:=r.get h;have:=h2.rf;rw[r.len]at this;exact this
theorem Sr.gc(r:Sr K m S H)(len:m'.length=S'.length)(nd:m'.Nodup)(h:∀(i:Nat) (a:Addr) (o':O),m'[i]?=some a->S'[i]?=some o'->∃(j:Nat) (o:O),m[j]?=some a/\S[j]?=some o/\(Ob K m H a o->Ob K m' H a o')):Sr K m' S' H:=⟨len,nd,fun l a o h1 h2=>let ⟨j,o1,e1,e2,f⟩:=h l a o h1 h2;f (r.ob j a o1 e1 e2)⟩
theorem Lr.gc{ρ ρ':Rho}{σ:L2.St}(r:Lr K m H ρ σ)(hl:ρ'.length=ρ.length)(h:∀(i:Nat) (u:U),ρ'[i]?=some (some u)->∃u0:U,ρ[i]?=some (some u0)/\∀v,Is K m H v u0->Is K m' H v u):Lr K m' H ρ' σ:=
 ⟨hl.trans r.len,fun i u e=>let ⟨u0,e0,f⟩:=h i u e;let ⟨v,e1,e2⟩:=r.at_ i u0 e0;⟨v,e1,f v e2⟩⟩
end
def Cf(K:Q1)(m0:List Addr)(H0:Hp)(R:Rho->Sto->Prop)(σ:L2.St)(H:Hp):Prop:=∃m ρ S,Ext K m0 H0 m H/\Sr K m S H/\Lr K m H ρ σ/\R ρ S
theorem uo{K:Q1}{m0:List Addr}{H:Hp}{l:Nat}{aa:Addr}{ws:List U}(ha1:m0[l]?=some aa):yG K (ItK K aa) m0 H (uE ws) (fun S=>S[l]?=some (.lst ws)):=fun m3 S3 H3 i e3 sr3 hok=>by
 obtain⟨a2,ha2,vs,hx2,l1⟩:=sr3.get hok;rw[e3.get ha1]at ha2;cases ha2;have sq1:Sq K true H3 aa vs:=.of hx2;have n1:=l1.length;refine⟨fun u hu=>?_,fun hi=>⟨vs,sq1,?_⟩⟩
 ·simp only[uE,QC,Qc,List.getElem?_zipIdx]at hu;obtain⟨⟨p,q⟩,⟨y,hp,e⟩,rfl⟩:=hu;cases e;obtain⟨vp,ep,ip⟩:=l1.getD hp;refine⟨⟨vs,vp,sq1,ep⟩,fun v H4 hy=>?_⟩;obtain⟨r,x',rfl,hr,rfl,f1⟩:=hy;have:=f1 vs sq1;rw[ep]at this;cases this;have ee:Ext K m3 H3 m3 (upd H3 r (.tup [.int ((i+1:Nat):Int),vp])):=.of (bI hr _);exact⟨ee,sr3.same (cV hr _),.tup_ (SqT.of aG) (.cons_ (by simp only[Nat.zero_add];exact .int_) (.cons_ (ip.mono ee) .nil_))⟩
 ·simp only[uE,Q6,List.length_zipIdx]at hi;omega
theorem HD{K:Q1}{m0:List Addr}{H0 H:Hp}{ca:CE}{g:CG}{cb:CS}{us:List U}{D:yI}{σ:L2.St}{l:Nat}{a:Addr}(J:Nat->Rho->Sto->Prop)(hl:m0[l]?=some a)
  (h0:Cf K m0 H0 (J 0) σ H) (hc:∀i ρ S,J i ρ S->S[l]?=some (.lst us)) (hca:∀ρ S,J 0 ρ S->ca ρ S=some (.ref l,S))
  (turn:∀i u ρ S,us[i]?=some u->J i ρ S->∃ρ1 S1 o ρ2 S2,g (.tup [.int ((i+1:Nat):Int),u]) ρ S=some (ρ1,S1)/\cb ρ1 S1=some (o,ρ2,S2)/\
   ((o=.nx/\∀m σ H,Ext K m0 H0 m H->Sr K m S2 H->Lr K m H ρ2 σ->Cf K m0 H0 (J (i+1)) σ H)\/∃v,o=.rt v/\iJ K m0 H0 D.rt v S2))
  (fin:∀ρ S,J us.length ρ S->gw K m0 H0 D.nx ρ S):Ek (qK K (ze (tE K ca) Ej)) (tG K g) (tS K cb) D σ H:=by
 obtain⟨m,ρ,S,e0,sr,lr,hJ⟩:=h0;refine⟨m,ρ,S,.ref l,S,sr,lr,hca _ _ hJ,fun m1 v1 H1 e1 sr1 i1=>?_⟩;obtain⟨aa,ha1,rfl⟩:=i1.of_ref;obtain⟨a',ha',xs,hx,il⟩:=sr1.get (hc _ _ _ hJ);rw[ha1]at ha';cases ha';have e01:=e0.trans e1;have haa:=e01.get hl;rw[ha1]at haa;cases haa;refine⟨_,rfl,⟨xs,.of hx⟩,?_⟩;let W:Nat->Nat->L2.St->Hp->Prop:=fun i n σ2 H2=>n=us.length-i/\i<=us.length/\Cf K m0 H0 (J i) σ2 H2
 refine⟨W,⟨us.length,by simp,Z5 _,m1,ρ,S,e01,sr1,lr.mono e1,hJ⟩,?_⟩;rintro i n σ2 H2 ⟨rfl,hi,m2,ρ2,S2,e2,sr2,lr2,hJ2⟩;have ito:=uo (K:=K) (H:=H0) (ws:=us) hl m2 S2 H2 i e2 sr2 (hc _ _ _ hJ2);by_cases hlt:i<us.length
 ·have hu:(uE us)[i]?=some (.tup [.int ((i+1:Nat):Int),us[i]]):=by
   simp only[uE,QC,List.getElem?_zipIdx,Q4 hlt,Option.map_some,Nat.zero_add]
  obtain⟨hgo,hy⟩:=ito.1 _ hu;obtain⟨ρ3,S3,o,ρ4,S4,h3,h4,ho⟩:=turn i _ _ _ (Q4 hlt) hJ2;refine .inr ⟨hgo,W (i+1) (us.length-(i+1)),fun σ' H' w'=>⟨_,by omega,w'⟩,fun x H3 y=>?_⟩;obtain⟨e3,sr3,ix⟩:=hy x H3 y;refine⟨m2,ρ2,S2,_,ρ3,S3,sr3,lr2.mono e3,ix,h3,fun m4 σ4 H4 e4 sr4 lr4=>⟨m4,ρ3,S3,o,ρ4,S4,sr4,lr4,h4,?_⟩⟩;have e14:=(e2.trans e3).trans e4;rcases ho with⟨rfl,f⟩|⟨v,rfl,f⟩
  ·exact fun m5 σ5 H5 e5 sr5 lr5=>⟨rfl,hlt,f m5 σ5 H5 (e14.trans e5) sr5 lr5⟩
  ·exact iJ.mono e14 f
 ·have e:i=us.length:=by omega
  subst e;exact .inl ⟨ito.2 (by simp[uE]),fin _ _ hJ2 m2 σ2 H2 e2 sr2 lr2⟩
end OP
namespace OQ
open PySem PySem.Spec PyProof.Rows L2 OG OP
def dP:CS:=
 (bB (eB (aL (cOp fEq (cOp fIx (ag 0) (cC (.int 2))) (cC (.int 0)))) (bB (cY 2 (cOp fIx (ag 0) (cC (.int 1))))
  (bB (d5 (ag 0) (cC (.int 1)) (cOp ke (ag 2) (cC (.int 1))))
  (bB (cY 3 (cC (.int 0)))
  (bB (eB (aL (cOp fLt (ag 2) (cCB l5 (af (cOp fIx (ag 0) (cC (.int 0))) aD)))) (cY 3 (cOp fIx (cOp fIx (ag 0) (cC (.int 0))) (ag 2))) (eB (aL (cOp fGt (cCB l5 (af (cOp fIx (ag 0) (cC (.int 0))) aD)) (cC (.int 0)))) (cY 3 (cOp ke (cOp pL (cOp fIx (cOp fIx (ag 0) (cC (.int 0))) (cOp pL (cOp lY (ag 2) (cC (.int 3))) (cCB l5 (af (cOp fIx (ag 0) (cC (.int 0))) aD)))) (cC (.int 1000003))) (cOp lY (cC (.int 97)) (ag 2)))) b6))
  (bB (cY 4 (cOp pL (cOp lY (cOp ke (cOp ke (cOp pL (ag 3) (cC (.int 998244353))) (cOp lY (cC (.int 53)) (ag 2))) (cC (.int 1))) (cC (.int 48271))) (cC (.int 2147483647))))
  (bB (cY 5 (cOp pL (cOp ke (cOp ke (cOp lY (ag 4) (ag 4)) (cOp lY (cC (.int 69621)) (ag 2))) (cC (.int 5))) (cC (.int 1000000007))))
  (bB (cY 6 (cOp pL (cOp ke (cOp lY (ag 5) (ag 5)) (ag 4)) (cC (.int 998244353))))
  (bB (d5 (ag 0) (cC (.int 2)) (cOp ke (cOp Ak (cOp ke (cOp lY (ag 5) (cC (.int 998244353))) (ag 6)) (cC (.int 16))) (cC (.int 1))))
  (eB (aL (cOp fGe (ag 3) (cOp Es (cC (.int 10)) (cC (.int 18))))) (d5 (ag 0) (cC (.int 2)) (cOp Ak (ag 3) (cOp Es (cC (.int 10)) (cC (.int 18))))) b6))))))))) b6)
  (bB (cY 7 (cOp pL (cOp fIx (ag 0) (cC (.int 2))) (ag 1)))
  (bB (d5 (ag 0) (cC (.int 2)) (cOp Ak (cOp fIx (ag 0) (cC (.int 2))) (ag 1)))
  (eV (ag 7)))))
theorem qU{a0 a1:U}{S:Sto}:fnU 8 2 (dP ) [a0,a1] S=((dP ) [some a0,some a1,none,none,none,none,none,none] S).bind kFn:=jH rfl
def dX(ak:Fn):CS:=
 (eV (hU (af (cOp ke (cC (.int 1)) (cCB ak (af (ag 0) (af (cC (.int 6)) aD)))) (af (cOp fIx (jU (af (cC (.int 2)) (af (cC (.int 3)) (af (cC (.int 5)) (af (cC (.int 10)) (af (cOp ke (cC (.int 2)) (cCB ak (af (ag 0) (af (cC (.int 999)) aD)))) aD)))))) (cCB ak (af (ag 0) (af (cC (.int 5)) aD)))) aD))))
theorem pS{ak:Fn}{a0:U}{S:Sto}:fnU 1 1 (dX ak) [a0] S=((dX ak) [some a0] S).bind kFn:=jH rfl
def dY(ak:Fn):CS:=
 (eV (cCB g7 (af (dQ (cX (af (cOp fIx (ag 1) (cC (.int 0))) aD)) (gNm 0) (cCB ak (af (ag 1) (af (cOp fIx (ag 2) (cC (.int 1))) aD))) 1 [0,1]) aD)))
theorem pT{ak:Fn}{a0 a1:U}{S:Sto}:fnU 2 2 (dY ak) [a0,a1] S=((dY ak) [some a0,some a1] S).bind kFn:=jH rfl
end OQ
local macro_rules
 | `(tactic| rwa $s:rwRuleSeq) => do
  let ts : Array (Lean.TSyntax `term) := s.raw[1].getSepArgs.map fun r => ⟨r[1]⟩
  let us : Array (Lean.TSyntax `term) := (("IK EE x_c LZ Jg Jf EI BB JX Fp Fo LY Je Jd Jh EZ Fm BR BQ Jc EX EW EY BC BD oN qm ql BA uZ BI AA Lg JR Jv Fc EJ IZ ES ER EO EN Fg BM I0 ET Jz Ff Fe Md JB JA IY EM JV Fl Fj JD JC Fs Fq LR IU IT IS IQ Jq Jr Js Ju IM EK EL E7 E8 E9 E6 JY IL Mb Mc Me Mf JI Jj JH Ji JJ Jk JF JE at0 at1 at2 at3 ix0 ix1 ix2 Option.bind_some List.getElem?_cons_zero List.getElem?_cons_succ List.set_cons_zero List.set_cons_succ List.length_cons List.length_nil List.map_cons List.map_nil decide_true decide_false Bool.not_true Bool.not_false JG AD AB LS IX IW IV E5 BG BF BE BH Jw Jy Jp Fb Mh JU JT JS JW Mg JO JN JM JL JK Fh LX x_p LW LV LU Fi BP BO EF EG EH BJ BK BL Fd ga ga0 gs gs0 Option.join_some Nat.add_zero List.cons_append List.nil_append List.append_assoc" : String).splitOn " ").toArray.map fun x => ⟨(Lean.mkIdent ((x.splitOn ".").foldl Lean.Name.str Lean.Name.anonymous)).raw⟩
  let vs:=ts++us
  `(tactic| simp only [$[$vs:term],*])
namespace OQ
open PySem PySem.Spec PyProof.Rows L2 OG OP
def pen(a c:Int):O:=.lst [.ref 0,.int a,.int c]
section
variable{S:Sto}{j k:Int}
theorem u7(h:-(2^64)<k/\k<2^64):lY (.int j) (.int k) S=some (.int (j*k),S):=E4 (.inr h)
theorem oM(h:-(2^64)<j/\j<2^64):lY (.int j) (.int k) S=some (.int (j*k),S):=E4 (.inl h)
theorem Ma:lY (.int j) (.int 3) S=some (.int (j*3),S):=u7 (by decide)
theorem Jn:lY (.int 97) (.int k) S=some (.int (97*k),S):=oM (by decide)
theorem Jo:lY (.int 53) (.int k) S=some (.int (53*k),S):=oM (by decide)
theorem L9:lY (.int j) (.int 48271) S=some (.int (j*48271),S):=u7 (by decide)
theorem L8:lY (.int 69621) (.int k) S=some (.int (69621*k),S):=oM (by decide)
theorem L7:lY (.int j) (.int 998244353) S=some (.int (j*998244353),S):=u7 (by decide)
theorem Jm:lY (.int (j % 2147483647)) (.int k) S=some (.int (j % 2147483647*k),S):=oM (by have:=Int.emod_nonneg j (show(2147483647:Int)≠0 by decide);have:=Int.emod_lt_of_pos j (show(0:Int)<2147483647 by decide);omega)
theorem Jl:lY (.int (j % 1000000007)) (.int k) S=some (.int (j % 1000000007*k),S):=oM (by have:=Int.emod_nonneg j (show(1000000007:Int)≠0 by decide);have:=Int.emod_lt_of_pos j (show(0:Int)<1000000007 by decide);omega)
theorem L6:pL (.int j) (.int 998244353) S=some (.int (j % 998244353),S):=tR (by decide)
theorem L5:pL (.int j) (.int 2147483647) S=some (.int (j % 2147483647),S):=tR (by decide)
theorem L4:pL (.int j) (.int 1000000007) S=some (.int (j % 1000000007),S):=tR (by decide)
theorem L3:pL (.int j) (.int 1000003) S=some (.int (j % 1000003),S):=tR (by decide)
theorem JQ:Ak (.int j) (.int 16) S=some (.int (j / 16),S):=BN ⟨by decide,by decide +kernel⟩
theorem EV:Es (.int 10) (.int 18) S=some (.int 1000000000000000000,S):=Ja (j:=10) (k:=18) ⟨by decide,by decide,by decide⟩
theorem JP:Ak (.int j) (.int 1000000000000000000) S=some (.int (j / 1000000000000000000),S):=BN ⟨by decide,by decide +kernel⟩
theorem atU{ns:List Int}{k:Int}(h0:0<=k)(h1:k<(ns.length:Int)):∃v:Int,atI (ns.map U.int) k=some (.int v):=by
 have hk:k.toNat<ns.length:=by omega
 exact⟨ns[k.toNat],yw h0 (by rw[QC,Q4 hk];rfl)⟩
end
def d7:Fn:=fnU 8 2 dP
theorem cW(ns:List Int)(T:Sto){a c m:Int}(ha:0<=a)(hc:0<=c)(hm:0<m)(hb:m.natAbs.log2<9000) :
  ∃f a' c',d7 [.ref 1,.int m] (.lst (ns.map U.int)::pen a c::T)=some (.int f,.lst (ns.map U.int)::pen a' c'::T)/\0<=f/\f<m/\0<=a'/\0<=c':=by
 unfold d7;rw[qU];have dm:∀{j:Int} {S:Sto},Ak (.int j) (.int m) S=some (.int (j / m),S):=BN ⟨hm,hb⟩;have mm:∀{j:Int} {S:Sto},pL (.int j) (.int m) S=some (.int (j % m),S):=tR hm;have fin:∀{a' c':Int},0<=a'->0<=c'->0<=c' % m/\c' % m<m/\0<=a'/\0<=c' / m:=fun h1 h2=>⟨Int.emod_nonneg _ (by omega),Int.emod_lt_of_pos _ hm,h1,Int.ediv_nonneg h2 (by omega)⟩;by_cases c0:c=0
 ·subst c0;have cell : ∃ z : Int, (eB (aL (cOp fLt (ag 2) (cCB l5 (af (cOp fIx (ag 0) (cC (U.int 0))) aD))))
              (cY 3 (cOp fIx (cOp fIx (ag 0) (cC (U.int 0))) (ag 2)))
              (eB
               (aL (cOp fGt (cCB l5 (af (cOp fIx (ag 0) (cC (U.int 0))) aD)) (cC (U.int 0))))
               (cY 3
                (cOp ke
                 (cOp pL
                  (cOp fIx (cOp fIx (ag 0) (cC (U.int 0)))
                   (cOp pL (cOp lY (ag 2) (cC (U.int 3)))
                    (cCB l5 (af (cOp fIx (ag 0) (cC (U.int 0))) aD))))
                  (cC (U.int 1000003)))
                 (cOp lY (cC (U.int 97)) (ag 2))))
               b6)) [some (.ref 1),some (.int m),some (.int a),some (.int 0),none,none,none,none] (O.lst (ns.map U.int)::.lst [.ref 0,.int (a+1),.int 0]::T)=some (.nx,[some (.ref 1),some (.int m),some (.int a),some (.int z),none,none,none,none],O.lst (ns.map U.int)::.lst [.ref 0,.int (a+1),.int 0]::T):=by
   by_cases h1:a<(ns.length:Int)
   ·obtain⟨z,hz⟩:=atU ha h1;exact⟨z,by rwa[hz,h1,Q6]⟩
   ·by_cases h2:(0:Int)<(ns.length:Int)
    ·obtain⟨z,hz⟩:=atU (ns:=ns) (k:=a*3 % (ns.length:Int)) (Int.emod_nonneg _ (by omega)) (Int.emod_lt_of_pos _ h2);exact⟨z % 1000003+97*a,by rwa[h1,h2,Ma,tR h2,hz,L3,Jn,Q6]⟩
    ·exact⟨0,by rwa[h1,h2,Q6]⟩
  obtain⟨z,hz⟩:=cell;rwa[dP,pen,hz,L6,L5,L4,Jo,L9,L8,L7,Jm,Jl,JQ,EV];by_cases h3:(1000000000000000000:Int)<=z
  ·rwa[h3,EV,JP,mm,dm];exact⟨_,_,_,rfl,fin (by omega) (Int.ediv_nonneg (by omega) (by omega))⟩
  ·rwa[h3,mm,dm];refine⟨_,_,_,rfl,fin (by omega) ?_⟩;exact Int.add_nonneg (Int.ediv_nonneg (Int.add_nonneg (Int.mul_nonneg (Int.emod_nonneg _ (by decide)) (by decide)) (Int.emod_nonneg _ (by decide))) (by decide)) (by decide)
 ·rwa[dP,pen,c0,mm,dm];exact⟨_,_,_,rfl,fin ha hc⟩
theorem l9{m:Int}(h0:0<=m)(h:m<2^60):m.natAbs.log2<9000:=wX h0 h
abbrev scr(ns:List Int):O:=.lst (ns.map U.int)
theorem Kc{f g:Int}(g0:0<=g)(g1:g<999)(f0:0<=f)(f1:f<5):∃v:Int,atI [U.int 2,U.int 3,U.int 5,U.int 10,U.int (2+g)] f=some (.int v)/\2<=v/\v<=1000:=by
 have:f=0\/f=1\/f=2\/f=3\/f=4:=by omega
 rcases this with rfl|rfl|rfl|rfl|rfl
 ·exact⟨2,rfl,by omega,by omega⟩
 ·exact⟨3,rfl,by omega,by omega⟩
 ·exact⟨5,rfl,by omega,by omega⟩
 ·exact⟨10,rfl,by omega,by omega⟩
 ·exact⟨2+g,rfl,by omega,by omega⟩
def rp:Fn:=fnU 1 1 (dX d7)
theorem y1(ns:List Int)(T:Sto){a c:Int}(ha:0<=a)(hc:0<=c) :
  ∃n w a' c' G,rp [.ref 1] (scr ns::pen a c::T)=some (.tup [.int n,.int w],scr ns::pen a' c'::(T++G))/\1<=n/\n<=6/\2<=w/\w<=1000/\0<=a'/\0<=c':=by
 unfold rp;rw[pS];obtain⟨f1,a1,c1,h1,p1,q1,ha1,hc1⟩:=cW ns T (m:=6) ha hc (by decide) (by decide +kernel);obtain⟨f2,a2,c2,h2,p2,q2,ha2,hc2⟩:=cW ns T (m:=999) ha1 hc1 (by decide) (by decide +kernel);obtain⟨f3,a3,c3,h3,p3,q3,ha3,hc3⟩:=cW ns (T++[.lst [.int 2,.int 3,.int 5,.int 10,.int (2+f2)]]) (m:=5) ha2 hc2 (by decide) (by decide +kernel);obtain⟨v,hv,v0,v1⟩:=Kc p2 q2 p3 q3;refine⟨1+f1,v,a3,c3,[.lst [.int 2,.int 3,.int 5,.int 10,.int (2+f2)]],?_,by omega,by omega,v0,v1,ha3,hc3⟩;rwa[dX,h1,h2,h3,hv]
def rq:Fn:=fnU 2 2 (dY d7)
theorem vL(ns:List Int)(T:Sto){n w:Int}(w0:2<=w)(w1:w<=1000):∀(us:List U) (r:Option U) (ys:List Int) {a c:Int},0<=a->0<=c->ys.length+us.length<=1000->
  ∃zs a' c',gH (fun _=>True) (gNm 0) (cCB d7 (af (ag 1) (af (cOp fIx (ag 2) (cC (.int 1))) aD))) (T.length+1+1) us [r,some (.ref 1),some (.tup [.int n,.int w])] (scr ns::pen a c::(T++[.lst (ys.map U.int)]))
   = some (scr ns::pen a' c'::(T++[.lst ((ys++zs).map U.int)]))/\zs.length=us.length/\(∀z∈zs,0<=z/\z<w)/\0<=a'/\0<=c'
 |[],r,ys,a,c,ha,hc,hl=>⟨[],a,c,by simp[gH],rfl,by simp,ha,hc⟩
 |u::us,r,ys,a,c,ha,hc,hl=>by
  obtain⟨f,a1,c1,h1,p1,q1,ha1,hc1⟩:=cW ns (T++[.lst (ys.map U.int)]) (m:=w) ha hc (by omega) (l9 (by omega) (by omega));obtain⟨zs,a2,c2,h2,e2,b2,ha2,hc2⟩:=vL ns T (n:=n) w0 w1 us (some u) (ys++[f]) ha1 hc1 (by simp at hl ⊢;omega);refine⟨f::zs,a2,c2,?_,by simp[e2],fun z hz=>?_,ha2,hc2⟩
  ·have ed:(ys.map U.int).length<LIM:=by unfold LIM;simp at hl ⊢;omega
   unfold gH;rwa[h1,if_true,ed];rw[QK]at h2;simp only[QJ,Ql]at h2;rw[h2];simp
  ·rcases QD.mp hz with rfl|hz
   ·exact⟨p1,q1⟩
   ·exact b2 z hz
theorem zg(ns:List Int)(T:Sto){a c n w:Int}(ha:0<=a)(hc:0<=c)(n0:1<=n)(n1:n<=6)(w0:2<=w)(w1:w<=1000) :
  ∃(zs:List Int) (a' c':Int) (G:Sto),rq [.ref 1,.tup [.int n,.int w]] (scr ns::pen a c::T)=some (.tup (zs.map U.int),scr ns::pen a' c'::(T++G))/\zs.length=n.toNat/\(∀z∈zs,0<=z/\z<w)/\0<=a'/\0<=c':=by
 unfold rq;rw[pT];obtain⟨zs,a',c',h,e,b,ha',hc'⟩:=vL ns T (n:=n) w0 w1 (cq 0 n.toNat) none [] ha hc (by simp[cq];omega);refine⟨zs,a',c',[.lst (zs.map U.int)],?_,by rw[e];simp[cq],b,ha',hc'⟩;have hr:-(2^62)<=n/\n<2^62:=by omega
 simp only[Ql,Qj]at h;rwa[dY,dQ,cX,kB,hr,h,if_true,and_self,Qa,Z8]
def jI(ps:List (Int×Int)):List (Key×U):=ps.map fun p=>(.inl p.1,.int p.2)
def MC(lk:List Int):List (Key×U):=lk.map fun b=>(.inl b,.bl true)
theorem iA(b:Int):∀ps:List (Int×Int),aR (jI ps) (.inl b)=(aR ps b).map U.int
 |[]=>rfl
 |(k,v)::r=>by
  have ih:=iA b r;unfold aR jI at ih ⊢;simp only[QJ,Qp];by_cases e:k=b
  ·subst e;simp
  ·rw[decide_eq_false (fun z:(Sum.inl k:Key)=Sum.inl b=>e (Sum.inl.inj z)),decide_eq_false e];exact ih
theorem As(b:Int)(ps:List (Int×Int)):((jI ps).any fun kv=>decide (kv.1=Sum.inl b))=ps.any fun kv=>decide (kv.1=b):=by
 unfold jI;induction ps with
 |nil=>rfl
 |cons p r ih=>
  simp only[QJ,Z9,ih];by_cases e:p.1=b
  ·rw[decide_eq_true e,decide_eq_true (by rw[e])]
  ·rw[decide_eq_false e,decide_eq_false (fun z:(Sum.inl p.1:Key)=Sum.inl b=>e (Sum.inl.inj z))]
theorem rZ(b v:Int)(ps:List (Int×Int)):fj (jI ps) (.inl b) (.int v)=jI (fj ps b v):=by
 unfold fj;rw[As];split
 ·unfold jI;rw[QM,QM];refine Qn fun p _=>?_;simp only[Function.comp];by_cases e:p.1=b
  ·simp[e]
  ·rw[if_neg e,if_neg (fun z:(Sum.inl p.1:Key)=Sum.inl b=>e (Sum.inl.inj z))]
 ·simp[jI]
theorem kF{κ α:Type}[DecidableEq κ](ps:List (κ×α))(b:κ)(v:α):(fj ps b v).length<=ps.length+1:=by
 unfold fj;split<;>simp
theorem atF{first:List Int}{b n:Int}(l:first.length=n.toNat)(h0:0<=b)(h1:b<n):atI (first.map U.int) b=some (.int (first.getD b.toNat 0)):=by
 have hk:b.toNat<first.length:=by omega
 refine yw h0 ?_;rw[QC,Q4 hk,Qm,Q4 hk];rfl
theorem cG{α:Type}{l:List α}{k:Nat}{x:α}(h:l[k]?=some x):k<l.length:=(Q5.mp h).1
theorem aq{α:Type}{l r:List α}{k:Nat}{x:α}(h:l[k]?=some x):(l++r)[k]?=some x:=by rw[QZ (cG h)];exact h
def beh(first:List Int)(ps:List (Int×Int))(k:Nat):List Int:=(first.zipIdx k).map fun p=>(aR ps (p.2:Int)).getD p.1
theorem HC{ls:List Nat}{S0 S':Sto}(len:S0.length<=S'.length)(old:∀l,l<S0.length->S'[l]?=S0[l]?):∃G,S'=S0++G:=by
 refine⟨S'.drop S0.length,List.ext_getElem? fun l=>?_⟩;by_cases c:l<S0.length
 ·rw[old l c,QZ c]
 ·rw[Qv (by omega),List.getElem?_drop];congr 1;omega
theorem inI(b:Int):∀l:List Int,inU (.int b) (l.map U.int)=decide (b∈l)
 |[]=>by simp[inU]
 |x::r=>by
  have ih:=inI b r;unfold inU at ih ⊢;rw[QJ,Z9,ih,show eqF (.int x) (.int b)=(x == b)from rfl];by_cases e:x=b
  ·subst e;simp
  ·have:(x == b)=false:=by simpa using e
   rw[this];simp[Ne.symm e]
theorem DQ(l:List Int):(l.map U.int).all g6=true:=by
 induction l with
 |nil=>rfl
 |cons x r ih=>rw[QJ,ZV,ih];rfl
theorem yr(first:List Int)(ps:List (Int×Int))(k:Nat):(beh first ps k).length=first.length:=by simp[beh]
theorem Cq{c:CE}{ρ:Rho}{S S':Sto}{i:Int}(h:c ρ S=some (.int i,S')):uN (some c) ρ S=some (some i,S'):=by simp only[uN,h,Q8]
def pU(p:Int×Int):U:=.tup [.int p.1,.int p.2]
theorem nq{ok:Sto->Prop}{g:CG}{ct:CT}{ce:CE}{l:Nat}{ρ:Rho}{S:Sto}(h:ok S):b5 ok g ct ce l [] ρ S=some S:=by rw[b5,if_pos h]
theorem pZ{ok:Sto->Prop}{g:CG}{ct:CT}{ce:CE}{l:Nat}{ρ ρ0:Rho}{S S0 S1:Sto}{u:U}{us:List U}(h:ok S)(hg:g u ρ S=some (ρ0,S0))(ht:ct ρ0 S0=some (false,S1)):b5 ok g ct ce l (u::us) ρ S=b5 ok g ct ce l us ρ0 S1:=by
 rw[b5,if_pos h,hg,Q8,ht,Q8,if_neg QV]
theorem nj{ok:Sto->Prop}{g:CG}{ct:CT}{ce:CE}{l:Nat}{ρ ρ0:Rho}{S S0 S1 S2:Sto}{u x:U}{us ys:List U}(h:ok S)(hg:g u ρ S=some (ρ0,S0))(ht:ct ρ0 S0=some (true,S1))(he:ce ρ0 S1=some (x,S2))(hl:S2[l]?=some (.lst ys))(hn:ys.length<LIM) :
  b5 ok g ct ce l (u::us) ρ S=b5 ok g ct ce l us ρ0 (S2.set l (.lst (ys++[x]))):=by
 rw[b5,if_pos h,hg,Q8,ht,Q8,if_pos rfl,he,Q8];simp only[hl,hn,if_true]
def Ec(k:Nat)(S:Sto)(u v:U):Prop:=∃d,Dt S u d/\Dt S v d/\d.canLay0=true/\d.depth<=k
def yB(k:Nat)(S:Sto)(us vs:List U):Prop:=∃ds,DtL S us ds/\DtL S vs ds/\PyData.canLayAll0 ds=true/\PyData.depthAll ds<=k
section
variable{k:Nat}{S:Sto}{us vs:List U}
theorem yB.nil:yB k S [] []:=⟨[],.nil,.nil,rfl,Z5 _⟩
theorem Ec.lst{l l':Nat}(h1:S[l]?=some (.lst us))(h2:S[l']?=some (.lst vs))(h:yB k S us vs):Ec (k+1) S (.ref l) (.ref l'):=by
 obtain⟨ds,a,b,c,e⟩:=h;refine⟨.list ds,.lst h1 a,.lst h2 b,by unfold PyData.canLay0;exact c,?_⟩;unfold PyData.depth;omega
end
def fu(ak:Fn):CS:=
 (fq (cBM cR (ag 3) (af (cBM fO (ag 2) (af (cCB ak (af (ag 0) (af (cCB l5 (af (ag 2) aD)) aD))) aD)) aD)))
def dZ(ak:Fn):CS:=
 (bB (cY 2 (fU (af (cC (.int 200)) aD)))
  (bB (cY 3 (jU aD))
  (bB (nA (cX (af (ag 1) aD)) (gNm 4) (fu ak))
  (eV (ag 3)))))
theorem pV{ak:Fn}{a0 a1:U}{S:Sto}:fnU 5 2 (dZ ak) [a0,a1] S=((dZ ak) [some a0,some a1,none,none,none] S).bind kFn:=jH rfl
def dz:CS:=
 (eV (cCB g7 (af (dQ (xx (ag 0)) (gTp [0,1]) (p8 (ag 2) (ag 0) (ag 1)) 2 [1]) aD)))
theorem oj{a0 a1:U}{S:Sto}:fnU 2 2 (dz ) [a0,a1] S=((dz ) [some a0,some a1] S).bind kFn:=jH rfl
def cI(ak:Fn):CS:=
 (bB (cY 6 (cCB ak (af (ag 0) (af (cC (.int 12)) aD))))
  (bB (cY 7 (cCB ak (af (ag 0) (af (cOp fIx (ag 1) (cC (.int 0))) aD))))
  (bB (eB (aL (cOp fLt (ag 6) (cC (.int 5)))) (bB (cY 8 (cOp fIx (jU (af (cOp fIx (ag 3) (ag 7)) (af (cOp fIx (ag 3) (ag 7)) (af (cOp fIx (ag 5) (ag 7)) (af (cCB ak (af (ag 0) (af (cOp fIx (ag 1) (cC (.int 1))) aD))) aD))))) (cCB ak (af (ag 0) (af (cC (.int 4)) aD)))))
  (eV (hU (af (cC (.str "look")) (af (ag 2) (af (ag 7) (af (p8 (ag 4) (ag 7) (ag 8)) aD))))))) b6)
  (bB (eB (aL (cOp fLt (ag 6) (cC (.int 8)))) (eV (hU (af (cC (.str "put")) (af (ag 2) (af (ag 7) (af (cCB ak (af (ag 0) (af (cOp fIx (ag 1) (cC (.int 1))) aD))) aD)))))) b6)
  (eV (hU (af (cOp fIx (jU (af (cC (.str "done")) (af (cC (.str "done")) (af (cC (.str "done")) (af (cC (.str "fall")) aD))))) (cOp HH (ag 6) (cC (.int 8)))) (af (ag 2) aD))))))))
theorem pW{ak:Fn}{a0 a1 a2 a3 a4 a5:U}{S:Sto}:fnU 9 6 (cI ak) [a0,a1,a2,a3,a4,a5] S=((cI ak) [some a0,some a1,some a2,some a3,some a4,some a5,none,none,none] S).bind kFn:=jH rfl
def fe(aH ak bO bE:Fn):CS:=
 (eB (uO (aL (cOp (qS true) (ag 5) (jU aD))) (cOr (aL (cOp (qS false) (ag 8) (jU aD))) (aL (cOp fEq (cCB ak (af (ag 0) (af (cC (.int 4)) aD))) (cC (.int 0)))))) (bB (fq (cBM cR (ag 8) (af (hU (af (cBM yK (ag 5) aD) (af (ag 7) (af kA aD)))) aD)))
  (fq (cBM cR (ag 6) (af (hU (af (cC (.str "begin")) (af (cOp fIx (cOp fIx (ag 8) (q0 (cC (.int 1)))) (cC (.int 0))) aD))) aD)))) (eB (aL (cOp (qS true) (ag 8) (jU aD))) (bB (cY 10 (cCB ak (af (ag 0) (af (cCB l5 (af (ag 8) aD)) aD))))
  (bB (Ex (cOp fIx (ag 8) (ag 10)) (gTp [11,12,13]))
  (bB (fq (cBM cR (ag 6) (af (cCB bO (af (ag 0) (af (ag 1) (af (ag 11) (af (ag 12) (af (ag 13) (af (ag 7) aD))))))) aD)))
  (bB (eB (aL (cOp fEq (cOp fIx (cOp fIx (ag 6) (q0 (cC (.int 1)))) (cC (.int 0))) (cC (.str "put")))) (d5 (ag 13) (cOp fIx (cOp fIx (ag 6) (q0 (cC (.int 1)))) (cC (.int 2))) (cOp fIx (cOp fIx (ag 6) (q0 (cC (.int 1)))) (cC (.int 3)))) (eB (aL (cOp fEq (cOp fIx (cOp fIx (ag 6) (q0 (cC (.int 1)))) (cC (.int 0))) (cC (.str "done")))) (cY 7 (cCB bE (af (ag 7) (af (ag 13) aD)))) b6))
  (eB (aL (cOp (fIn false) (cOp fIx (cOp fIx (ag 6) (q0 (cC (.int 1)))) (cC (.int 0))) (hU (af (cC (.str "done")) (af (cC (.str "fall")) aD))))) (fq (cBM fO (ag 8) (af (ag 10) aD))) b6))))) b6))
def fT(aH ak bO bE:Fn):CS:=
 (bB (cY 5 (cCB aH (af (ag 0) (af (cCB ak (af (ag 0) (af (cOp ke (ag 3) (cC (.int 1))) aD))) aD))))
  (bB (cY 6 (jU aD))
  (bB (cY 7 (ag 2))
  (bB (cY 8 (jU aD))
  (bB (nA (cX (af (cCB ak (af (ag 0) (af (cOp ke (ag 4) (cC (.int 1))) aD))) aD)) (gNm 9) (fe aH ak bO bE))
  (eV (ag 6)))))))
theorem uK{aH ak bO bE:Fn}{a0 a1 a2 a3 a4:U}{S:Sto}:fnU 14 5 (fT aH ak bO bE) [a0,a1,a2,a3,a4] S=((fT aH ak bO bE) [some a0,some a1,some a2,some a3,some a4,none,none,none,none,none,none,none,none,none] S).bind kFn:=jH rfl
def bA(ah:Cl):CS:=
 (eB (aL (cOp (fIn true) (ag 2) (cOp fIx (eY ah 3 (ag 0)) (ag 1)))) (bB (fq (cBM cR (cOp fIx (eY ah 1 (ag 0)) (ag 1)) (af (hU (af (ag 2) (af (ag 3) aD))) aD)))
  (mq (cOp fIx (eY ah 2 (ag 0)) (ag 1)) (af (ag 2) (af (ag 3) aD)) (cC (.bl true)))) b6)
theorem jC{ah:Cl}{a0 a1 a2 a3:U}{S:Sto}:fnU 4 4 (bA ah) [a0,a1,a2,a3] S=((bA ah) [some a0,some a1,some a2,some a3] S).bind kFn:=jH rfl
def cU(ah:Cl):CS:=
 (bB (d5 (eY ah 4 (ag 0)) (ag 1) (kJ (eY ah 0 (ag 0)) (gNm 0) (aL (cOp fNe (cOp fIx (eY ah 0 (ag 1)) (ag 0)) (cC (.str "open")))) (ag 0) 1 [0]))
  (bB (d5 (eY ah 0 (ag 0)) (ag 1) (cC (.str "open")))
  (bB (d5 (eY ah 1 (ag 0)) (ag 1) (jU aD))
  (bB (d5 (eY ah 2 (ag 0)) (ag 1) yl)
  (d5 (eY ah 3 (ag 0)) (ag 1) kA)))))
theorem mN{ah:Cl}{a0 a1:U}{S:Sto}:fnU 2 2 (cU ah) [a0,a1] S=((cU ah) [some a0,some a1] S).bind kFn:=jH rfl
def bc(bS ba:Fn)(ah:Cl):CS:=
 (bB (cY 2 (cOp fIx (ag 1) (cC (.int 1))))
  (eB (aL (cOp fEq (cOp fIx (ag 1) (cC (.int 0))) (cC (.str "begin")))) (fq (kx ah bS (ag 0) (af (ag 2) aD))) (eB (aL (cOp fEq (cOp fIx (ag 1) (cC (.int 0))) (cC (.str "look")))) (fq (kx ah ba (ag 0) (af (ag 2) (af (cOp fIx (ag 1) (cC (.int 2))) (af (cOp fIx (ag 1) (cC (.int 3))) aD))))) (eB (aL (cOp fEq (cOp fIx (ag 1) (cC (.int 0))) (cC (.str "put")))) (d5 (cOp fIx (eY ah 3 (ag 0)) (ag 2)) (cOp fIx (ag 1) (cC (.int 2))) (cOp fIx (ag 1) (cC (.int 3)))) (d5 (eY ah 0 (ag 0)) (ag 2) (cOp fIx (ag 1) (cC (.int 0))))))))
theorem ma{bS ba:Fn}{ah:Cl}{a0 a1:U}{S:Sto}:fnU 3 2 (bc bS ba ah) [a0,a1] S=((bc bS ba ah) [some a0,some a1,none] S).bind kFn:=jH rfl
def dA(ah:Cl):CS:=
 (bB (mP ah 0 (ag 0) kA)
  (bB (mP ah 1 (ag 0) kA)
  (bB (mP ah 2 (ag 0) kA)
  (bB (mP ah 3 (ag 0) kA)
  (mP ah 4 (ag 0) kA)))))
theorem om{ah:Cl}{a0:U}{S:Sto}:fnU 1 1 (dA ah) [a0] S=((dA ah) [some a0] S).bind kFn:=jH rfl
def gv(aV bw:Fn)(ah:Cl):CS:=
 (fq (kx ah aV (ag 1) (af (ag 2) aD)))
def eU(aV bw:Fn)(ah:Cl):CS:=
 (bB (cY 1 (cCB (jS ah bw) aD))
  (bB (nA (iTp (ag 0)) (gNm 2) (gv aV bw ah))
  (eV (ag 1))))
theorem qT{aV bw:Fn}{ah:Cl}{a0:U}{S:Sto}:fnU 3 1 (eU aV bw ah) [a0] S=((eU aV bw ah) [some a0,none,none] S).bind kFn:=jH rfl
section
variable{S:Sto}{l l':Nat}{us:List U}{u:U}{i:Int}
def sM(l:Nat)(i:Int)(S:Sto):Option O->Option (U×Sto)
 |some (.lst us)=>if 0<=i/\i<us.length/\us.length<=LIM then(us[i.toNat]?).bind fun u=>some (u,S.set l (.lst (us.eraseIdx i.toNat)))else none
 |_=>none
theorem qk:fO (.ref l) [.int i] S=sM l i S S[l]?:=by
 unfold fO sM;rfl
theorem nF(h0:0<=i)(h1:i<us.length)(hL:us.length<=LIM)(hu:us[i.toNat]?=some u):sM l i S (some (.lst us))=some (u,S.set l (.lst (us.eraseIdx i.toNat))):=by
 simp only[sM];rw[if_pos ⟨h0,h1,hL⟩,hu,Q8]
def ID(l:Nat)(S:Sto):Option O->Option (U×Sto)
 |some (.lst us)=>(us[us.length-1]?).bind fun u=>some (u,S.set l (.lst us.dropLast))
 |_=>none
theorem Jb:yK (.ref l) [] S=ID l S S[l]?:=by
 unfold yK ID;rfl
theorem EU{vs:List U}:ID l S (some (.lst (vs++[u])))=some (u,S.set l (.lst vs)):=by
 unfold ID;simp
def kNg:U×Sto->Option (U×Sto)
 |(.int i,S)=>some (.int (-i),S)
 |_=>none
theorem u6{ca:CE}{ρ:Rho}:q0 ca ρ S=(ca ρ S).bind kNg:=by
 unfold q0;congr 1;funext p;obtain⟨x,S⟩:=p;cases x<;>rfl
theorem oK:kNg (.int i,S)=some (.int (-i),S):=rfl
theorem mz{vs:List U}:atI (vs++[u]) (-1)=some u:=by
 unfold atI ixN;rw[if_neg (by omega),if_pos (by rw[Q7,Qw];omega)];simp only[Q8];have e:((-1:Int)+((vs++[u]).length:Int)).toNat=vs.length:=by rw[Q7,Qw];omega
 rw[e];simp
theorem wM(neg:Bool)(h:S[l]?=some (.lst us))(h':S[l']?=some (.lst [])):qS neg (.ref l) (.ref l') S=some (.bl (if neg then !decide (us=[])else decide (us=[])),S):=by
 by_cases e:us=[]
 ·subst e;have k:=(Ec.lst (k:=0) h h' .nil);obtain⟨d,a,b,c,e⟩:=k;rw[decide_eq_true rfl];exact qR neg (.inl ⟨d,d,a,b,⟨c,Qd e (by omega)⟩,⟨c,Qd e (by omega)⟩,(SeqAt.eqv_refl d c).symm⟩)
 ·rw[decide_eq_false e];exact qR neg (.inr ⟨l,l',us,[],rfl,rfl,h,h',by simpa using e,rfl⟩)
end
theorem nh{α:Type}{l:List α}{k:Nat}(h:k<l.length):(l[k]::l.eraseIdx k).Perm l:=by
 rw[List.eraseIdx_eq_take_drop_succ];refine(List.perm_middle.symm).trans ?_;rw[List.getElem_cons_drop h,List.take_append_drop]
theorem jv{α β:Type}(f:α->β)(l:List α)(k:Nat):(l.eraseIdx k).map f=(l.map f).eraseIdx k:=by
 rw[List.eraseIdx_eq_take_drop_succ,List.eraseIdx_eq_take_drop_succ,QK,List.map_take,List.map_drop]
def ib:Fn:=fnU 5 2 (dZ d7)
theorem m8(ns:List Int)(T:Sto){x1:Option U}:∀(us:List U) (r4:Option U) (left found:List Int) {a c:Int},0<=a->0<=c->left.length+found.length=200->us.length+found.length<=200->(found++left).Nodup->(∀x∈found++left,0<=x/\x<200)->
  ∃(r4':Option U) (left' found':List Int) (a' c':Int),eA (fun _=>True) (gNm 4) (fu d7) us [some (.ref 1),x1,some (.ref (T.length+1+1)),some (.ref (T.length+1+1+1)),r4] (scr ns::pen a c::(T++[.lst (left.map U.int),.lst (found.map U.int)]))
   = some (.nx,[some (.ref 1),x1,some (.ref (T.length+1+1)),some (.ref (T.length+1+1+1)),r4'],scr ns::pen a' c'::(T++[.lst (left'.map U.int),.lst (found'.map U.int)]))/\found'.length=found.length+us.length/\found'.Nodup/\(∀x∈found',0<=x/\x<200)/\0<=a'/\0<=c'
 |[],r4,left,found,a,c,ha,hc,hl,hu,hd,hb=>⟨r4,left,found,a,c,gh trivial,by simp,(Qo.mp hd).1,fun x hx=>hb x (Qt _ hx),ha,hc⟩
 |u::us,r4,left,found,a,c,ha,hc,hl,hu,hd,hb=>by
  simp only[QU]at hu;obtain⟨f,a1,c1,e1,p1,q1,ha1,hc1⟩:=cW ns (T++[.lst (left.map U.int),.lst (found.map U.int)]) (m:=(left.length:Int)) ha hc (by omega) (l9 (by omega) (by omega));have hk:f.toNat<left.length:=by omega
  have hp:(found++[left[f.toNat]]++left.eraseIdx f.toNat).Perm (found++left):=by
   rw[Q3];refine List.Perm.append_left _ ?_;exact nh hk
  obtain⟨r4',left',found',a',c',ih,k1,k2⟩:=m8 ns T (x1:=x1) us (some u) (left.eraseIdx f.toNat) (found++[left[f.toNat]]) ha1 hc1 (by rw[List.length_eraseIdx_of_lt hk,Q7,Qw];omega) (by rw[Q7,Qw];omega) (hp.nodup_iff.mpr hd) (fun x hx=>hb x (hp.mem_iff.mp hx));refine⟨r4',left',found',a',c',(iW trivial rfl ?_).trans ih,by rw[k1,Q7,Qw,QU];omega,k2⟩;have hg:(left.map U.int)[f.toNat]?=some (.int left[f.toNat]):=by rw[QC,Q4 hk];rfl
  have h1:(left.map U.int).length<=LIM:=by unfold LIM;rw[Q6];omega
  have h2:(found.map U.int).length<LIM:=by unfold LIM;rw[Q6];omega
  rwa[fu,e1,qk,nF p1 (show f<((left.map U.int).length:Int)by rw[Q6];exact q1) h1 hg,kN h2,Q6];rw[QK,jv];rfl
theorem lh(n:Nat):cq 0 n=((Qr n).map fun i:Nat=>(i:Int)).map U.int:=by
 unfold cq;rw[QM];refine Qn fun i _=>?_;simp
theorem sv(ns:List Int)(T:Sto){a c m:Int}(ha:0<=a)(hc:0<=c)(m0:0<=m)(m1:m<=200) :
  ∃(left names:List Int) (a' c':Int),ib [.ref 1,.int m] (scr ns::pen a c::T)=some (.ref (T.length+1+1+1),scr ns::pen a' c'::(T++[.lst (left.map U.int),.lst (names.map U.int)]))/\names.length=m.toNat/\names.Nodup/\(∀x∈names,0<=x/\x<200)/\0<=a'/\0<=c':=by
 unfold ib;rw[pV];have hL:(((Qr 200).map fun i:Nat=>(i:Int))).Nodup:=List.Pairwise.map _ (fun a b h e=>h (by omega)) List.nodup_range;obtain⟨r4,left,names,a',c',e,k1,k2,k3,k4,k5⟩:=m8 ns T (x1:=some (.int m)) (cq 0 m.toNat) none ((Qr 200).map fun i:Nat=>(i:Int)) [] ha hc (by simp) (by simp[cq];omega) (by rw[Qj];exact hL) (fun x hx=>by
  rw[Qj]at hx;obtain⟨i,hi,rfl⟩:=QF.mp hx;have:=List.mem_range.mp hi;omega)
 refine⟨left,names,a',c',?_,by rw[k1];simp[cq],k2,k3,k4,k5⟩;have hr:-(2^62)<=m/\m<2^62:=by omega
 have hR:fU (af (cC (.int 200)) aD) [some (.ref 1),some (.int m),none,none,none] (scr ns::pen a c::T)=some (.ref (T.length+1+1),scr ns::pen a c::(T++[.lst (((Qr 200).map fun i:Nat=>(i:Int)).map U.int)])):=by
  rw[<-lh];rfl
 simp only[Ql]at e;rwa[dZ,hR,nA,cX,hr,if_true,and_self,Q7,e]
inductive Ev where
 |beg (a:Int)|look (a b x:Int)|put (a b x:Int)|fin (d:Bool) (a:Int)
def uF(d:Bool):Str:=if d then "done" else "fall"
def Ev.u:Ev->U
 |.beg a=>.tup [.str "begin",.int a]
 |.look a b x=>.tup [.str "look",.int a,.int b,.int x]
 |.put a b x=>.tup [.str "put",.int a,.int b,.int x]
 |.fin d a=>.tup [.str (uF d),.int a]
structure Att where
 en:Option Bool
 lk:List (Int×Int)
 nd:List (Int×Int)
 ps:List (Int×Int)
 bf:List Int
abbrev St:=List (Int×Att)
def my(st:St):Att:=⟨none,[],[],[],(st.filter fun p=>p.2.en.isSome).map (·.1)⟩
def uQ(nd:List (Int×Int))(p:Int×Int):List (Int×Int):=if p∈nd then nd else nd++[p]
def Att.ev(t:Att):Ev->Att
 |.beg _=>t
 |.look _ b x=>if (aR t.ps b).isSome then t else { t with lk:=t.lk++[(b,x)],nd:=uQ t.nd (b,x) }
 |.put _ b x=>{ t with ps:=fj t.ps b x }
 |.fin d _=>{ t with en:=some d }
def Ev.at:Ev->Int
 |.beg a=>a|.look a _ _=>a|.put a _ _=>a|.fin _ a=>a
def rM(st:St)(a:Int)(f:Att->Att):St:=st.map fun p=>if p.1=a then(p.1,f p.2)else p
def stp(st:St):Ev->St
 |.beg a=>st++[(a,my st)]
 |e=>rM st e.at fun t=>t.ev e
def aE(st:St):List Int:=st.map (·.1)
def tQ(n w:Int)(st:St):Ev->Prop
 |.beg a=>0<=a/\a<200/\a∉aE st
 |.look a b x=>(0<=b/\b<n/\0<=x/\x<w)/\∃t,aR st a=some t/\t.en=none/\(∀y,aR t.ps b=some y->y=x)
 |.put a b x=>(0<=b/\b<n/\0<=x/\x<w)/\∃t,aR st a=some t/\t.en=none
 |.fin _ a=>∃t,aR st a=some t/\t.en=none
def mG(n w:Int):St->List Ev->Prop
 |_,[]=>True
 |st,e::r=>tQ n w st e/\mG n w (stp st e) r
def bo(st:St)(es:List Ev):St:=es.foldl stp st
theorem lM{n w:Int}{e:Ev}:∀{es:List Ev} {st:St},mG n w st (es++[e])↔mG n w st es/\tQ n w (bo st es) e
 |[],st=>by simp[mG,bo]
 |x::es,st=>by
  have ih:=lM (n:=n) (w:=w) (e:=e) (es:=es) (st:=stp st x);simp only[Qk,mG,bo,List.foldl_cons]at ih ⊢;rw[ih,and_assoc]
theorem bL{st:St}{es:List Ev}{e:Ev}:bo st (es++[e])=stp (bo st es) e:=by
 unfold bo;rw[List.foldl_append];rfl
theorem jd{κ α:Type}[DecidableEq κ]{ps:List (κ×α)}{k:κ}{v:α}(h:aR ps k=some v):(k,v)∈ps:=by
 unfold aR at h;obtain⟨p,hp,rfl⟩:=Qc.mp h;have:=List.find?_some hp;have e:p.1=k:=by simpa using this
 subst e;exact List.mem_of_find?_eq_some hp
theorem eO{κ α:Type}[DecidableEq κ]{ps:List (κ×α)}{k:κ}:aR ps k=none↔k∉ps.map (·.1):=by
 unfold aR;rw[Option.map_eq_none_iff,List.find?_eq_none];simp only[decide_eq_true_eq,QF,not_exists,not_and]
theorem xb{st:St}{a:Int}{f:Att->Att}:aE (rM st a f)=aE st:=by
 unfold aE rM;rw[QM];refine Qn fun p _=>?_;simp only[Function.comp];split<;>rfl
theorem rK{st:St}{a:Int}{f:Att->Att}{b:Int}:aR (rM st a f) b=if b=a then(aR st b).map f else aR st b:=by
 unfold aR rM;induction st with
 |nil=>simp
 |cons p r ih=>
  simp only[QJ,Qp];by_cases e:p.1=b
  ·subst e;by_cases e2:p.1=a
   ·subst e2;simp
   ·simp[e2]
  ·have e3:(if p.1=a then(p.1,f p.2)else p).1=p.1:=by split<;>rfl
   rw[e3,decide_eq_false e];exact ih
theorem je{κ α:Type}[DecidableEq κ]{ps qs:List (κ×α)}{k:κ}:aR (ps++qs) k=(aR ps k).or (aR qs k):=by
 unfold aR;rw[List.find?_append];cases List.find? (fun kv=>decide (kv.1=k)) ps<;>simp
theorem iD{st:St}{e:Ev}:aE (stp st e)=match e with
  |.beg a=>aE st++[a]
  |_=>aE st:=by
 cases e with
 |beg a=>simp[stp,aE]
 |_=>simp only[stp,xb]
theorem bY{st:St}{e:Ev}{b:Int}(h:b≠e.at):aR (stp st e) b=aR st b:=by
 cases e with
 |beg a=>
  have h':a≠b:=Ne.symm h;simp[stp,je];cases aR st b with
  |some t=>rfl
  |none=>simp[aR,h']
 |_=>simp only[stp,rK,if_neg h]
theorem bx{st:St}{e:Ev}{t:Att}(h:aR st e.at=some t):aR (stp st e) e.at=some (t.ev e):=by
 cases e with
 |beg a=>simp only[stp,je,Ev.at]at h ⊢;rw[h];rfl
 |_=>simp only[stp,rK,if_pos];rw[h];rfl
theorem eM{st:St}{a:Int}(h:a∉aE st):aR (stp st (.beg a)) a=some (my st):=by
 simp only[stp,je];rw[eO.mpr h];simp[aR]
theorem fM{n w:Int}{st:St}{e:Ev}(h:(aE st).Nodup)(ok:tQ n w st e):(aE (stp st e)).Nodup:=by
 rw[iD];cases e with
 |beg a=>
  refine Qo.mpr ⟨h,by simp,fun x hx y hy e=>?_⟩;simp at hy;subst hy;subst e;exact ok.2.2 hx
 |_=>exact h
def i9:Fn:=fnU 9 6 (cI d7)
theorem Am(ns:List Int)(T:Sto){a c n w at_:Int}{seen now:List Int}{r:Nat}{ps:List (Int×Int)}(ha:0<=a)(hc:0<=c)(n0:1<=n)(n1:n<=6)(w0:2<=w)(w1:w<=1000)(hr:T[r]?=some (.dic (jI ps)))(hs:seen.length=n.toNat)(bs:∀z∈seen,0<=z/\z<w)(hn:now.length=n.toNat)(bn:∀z∈now,0<=z/\z<w)(bp:∀p∈ps,0<=p.2/\p.2<w) :
  ∃(e:Ev) (a' c':Int) (G:Sto),i9 [.ref 1,.tup [.int n,.int w],.int at_,.tup (seen.map U.int),.ref (r+1+1),.tup (now.map U.int)] (scr ns::pen a c::T)=some (e.u,scr ns::pen a' c'::(T++G))/\e.at=at_/\(∀{st:St} {t:Att},aR st at_=some t->t.en=none->t.ps=ps->tQ n w st e)/\(∀x,e≠.beg x)/\0<=a'/\0<=c':=by
 unfold i9;rw[pW];obtain⟨way,a1,c1,e1,p1,q1,ha1,hc1⟩:=cW ns T (m:=12) ha hc (by decide) (by decide +kernel);obtain⟨box,a2,c2,e2,p2,q2,ha2,hc2⟩:=cW ns T (m:=n) ha1 hc1 (by omega) (l9 (by omega) (by omega));by_cases c5:way<5
 ·obtain⟨f,a3,c3,e3,p3,q3,ha3,hc3⟩:=cW ns T (m:=w) ha2 hc2 (by omega) (l9 (by omega) (by omega));obtain⟨sb,hsb⟩:∃z,z=seen.getD box.toNat 0:=⟨_,rfl⟩;obtain⟨nb,hnb⟩:∃z,z=now.getD box.toNat 0:=⟨_,rfl⟩;obtain⟨g,a4,c4,e4,p4,q4,ha4,hc4⟩:=cW ns (T++[.lst [.int sb,.int sb,.int nb,.int f]]) (m:=4) ha3 hc3 (by decide) (by decide +kernel);have k1:=atF hs p2 q2;have k2:=atF hn p2 q2;have hb1:box.toNat<seen.length:=by omega
  have hb2:box.toNat<now.length:=by omega
  have b1:0<=sb/\sb<w:=by
   rw[hsb,Qm,Q4 hb1];exact bs _ (List.getElem_mem hb1)
  have b2:0<=nb/\nb<w:=by
   rw[hnb,Qm,Q4 hb2];exact bn _ (List.getElem_mem hb2)
  rw[<-hsb]at k1;rw[<-hnb]at k2;have pick:∃z:Int,atI [U.int sb,U.int sb,U.int nb,U.int f] g=some (.int z)/\0<=z/\z<w:=by
   have:g=0\/g=1\/g=2\/g=3:=by omega
   rcases this with rfl|rfl|rfl|rfl
   ·exact⟨sb,rfl,b1⟩
   ·exact⟨sb,rfl,b1⟩
   ·exact⟨nb,rfl,b2⟩
   ·exact⟨f,rfl,p3,q3⟩
  obtain⟨z,hz,z0,z1⟩:=pick;have hr':∀G:Sto,(T++G)[r]?=some (.dic (jI ps)):=fun G=>aq hr;obtain⟨v,hv⟩:∃v,v=(aR ps box).getD z:=⟨_,rfl⟩;have hv2:((aR ps box).map U.int).getD (.int z)=.int v:=by rw[hv];cases aR ps box<;>rfl
  refine⟨.look at_ box v,a4,c4,[.lst [.int sb,.int sb,.int nb,.int f]],?_,rfl,fun h1 h2 h3=>⟨⟨p2,q2,?_⟩,_,h1,h2,fun y hy=>?_⟩,(fun x h=>by cases h),ha4,hc4⟩
  ·rwa[cI,e1,e2,e3,e4,c5,k1,k2,hz,hr',iA,hv2,Ev.u]
  ·rw[hv];cases hq:aR ps box with
   |none=>exact⟨z0,z1⟩
   |some y=>exact bp _ (jd hq)
  ·rw[h3]at hy;rw[hv,hy];rfl
 by_cases c8:way<8
 ·obtain⟨f,a3,c3,e3,p3,q3,ha3,hc3⟩:=cW ns T (m:=w) ha2 hc2 (by omega) (l9 (by omega) (by omega));refine⟨.put at_ box f,a3,c3,[],?_,rfl,fun h1 h2 h3=>⟨⟨p2,q2,p3,q3⟩,_,h1,h2⟩,(fun x h=>by cases h),ha3,hc3⟩;rwa[cI,e1,e2,e3,c5,c8,Ev.u,QB]
 have pick:∃d:Bool,atI [U.str "done",U.str "done",U.str "done",U.str "fall"] (way-8)=some (.str (uF d)):=by
  have:way=8\/way=9\/way=10\/way=11:=by omega
  rcases this with rfl|rfl|rfl|rfl
  ·exact⟨true,rfl⟩
  ·exact⟨true,rfl⟩
  ·exact⟨true,rfl⟩
  ·exact⟨false,rfl⟩
 obtain⟨d,hd⟩:=pick;refine⟨.fin d at_,a2,c2,[.lst [.str "done",.str "done",.str "done",.str "fall"]],?_,rfl,fun h1 h2 h3=>⟨_,h1,h2⟩,(fun x h=>by cases h),ha2,hc2⟩;rwa[cI,e1,e2,c5,c8,hd,Ev.u]
def i8:Fn:=fnU 2 2 dz
theorem m7{S:Sto}{r:Nat}{ps:List (Int×Int)}(hr:S[r]?=some (.dic (jI ps))):∀(xs:List Int) (k:Nat) (ys:List Int) (r0 r1:Option U),ys.length+xs.length<=1000->
  ∃zs,gH (fun _=>True) (gTp [0,1]) (p8 (ag 2) (ag 0) (ag 1)) S.length (((xs.map U.int).zipIdx k).map fun p=>.tup [.int p.2,p.1]) [r0,r1,some (.ref r)] (S++[.lst (ys.map U.int)])=some (S++[.lst ((ys++zs).map U.int)])/\zs=beh xs ps k
 |[],k,ys,r0,r1,hl=>⟨[],by simp only[Ql,List.zipIdx_nil,QB];exact kI trivial,rfl⟩
 |x::xs,k,ys,r0,r1,hl=>by
  obtain⟨v,hv⟩:∃v,v=(aR ps (k:Int)).getD x:=⟨_,rfl⟩;have hv2:((aR ps (k:Int)).map U.int).getD (.int x)=.int v:=by rw[hv];cases aR ps (k:Int)<;>rfl
  obtain⟨zs,h2,e2⟩:=m7 hr xs (k+1) (ys++[v]) (some (.int k)) (some (.int x)) (by simp at hl ⊢;omega);refine⟨v::zs,?_,by rw[e2,hv];rfl⟩;have hr':∀G:Sto,(S++G)[r]?=some (.dic (jI ps)):=fun G=>aq hr;simp only[QJ,List.zipIdx_cons];refine(g8 (ρ0:=[some (.int k),some (.int x),some (.ref r)]) (S0:=S++[.lst (ys.map U.int)]) (S1:=S++[.lst (ys.map U.int)]) (x:=.int v) (ys:=ys.map U.int) trivial rfl ?_ ?_ (by unfold LIM;simp at hl ⊢;omega)).trans ?_
  ·rwa[hr',iA,hv2]
  ·rwa[]
  ·have e5:(S++[O.lst (ys.map U.int)]).set S.length (.lst (ys.map U.int++[U.int v]))=S++[.lst ((ys++[v]).map U.int)]:=by
    rwa[QK,QJ,Ql]
   rw[e5,h2];simp
theorem zr{S:Sto}{r:Nat}{ps:List (Int×Int)}{now:List Int}(hr:S[r]?=some (.dic (jI ps)))(hl:now.length<=1000) :
  i8 [.tup (now.map U.int),.ref r] S=some (.tup ((beh now ps 0).map U.int),S++[.lst ((beh now ps 0).map U.int)]):=by
 unfold i8;rw[oj];obtain⟨zs,h,e⟩:=m7 hr now 0 [] none none (by simpa using hl);subst e;simp only[Ql,Qj]at h;have es:El (.tup (now.map U.int)) S=some (now.map U.int,fun _=>True):=rfl;rwa[dz,dQ,xx,es,uD,kB,Qa,Z8,h]
structure Go where
 a:Int
 seen:List Int
 r:Nat
def Go.u(g:Go):U:=.tup [.int g.a,.tup (g.seen.map U.int),.ref (g.r+1+1)]
structure LgI(n w:Int)(N:Nat)(T0 T:Sto)(ln ll lg:Nat)(names:List Int)(evs:List Ev)(g:List Go)(now:List Int):Prop where
 hn:T[ln]?=some (.lst (names.map U.int))
 hl:T[ll]?=some (.lst (evs.map Ev.u))
 hg:T[lg]?=some (.lst (g.map Go.u))
 bn:T0.length<=ln
 bl:T0.length<=ll
 bg:T0.length<=lg
 n1:ln≠ll
 n2:ln≠lg
 n3:ll≠lg
 go:∀x∈g,(T0.length<=x.r/\x.r≠ln/\x.r≠ll/\x.r≠lg/\x.seen.length=n.toNat/\(∀z∈x.seen,0<=z/\z<w))/\∃t,aR (bo [] evs) x.a=some t/\t.en=none/\T[x.r]?=some (.dic (jI t.ps))
 gd:g.Pairwise fun x y=>x.r≠y.r/\x.a≠y.a
 nd:names.Nodup
 nb:∀x∈names,0<=x/\x<200/\x∉aE (bo [] evs)
 lo:mG n w [] evs
 kd:(aE (bo [] evs)).Nodup
 cnt:(bo [] evs).length+names.length<=N
 gl:g.length<=(bo [] evs).length
 nw:now.length=n.toNat
 nwb:∀z∈now,0<=z/\z<w
 pb:∀a t,aR (bo [] evs) a=some t->t.ps.length<=evs.length/\∀p∈t.ps,(0<=p.1/\p.1<n)/\0<=p.2/\p.2<w
 fr:∀i,i<T0.length->T[i]?=T0[i]?
 le:T0.length<=T.length
section
variable{n w:Int}{N:Nat}{T0 T T':Sto}{ln ll lg:Nat}{names:List Int}{evs:List Ev}{g:List Go}{now:List Int}
theorem LgI.app(h:LgI n w N T0 T ln ll lg names evs g now)(G:Sto):LgI n w N T0 (T++G) ln ll lg names evs g now:=
 { h with
  hn:=aq h.hn,hl:=aq h.hl,hg:=aq h.hg
  go:=fun x hx=>by obtain⟨k,t,h1,h2,h3⟩:=h.go x hx;exact⟨k,t,h1,h2,aq h3⟩
  fr:=fun i hi=>by rw[QZ (Qy hi h.le)];exact h.fr i hi
  le:=by rw[Q7];have:=h.le;omega }
theorem sy{κ α:Type}[DecidableEq κ]{ps:List (κ×α)}{b:κ}{v:α}{p:κ×α}(h:p∈fj ps b v):p∈ps\/p=(b,v):=by
 unfold fj at h;split at h
 ·obtain⟨q,hq,rfl⟩:=QF.mp h;split
  ·rename_i e;right;rw[<-e]
  ·exact .inl hq
 ·rcases Qg.mp h with z|z
  ·exact .inl z
  ·simp at z;exact .inr z
theorem wZ{st:St}{e:Ev}(h:∀x,e≠.beg x):(stp st e).length=st.length:=by
 cases e with
 |beg a=>exact absurd rfl (h a)
 |_=>simp[stp,rM]
theorem LgI.begin{a0:Int}(h:LgI n w N T0 T ln ll lg (names++[a0]) evs g now)(hn:T'[ln]?=some (.lst (names.map U.int)))(hl:T'[ll]?=some (.lst ((evs++[Ev.beg a0]).map Ev.u)))(hg:T'[lg]?=some (.lst ((g++[Go.mk a0 now T.length]).map Go.u)))
  (hd:T'[T.length]?=some (.dic [])) (old:∀i,i≠ln->i≠ll->i≠lg->i<T.length->T'[i]?=T[i]?) (le:T.length<=T'.length):LgI n w N T0 T' ln ll lg names (evs++[.beg a0]) (g++[⟨a0,now,T.length⟩]) now:=by
 have ha:a0∈names++[a0]:=by simp
 obtain⟨a1,a2,a3⟩:=h.nb a0 ha;have ok:tQ n w (bo [] evs) (.beg a0):=⟨a1,a2,a3⟩;have hb:=h.le;have dn:=Qo.mp h.nd;have oth:∀{x:Int},x∈aE (bo [] evs)->x≠a0:=fun hx e=>a3 (e▸hx);have vk:∀{x:Int} {t:Att},aR (bo [] evs) x=some t->x∈aE (bo [] evs):=fun e=>QF.mpr ⟨_,jd e,rfl⟩;refine { h with hn:=hn,hl:=hl,hg:=hg,nd:=dn.1,lo:=lM.mpr ⟨h.lo,ok⟩,kd:=by rw[bL];exact fM h.kd ok,go:=?go,gd:=?gd,nb:=?nb,cnt:=?cnt,gl:=?gl,pb:=?pb,fr:=?fr,le:=?le };case go=>
  intro x hx;rcases Qg.mp hx with hx|hx
  ·obtain⟨⟨k1,k2,k3,k4,k5⟩,t,h1,h2,h3⟩:=h.go x hx;refine⟨⟨k1,k2,k3,k4,k5⟩,t,?_,h2,?_⟩
   ·rw[bL,bY (show x.a≠(Ev.beg a0).at from oth (vk h1))];exact h1
   ·rw[old _ k2 k3 k4 (cG h3)];exact h3
  ·simp at hx;subst hx;have z1:=cG h.hn;have z2:=cG h.hl;have z3:=cG h.hg;refine⟨⟨hb,by dsimp only;omega,by dsimp only;omega,by dsimp only;omega,h.nw,h.nwb⟩,my (bo [] evs),?_,rfl,hd⟩;rw[bL];exact eM a3
 case gd=>
  refine List.pairwise_append.mpr ⟨h.gd,by simp,fun x hx y hy=>?_⟩;simp at hy;subst hy;obtain⟨_,t,h1,h2,h3⟩:=h.go x hx;have:=cG h3;exact⟨by dsimp only;omega,oth (vk h1)⟩
 case nb=>
  intro x hx;obtain⟨b1,b2,b3⟩:=h.nb x (Qt _ hx);refine⟨b1,b2,?_⟩;rw[bL,iD];simp only[Qg,Qh,not_or];exact⟨b3,dn.2.2 x hx a0 (by simp)⟩
 case cnt=>
  have:=h.cnt;rw[bL];simp[stp]at this ⊢;omega
 case gl=>
  have:=h.gl;rw[bL];simp[stp];omega
 case pb=>
  intro a t e;rw[bL]at e;by_cases c:a=a0
  ·subst c;rw[eM a3]at e;cases e;simp[my]
  ·rw[bY (show a≠(Ev.beg a0).at from c)]at e;obtain⟨k1,k2⟩:=h.pb a t e;exact⟨by rw[Q7];omega,k2⟩
 case fr=>
  intro i hi;have:=h.bn;have:=h.bl;have:=h.bg
  rw[old i (by omega) (by omega) (by omega) (by omega)];exact h.fr i hi
 case le=>
  omega
theorem LgI.ev{e:Ev}{x:Go}{t:Att}{g':List Go}{now':List Int}(h:LgI n w N T0 T ln ll lg names evs g now)(ht:aR (bo [] evs) x.a=some t)(ea:e.at=x.a)(ok:tQ n w (bo [] evs) e)(nb:∀y,e≠.beg y)(sub:g'.Sublist g)
  (hn:T'[ln]?=T[ln]?) (hl:T'[ll]?=some (.lst ((evs++[e]).map Ev.u))) (hg:T'[lg]?=some (.lst (g'.map Go.u)))
  (oth:∀y∈g',(y=x/\(t.ev e).en=none/\T'[y.r]?=some (.dic (jI (t.ev e).ps)))\/(y.a≠x.a/\T'[y.r]?=T[y.r]?))
  (fr:∀i,i<T0.length->T'[i]?=T[i]?) (le:T.length<=T'.length) (nw:now'.length=n.toNat) (nwb:∀z∈now',0<=z/\z<w):LgI n w N T0 T' ln ll lg names (evs++[e]) g' now':=by
 have hb:=h.le;have ks:aE (stp (bo [] evs) e)=aE (bo [] evs):=by
  rw[iD];cases e with
  |beg a=>exact absurd rfl (nb a)
  |_=>rfl
 refine { h with hn:=by rw[hn];exact h.hn,hl:=hl,hg:=hg,lo:=lM.mpr ⟨h.lo,ok⟩,kd:=by rw[bL];exact fM h.kd ok,nw:=nw,nwb:=nwb,gd:=h.gd.sublist sub,nb:=fun y hy=>by rw[bL,ks];exact h.nb y hy,fr:=fun i hi=>by rw[fr i hi];exact h.fr i hi,le:=by omega,cnt:=by rw[bL,wZ nb];exact h.cnt,gl:=by rw[bL,wZ nb];have:=h.gl;have:=sub.length_le;omega,go:=?go,pb:=?pb };case go=>
  intro y hy;obtain⟨k,u,h1,h2,h3⟩:=h.go y (sub.subset hy);refine⟨k,?_⟩;rcases oth y hy with⟨rfl,o1,o2⟩|⟨o1,o2⟩
  ·refine⟨t.ev e,?_,o1,o2⟩;rw[bL,<-ea];exact bx (by rw[ea];exact ht)
  ·refine⟨u,?_,h2,by rw[o2];exact h3⟩;rw[bL,bY (by rw[ea];exact o1)];exact h1
 case pb=>
  intro a u e1;rw[bL]at e1;by_cases c:a=e.at
  ·subst c;rw[bx (by rw[ea];exact ht)]at e1;cases e1;obtain⟨k1,k2⟩:=h.pb _ _ ht;rw[Q7,Qw];cases e with
   |beg a=>exact absurd rfl (nb a)
   |look a b v=>
    simp only[Att.ev];split
    ·exact⟨by omega,k2⟩
    ·exact⟨by dsimp only;omega,k2⟩
   |put a b v=>
    obtain⟨⟨b1,b2,b3,b4⟩,_⟩:=ok;refine⟨Qd (kF t.ps b v) (by omega),fun p hp=>?_⟩;rcases sy hp with z|z
    ·exact k2 p z
    ·subst z;exact⟨⟨b1,b2⟩,b3,b4⟩
   |fin d a=>exact⟨by simp only[Att.ev];omega,k2⟩
  ·rw[bY c]at e1;obtain⟨k1,k2⟩:=h.pb a u e1;exact⟨by rw[Q7];omega,k2⟩
end
theorem gss{S:Sto}{i:Nat}{o:O}:(S.set i o)[i]?=(S[i]?).map fun _=>o:=by
 by_cases h:i<S.length
 ·rw[ZG h,Q4 h];rfl
 ·rw[Z7 (by simpa using h),Z7 (by simpa using h)];rfl
theorem gsn{S:Sto}{i j:Nat}{o:O}(h:i≠j):(S.set i o)[j]?=S[j]?:=Qu h
def J6:CS:=(bB (fq (cBM cR (ag 8) (af (hU (af (cBM yK (ag 5) aD) (af (ag 7) (af kA aD)))) aD)))
  (fq (cBM cR (ag 6) (af (hU (af (cC (.str "begin")) (af (cOp fIx (cOp fIx (ag 8) (q0 (cC (.int 1)))) (cC (.int 0))) aD))) aD))))
def Em:CS:=(bB (eB (aL (cOp fEq (cOp fIx (cOp fIx (ag 6) (q0 (cC (.int 1)))) (cC (.int 0))) (cC (.str "put")))) (d5 (ag 13) (cOp fIx (cOp fIx (ag 6) (q0 (cC (.int 1)))) (cC (.int 2))) (cOp fIx (cOp fIx (ag 6) (q0 (cC (.int 1)))) (cC (.int 3)))) (eB (aL (cOp fEq (cOp fIx (cOp fIx (ag 6) (q0 (cC (.int 1)))) (cC (.int 0))) (cC (.str "done")))) (cY 7 (cCB i8 (af (ag 7) (af (ag 13) aD)))) b6))
  (eB (aL (cOp (fIn false) (cOp fIx (cOp fIx (ag 6) (q0 (cC (.int 1)))) (cC (.int 0))) (hU (af (cC (.str "done")) (af (cC (.str "fall")) aD))))) (fq (cBM fO (ag 8) (af (ag 10) aD))) b6))
def rEv:CS:=(bB (cY 10 (cCB d7 (af (ag 0) (af (cCB l5 (af (ag 8) aD)) aD))))
  (bB (Ex (cOp fIx (ag 8) (ag 10)) (gTp [11,12,13]))
  (bB (fq (cBM cR (ag 6) (af (cCB i9 (af (ag 0) (af (ag 1) (af (ag 11) (af (ag 12) (af (ag 13) (af (ag 7) aD))))))) aD))) Em)))
theorem La:fe ib d7 i9 i8=eB (uO (aL (cOp (qS true) (ag 5) (jU aD))) (cOr (aL (cOp (qS false) (ag 8) (jU aD))) (aL (cOp fEq (cCB d7 (af (ag 0) (af (cC (.int 4)) aD))) (cC (.int 0)))))) J6 (eB (aL (cOp (qS true) (ag 8) (jU aD))) rEv b6):=rfl
section
variable{n w:Int}{N:Nat}{T0 T T':Sto}{ln ll lg:Nat}{names:List Int}{evs:List Ev}{g:List Go}{now:List Int}{x2 x3 x4 x9 x10 x11 x12 x13:Option U}
abbrev mF(n w:Int)(ln ll lg:Nat)(now:List Int)(x2 x3 x4 x9 x10 x11 x12 x13:Option U):Rho:=[some (.ref 1),some (.tup [.int n,.int w]),x2,x3,x4,some (.ref (ln+1+1)),some (.ref (ll+1+1)),some (.tup (now.map U.int)),some (.ref (lg+1+1)),x9,x10,x11,x12,x13]
theorem Bt(ns:List Int){a c:Int}{a0:Int}(h:LgI n w N T0 T ln ll lg (names++[a0]) evs g now)(hN:N<=100)(hE:evs.length<=1000) :
  ∃T',J6 (mF n w ln ll lg now x2 x3 x4 x9 x10 x11 x12 x13) (scr ns::pen a c::T)=some (.nx,mF n w ln ll lg now x2 x3 x4 x9 x10 x11 x12 x13,scr ns::pen a c::T')/\LgI n w N T0 T' ln ll lg names (evs++[.beg a0]) (g++[⟨a0,now,T.length⟩]) now:=by
 have z1:=cG h.hn;have z2:=cG h.hl;have z3:=cG h.hg;have hG:(g.map Go.u).length<LIM:=by have:=h.gl;have:=h.cnt;unfold LIM;rw[Q6];omega
 have hV:(evs.map Ev.u).length<LIM:=by unfold LIM;rw[Q6];omega
 have u:Go.u ⟨a0,now,T.length⟩=.tup [.int a0,.tup (now.map U.int),.ref (T.length+1+1)]:=rfl;have hn:=h.hn;rw[QK,QJ,Ql]at hn;have e1:(T.set ln (.lst (names.map U.int))++[O.dic []])[lg]?=some (.lst (g.map Go.u)):=aq (by rw[gsn h.n2];exact h.hg);have e2:((T.set ln (.lst (names.map U.int))++[O.dic []]).set lg (.lst (g.map Go.u++[.tup [.int a0,.tup (now.map U.int),.ref (T.length+1+1)]])))[ll]?=some (.lst (evs.map Ev.u)):=by
  rw[gsn (Ne.symm h.n3)];exact aq (by rw[gsn h.n1];exact h.hl)
 have e3:((T.set ln (.lst (names.map U.int))++[O.dic []]).set lg (.lst (g.map Go.u++[.tup [.int a0,.tup (now.map U.int),.ref (T.length+1+1)]])))[lg]?=some (.lst (g.map Go.u++[.tup [.int a0,.tup (now.map U.int),.ref (T.length+1+1)]])):=by
  rw[gss,e1];rfl
 refine⟨((T.set ln (.lst (names.map U.int))++[O.dic []]).set lg (.lst (g.map Go.u++[U.tup [.int a0,.tup (now.map U.int),.ref (T.length+1+1)]]))).set ll (.lst (evs.map Ev.u++[U.tup [.str "begin",.int a0]])),?_,?_⟩
 ·rwa[J6,mF,h.hg,h.hl,hn,e1,e2,e3,Jb,EU,kN hG,kN hV,u6,oK,mz,List.length_set]
 ·refine h.begin ?_ ?_ ?_ ?_ (fun i i1 i2 i3 hi=>?_) (by simp)
  ·rw[gsn (Ne.symm h.n1),gsn (Ne.symm h.n2)];refine aq ?_;rw[gss,h.hn];rfl
  ·rw[gss,e2,QK];rfl
  ·rw[gsn h.n3,e3,QK,<-u];rfl
  ·rw[gsn (by omega),gsn (by omega)];have:(T.set ln (O.lst (names.map U.int))).length=T.length:=List.length_set;rw[<-this];exact ga0
  ·rw[gsn (Ne.symm i2),gsn (Ne.symm i3),QZ (by simpa using hi),gsn (Ne.symm i1)]
theorem xE:∀{x y:Go},(x.r≠y.r/\x.a≠y.a)->(y.r≠x.r/\y.a≠x.a):=fun h=>⟨Ne.symm h.1,Ne.symm h.2⟩
theorem KY{k:Nat}(hk:k<g.length)(h:g.Pairwise fun x y=>x.r≠y.r/\x.a≠y.a):(∀y∈g,y=g[k]\/(y.r≠g[k].r/\y.a≠g[k].a))/\∀y∈g.eraseIdx k,y.r≠g[k].r/\y.a≠g[k].a:=by
 have hp:=nh hk;have h1:(g[k]::g.eraseIdx k).Pairwise fun x y=>x.r≠y.r/\x.a≠y.a:=(hp.pairwise_iff xE).mpr h;have h2:=(List.pairwise_cons.mp h1).1;refine⟨fun y hy=>?_,fun y hy=>xE (h2 y hy)⟩;rcases QD.mp (hp.mem_iff.mpr hy)with z|z
 ·exact .inl z
 ·exact .inr (xE (h2 y z))
theorem tZ:decide (("look":Str)="put")=false:=by decide +kernel
theorem qr:decide (("look":Str)="done")=false:=by decide +kernel
theorem mU:decide (("done":Str)="put")=false:=by decide +kernel
theorem mT:decide (("fall":Str)="put")=false:=by decide +kernel
theorem qv:decide (("fall":Str)="done")=false:=by decide +kernel
theorem oS{x:Str}:decide (x=x)=true:=decide_eq_true rfl
theorem sT{x:Str}{S:Sto}:fIn false (.str x) (.tup [.str "done",.str "fall"]) S=some (.bl (inU (.str x) [.str "done",.str "fall"]),S):=rfl
theorem DD:inU (.str "look") [.str "done",.str "fall"]=false:=by decide +kernel
theorem Hr:inU (.str "put") [.str "done",.str "fall"]=false:=by decide +kernel
theorem DH:inU (.str "done") [.str "done",.str "fall"]=true:=by decide +kernel
theorem DG:inU (.str "fall") [.str "done",.str "fall"]=true:=by decide +kernel
theorem HY{now:List Int}{ps:List (Int×Int)}{w:Int}(h:∀z∈now,0<=z/\z<w)(hp:∀p∈ps,0<=p.2/\p.2<w)(k:Nat):∀z∈beh now ps k,0<=z/\z<w:=fun z hz=>by
 unfold beh at hz;obtain⟨p,hp',rfl⟩:=QF.mp hz;cases hv:aR ps (p.2:Int)with
 |some y=>exact hp _ (jd hv)
 |none=>exact h _ (List.fst_mem_of_mem_zipIdx hp')
theorem HL(ns:List Int){a c:Int}(ha:0<=a)(hc:0<=c)(n0:1<=n)(n1:n<=6)(w0:2<=w)(w1:w<=1000)(h:LgI n w N T0 T ln ll lg names evs g now)(hN:N<=100)(hE:evs.length<=1000)(hg:g≠[]) :
  ∃T' a' c' e g' now' y10 y11 y12 y13,rEv (mF n w ln ll lg now x2 x3 x4 x9 x10 x11 x12 x13) (scr ns::pen a c::T)=some (.nx,mF n w ln ll lg now' x2 x3 x4 x9 y10 y11 y12 y13,scr ns::pen a' c'::T')/\LgI n w N T0 T' ln ll lg names (evs++[e]) g' now'/\0<=a'/\0<=c':=by
 have hgl:=h.gl;have hct:=h.cnt;have gpos:0<g.length:=List.length_pos_iff.mpr hg;obtain⟨f,a1,c1,e1,p1,q1,ha1,hc1⟩:=cW ns T (m:=(g.length:Int)) ha hc (by omega) (l9 (by omega) (by omega));have hk:f.toNat<g.length:=by omega
 obtain⟨o1,o2⟩:=KY hk h.gd;have hx:g[f.toNat]∈g:=List.getElem_mem hk;generalize hX:g[f.toNat]=x at o1 o2 hx;obtain⟨⟨k1,k2,k3,k4,k5,k6⟩,t,t1,t2,t3⟩:=h.go x hx;obtain⟨pl,pb⟩:=h.pb _ _ t1;have hat:atI (g.map Go.u) f=some (.tup [.int x.a,.tup (x.seen.map U.int),.ref (x.r+1+1)]):=yw p1 (by rw[QC,Q4 hk,hX];rfl);obtain⟨e,a2,c2,G,e2,ea,ok,nb,ha2,hc2⟩:=Am ns T (at_:=x.a) ha1 hc1 n0 n1 w0 w1 t3 k5 k6 h.nw h.nwb fun p hp=>(pb p hp).2;have okE:=ok t1 t2 rfl;have hV:(evs.map Ev.u).length<LIM:=by unfold LIM;rw[Q6];omega
 have hGL:(g.map Go.u).length<=LIM:=by unfold LIM;rw[Q6];omega
 have hPL:(jI t.ps).length<LIM:=by unfold LIM jI;rw[Q6];omega
 have A:=h.app G;have pre:rEv (mF n w ln ll lg now x2 x3 x4 x9 x10 x11 x12 x13) (scr ns::pen a c::T)=Em (mF n w ln ll lg now x2 x3 x4 x9 (some (.int f)) (some (.int x.a)) (some (.tup (x.seen.map U.int))) (some (.ref (x.r+1+1)))) (scr ns::pen a2 c2::((T++G).set ll (.lst (evs.map Ev.u++[e.u])))):=by
  rwa[rEv,mF,h.hg,h.hl,A.hl,e1,e2,hat,kN hV,Q6]
 rw[pre];have L0:((T++G).set ll (.lst (evs.map Ev.u++[e.u])))[ll]?=some (.lst (evs.map Ev.u++[e.u])):=by rw[gss,A.hl];rfl
 have D0:((T++G).set ll (.lst (evs.map Ev.u++[e.u])))[x.r]?=some (.dic (jI t.ps)):=by rw[gsn (Ne.symm k3)];exact aq t3
 have G0:((T++G).set ll (.lst (evs.map Ev.u++[e.u])))[lg]?=some (.lst (g.map Go.u)):=by rw[gsn h.n3];exact A.hg
 have N0:((T++G).set ll (.lst (evs.map Ev.u++[e.u])))[ln]?=T[ln]?:=by rw[gsn (Ne.symm h.n1)];rw[A.hn,h.hn]
 have F0:∀i,i<T0.length->((T++G).set ll (.lst (evs.map Ev.u++[e.u])))[i]?=T[i]?:=fun i hi=>by
  have:=h.bl;have:=h.le
  rw[gsn (by omega),QZ (by omega)]
 have Y0:∀y∈g,((T++G).set ll (.lst (evs.map Ev.u++[e.u])))[y.r]?=T[y.r]?:=fun y hy=>by
  obtain⟨⟨_,_,j3,_⟩,u,_,_,u3⟩:=h.go y hy;rw[gsn (Ne.symm j3),u3];exact aq u3
 have Z0:T.length<=((T++G).set ll (.lst (evs.map Ev.u++[e.u]))).length:=by simp
 have m1:(evs++[e]).map Ev.u=evs.map Ev.u++[e.u]:=by simp
 generalize (T++G).set ll (.lst (evs.map Ev.u++[e.u]))=T1 at L0 D0 G0 N0 F0 Y0 Z0 ⊢;have hP:(g.map Go.u)[f.toNat]?=some (Go.u x):=by rw[QC,Q4 hk,hX];rfl
 have hpf:f<((g.map Go.u).length:Int):=by rw[Q6];exact q1
 cases e with
 |beg b=>exact absurd rfl (nb b)
 |look b1 b2 b3=>
  refine⟨T1,a2,c2,.look b1 b2 b3,g,now,some (.int f),some (.int x.a),some (.tup (x.seen.map U.int)),some (.ref (x.r+1+1)),?_,h.ev t1 ea okE nb (List.Sublist.refl g) N0 (by rw[m1];exact L0) G0 (fun y hy=>?_) F0 Z0 h.nw h.nwb,ha2,hc2⟩
  ·simp only[Ev.u]at L0;rwa[Em,mF,L0,u6,oK,mz,tZ,qr,sT,DD]
  ·rcases o1 y hy with rfl|z
   ·refine .inl ⟨rfl,?_,?_⟩
    ·simp only[Att.ev];split<;>exact t2
    ·rw[D0];simp only[Att.ev];split<;>rfl
   ·exact .inr ⟨z.2,Y0 y hy⟩
 |put b1 b2 b3=>
  refine⟨T1.set x.r (.dic (jI (fj t.ps b2 b3))),a2,c2,.put b1 b2 b3,g,now,some (.int f),some (.int x.a),some (.tup (x.seen.map U.int)),some (.ref (x.r+1+1)),?_,h.ev t1 ea okE nb (List.Sublist.refl g) (by rw[gsn k2];exact N0) (by rw[m1,gsn k3];exact L0) (by rw[gsn k4];exact G0) (fun y hy=>?_) (fun i hi=>by rw[gsn (by omega)];exact F0 i hi) (by simpa using Z0) h.nw h.nwb,ha2,hc2⟩
  ·simp only[Ev.u]at L0;have L1:(T1.set x.r (.dic (jI (fj t.ps b2 b3))))[ll]?=some (.lst (evs.map Ev.u++[U.tup [.str "put",.int b1,.int b2,.int b3]])):=by rw[gsn k3];exact L0
   rwa[Em,mF,L0,L1,D0,hPL,if_true,rZ,u6,oK,mz,oS,sT,Hr]
  ·rcases o1 y hy with rfl|z
   ·exact .inl ⟨rfl,t2,by rw[gss,D0];rfl⟩
   ·exact .inr ⟨z.2,by rw[gsn (Ne.symm z.1)];exact Y0 y hy⟩
 |fin d b1=>
  have bb:∀z∈beh now t.ps 0,0<=z/\z<w:=HY h.nwb (fun p hp=>(pb p hp).2) 0;have sub:(g.eraseIdx f.toNat).Sublist g:=List.eraseIdx_sublist ..;cases d with
  |true=>
   have eP:=zr (S:=scr ns::pen a2 c2::T1) (r:=x.r+1+1) (ps:=t.ps) (now:=now) (by simp only[QN];exact D0) (by have:=h.nw;omega);have L1:(T1++[O.lst ((beh now t.ps 0).map U.int)])[ll]?=some (.lst (evs.map Ev.u++[U.tup [.str "done",.int b1]])):=aq L0;have G1:(T1++[O.lst ((beh now t.ps 0).map U.int)])[lg]?=some (.lst (g.map Go.u)):=aq G0;have gl:∀i,i<T.length->(T1++[O.lst ((beh now t.ps 0).map U.int)])[i]?=T1[i]?:=fun i hi=>QZ (by omega);refine⟨(T1++[O.lst ((beh now t.ps 0).map U.int)]).set lg (.lst ((g.map Go.u).eraseIdx f.toNat)),a2,c2,.fin true b1,g.eraseIdx f.toNat,beh now t.ps 0,some (.int f),some (.int x.a),some (.tup (x.seen.map U.int)),some (.ref (x.r+1+1)),?_,h.ev t1 ea okE nb sub (by rw[gsn (Ne.symm h.n2),gl _ (cG h.hn)];exact N0) (by rw[m1,gsn (Ne.symm h.n3)];exact L1) (by rw[gss,G1,jv];rfl) (fun y hy=>?_) (fun i hi=>?_) (by simp;omega) (by rw[yr];exact h.nw) bb,ha2,hc2⟩
   ·simp only[Ev.u,uF,if_true]at L0;rwa[Em,mF,L0,L1,G1,eP,u6,oK,mz,mU,oS,sT,DH,qk,nF p1 hpf hGL hP]
   ·have hy':=sub.subset hy;obtain⟨z1,z2⟩:=o2 y hy;obtain⟨⟨_,_,_,j4,_⟩,u,_,_,u3⟩:=h.go y hy';exact .inr ⟨z2,by rw[gsn (Ne.symm j4),gl _ (cG u3)];exact Y0 y hy'⟩
   ·have:=h.bg;have:=h.le
    rw[gsn (by omega),gl i (by omega)];exact F0 i hi
  |false=>
   refine⟨T1.set lg (.lst ((g.map Go.u).eraseIdx f.toNat)),a2,c2,.fin false b1,g.eraseIdx f.toNat,now,some (.int f),some (.int x.a),some (.tup (x.seen.map U.int)),some (.ref (x.r+1+1)),?_,h.ev t1 ea okE nb sub (by rw[gsn (Ne.symm h.n2)];exact N0) (by rw[m1,gsn (Ne.symm h.n3)];exact L0) (by rw[gss,G0,jv];rfl) (fun y hy=>?_) (fun i hi=>?_) (by simpa using Z0) h.nw h.nwb,ha2,hc2⟩
   ·simp only[Ev.u,uF,Qb,if_false]at L0;rwa[Em,mF,L0,G0,u6,oK,mz,mT,qv,sT,DG,qk,nF p1 hpf hGL hP]
   ·have hy':=sub.subset hy;obtain⟨z1,z2⟩:=o2 y hy;obtain⟨⟨_,_,_,j4,_⟩,u,_,_,u3⟩:=h.go y hy';exact .inr ⟨z2,by rw[gsn (Ne.symm j4)];exact Y0 y hy'⟩
   ·have:=h.bg;have:=h.le
    rw[gsn (by omega)];exact F0 i hi
end
section
variable{n w:Int}{N:Nat}{T0:Sto}{ln ll lg:Nat}{x2 x3 x4:Option U}
theorem sE(ns:List Int)(n0:1<=n)(n1:n<=6)(w0:2<=w)(w1:w<=1000)(hN:N<=100):∀(us:List U) (T:Sto) (names:List Int) (evs:List Ev) (g:List Go) (now:List Int) (x9 x10 x11 x12 x13:Option U) {a c:Int},0<=a->0<=c->LgI n w N T0 T ln ll lg names evs g now->evs.length+us.length<=1000->
  ∃(T':Sto) (names':List Int) (evs':List Ev) (g':List Go) (now':List Int) (y9 y10 y11 y12 y13:Option U) (a' c':Int),
   eA (fun _=>True) (gNm 9) (fe ib d7 i9 i8) us (mF n w ln ll lg now x2 x3 x4 x9 x10 x11 x12 x13) (scr ns::pen a c::T)
    = some (.nx,mF n w ln ll lg now' x2 x3 x4 y9 y10 y11 y12 y13,scr ns::pen a' c'::T')/\LgI n w N T0 T' ln ll lg names' evs' g' now'/\evs'.length<=evs.length+us.length/\0<=a'/\0<=c'
 |[],T,names,evs,g,now,x9,x10,x11,x12,x13,a,c,ha,hc,I,hl=>⟨T,names,evs,g,now,x9,x10,x11,x12,x13,a,c,gh trivial,I,by simp,ha,hc⟩
 |u::us,T,names,evs,g,now,x9,x10,x11,x12,x13,a,c,ha,hc,I,hl=>by
  rw[QU]at hl;have key:∃(T1:Sto) (names1:List Int) (evs1:List Ev) (g1:List Go) (now1:List Int) (z10 z11 z12 z13:Option U) (a1 c1:Int),
    fe ib d7 i9 i8 (mF n w ln ll lg now x2 x3 x4 (some u) x10 x11 x12 x13) (scr ns::pen a c::T)=some (.nx,mF n w ln ll lg now1 x2 x3 x4 (some u) z10 z11 z12 z13,scr ns::pen a1 c1::T1)/\LgI n w N T0 T1 ln ll lg names1 evs1 g1 now1/\evs1.length<=evs.length+1/\0<=a1/\0<=c1:=by
   rw[La];have E1:=wM true (S:=scr ns::pen a c::(T++[.lst []])) (l:=ln+1+1) (l':=T.length+1+1) (us:=names.map U.int) (by simp only[QN];exact aq I.hn) (by simp only[QN,ga0];rfl);have E2:∀neg:Bool,qS neg (.ref (lg+1+1)) (.ref (T.length+1+1+1)) (scr ns::pen a c::(T++[.lst [],.lst []]))=some (.bl (if neg then !decide (g.map Go.u=[])else decide (g.map Go.u=[])),scr ns::pen a c::(T++[.lst [],.lst []])):=fun neg=>wM neg (by simp only[QN];exact aq I.hg) (by simp only[QN,ga];rfl);have dG:decide (g.map Go.u=[])=decide (g=[]):=by cases g<;>simp
   have dN:decide (names.map U.int=[])=decide (names=[]):=by cases names<;>simp
   rw[dN]at E1;rw[dG]at E2;have sub:(scr ns::pen a c::(T++[.lst []])).length=T.length+1+1+1:=by simp
   rcases List.eq_nil_or_concat names with rfl|⟨names',a0,rfl⟩
   ·by_cases gE:g=[]
    ·subst gE;refine⟨T++[.lst [],.lst []],[],evs,[],now,x10,x11,x12,x13,a,c,?_,I.app _,by omega,ha,hc⟩;rwa[mF,E1,E2,if_true,decide_true,Q7]
    ·have J:=I.app [.lst [],.lst []];obtain⟨T',a',c',e,g',now',y10,y11,y12,y13,h1,h2,h3,h4⟩:=HL (x2:=x2) (x3:=x3) (x4:=x4) (x9:=some u) (x10:=x10) (x11:=x11) (x12:=x12) (x13:=x13) ns ha hc n0 n1 w0 w1 J hN (by omega) gE;refine⟨T',_,_,_,_,y10,y11,y12,y13,a',c',?_,h2,by simp,h3,h4⟩;rw[<-h1];rwa[mF,E1,E2,gE,if_true,decide_true,Q7]
   ·have ne:names'.concat a0≠[]:=by simp
    by_cases gE:g=[]
    ·have J:=I.app [.lst [],.lst []];rw[List.concat_eq_append]at J;obtain⟨T',h1,h2⟩:=Bt (x2:=x2) (x3:=x3) (x4:=x4) (x9:=some u) (x10:=x10) (x11:=x11) (x12:=x12) (x13:=x13) ns (a:=a) (c:=c) J hN (by omega);refine⟨T',_,_,_,_,x10,x11,x12,x13,a,c,?_,h2,by simp,ha,hc⟩;rw[<-h1];rwa[mF,E1,E2,ne,gE,if_true,decide_true,Q7,Qb,if_false]
    ·obtain⟨f,a1,c1,e1,p1,q1,ha1,hc1⟩:=cW ns (T++[.lst [],.lst []]) (m:=4) ha hc (by decide) (by decide +kernel);by_cases fE:f=0
     ·have J:=I.app [.lst [],.lst []];rw[List.concat_eq_append]at J;obtain⟨T',h1,h2⟩:=Bt (x2:=x2) (x3:=x3) (x4:=x4) (x9:=some u) (x10:=x10) (x11:=x11) (x12:=x12) (x13:=x13) ns (a:=a1) (c:=c1) J hN (by omega);refine⟨T',_,_,_,_,x10,x11,x12,x13,a1,c1,?_,h2,by simp,ha1,hc1⟩;rw[<-h1];rwa[mF,E1,E2,ne,gE,e1,fE,if_true,decide_true,Q7,Qb,if_false]
     ·have J:=I.app [.lst [],.lst [],.lst []];have E3:qS true (.ref (lg+1+1)) (.ref (T.length+1+1+1+1)) (scr ns::pen a1 c1::(T++[.lst [],.lst [],.lst []]))=some (.bl true,scr ns::pen a1 c1::(T++[.lst [],.lst [],.lst []])):=by
       have z:=wM true (S:=scr ns::pen a1 c1::(T++[.lst [],.lst [],.lst []])) (l:=lg+1+1) (l':=T.length+1+1+1+1) (us:=g.map Go.u) (by simp only[QN];exact aq I.hg) (by
        simp only[QN];rw[show T.length+1+1=T.length+2 from rfl,ga];rfl)
       rw[dG,decide_eq_false gE]at z;exact z
      obtain⟨T',a',c',e,g',now',y10,y11,y12,y13,h1,h2,h3,h4⟩:=HL (x2:=x2) (x3:=x3) (x4:=x4) (x9:=some u) (x10:=x10) (x11:=x11) (x12:=x12) (x13:=x13) ns ha1 hc1 n0 n1 w0 w1 J hN (by omega) gE;refine⟨T',_,_,_,_,y10,y11,y12,y13,a',c',?_,h2,by simp,h3,h4⟩;rw[<-h1];rwa[mF,E1,E2,E3,ne,gE,e1,fE,if_true,decide_true,Q7,Qb,if_false]
  obtain⟨T1,names1,evs1,g1,now1,z10,z11,z12,z13,a1,c1,h1,I1,l1,ha1,hc1⟩:=key;obtain⟨T',names',evs',g',now',y9,y10,y11,y12,y13,a',c',h2,I2,l2,ha2,hc2⟩:=sE ns n0 n1 w0 w1 hN us T1 names1 evs1 g1 now1 (some u) z10 z11 z12 z13 ha1 hc1 I1 (by omega);exact⟨T',names',evs',g',now',y9,y10,y11,y12,y13,a',c',(iW trivial rfl h1).trans h2,I2,by rw[QU];omega,ha2,hc2⟩
end
def Ed:Fn:=fnU 14 5 (fT ib d7 i9 i8)
structure ja(n w:Int)(N:Nat)(evs:List Ev):Prop where
 lo:mG n w [] evs
 kd:(aE (bo [] evs)).Nodup
 cnt:(bo [] evs).length<=N
 pb:∀a t,aR (bo [] evs) a=some t->t.ps.length<=evs.length/\∀p∈t.ps,(0<=p.1/\p.1<n)/\0<=p.2/\p.2<w
theorem GZ (ns : List Int) (T : Sto) {a c n w most size : Int} {state : List Int} (ha : 0 <= a) (hc : 0 <= c) (n0 : 1 <= n) (n1 : n <= 6) (w0 : 2 <= w) (w1 : w <= 1000) (hs : state.length = n.toNat) (bs : ∀ z ∈ state, 0 <= z /\ z < w) (m0 : 0 <= most) (m1 : most <= 99) (s0 : 0 <= size) (s1 : size <= 900) :
    ∃(evs:List Ev) (a' c':Int) (G:Sto) (k:Nat),Ed [.ref 1,.tup [.int n,.int w],.tup (state.map U.int),.int most,.int size] (scr ns::pen a c::T)=some (.ref (T.length+k+1+1),scr ns::pen a' c'::(T++G))/\G[k]?=some (.lst (evs.map Ev.u))/\ja n w most.toNat evs/\evs.length<=size.toNat/\0<=a'/\0<=c':=by
  unfold Ed;rw[uK];obtain⟨f,a1,c1,e1,p1,q1,ha1,hc1⟩:=cW ns T (m:=most+1) ha hc (by omega) (l9 (by omega) (by omega));obtain⟨left,names,a2,c2,e2,l2,d2,b2,ha2,hc2⟩:=sv ns T ha1 hc1 p1 (by omega);obtain⟨h,a3,c3,e3,p3,q3,ha3,hc3⟩:=cW ns (T++[.lst (left.map U.int),.lst (names.map U.int),.lst [],.lst []]) (m:=size+1) ha2 hc2 (by omega) (l9 (by omega) (by omega));have I:LgI n w most.toNat T (T++[.lst (left.map U.int),.lst (names.map U.int),.lst [],.lst []]) (T.length+1) (T.length+2) (T.length+3) names [] [] state:=
    { hn:=ga,hl:=ga,hg:=ga,bn:=by omega,bl:=by omega,bg:=by omega,n1:=by omega,n2:=by omega,n3:=by omega
      go:=fun x hx=>by cases hx
      gd:=.nil,nd:=d2,nb:=fun x hx=>⟨(b2 x hx).1,(b2 x hx).2,by simp[bo,aE]⟩,lo:=trivial,kd:=by simp[bo,aE],cnt:=by simp[bo];omega,gl:=by simp,nw:=hs,nwb:=bs
      pb:=fun a t e=>by simp[bo,aR]at e
      fr:=fun i hi=>QZ hi,le:=by simp }
  obtain⟨T',names',evs',g',now',y9,y10,y11,y12,y13,a',c',e4,I4,l4,ha4,hc4⟩:=sE (x2:=some (.tup (state.map U.int))) (x3:=some (.int most)) (x4:=some (.int size)) ns n0 n1 w0 w1 (by omega) (cq 0 h.toNat) _ _ _ _ _ none none none none none ha3 hc3 I (by simp[cq];omega);obtain⟨G,rfl⟩:=HC (ls:=[]) I4.le I4.fr;have hl:=I4.hl;rw[ga]at hl;refine⟨evs',a',c',G,2,?_,hl,⟨I4.lo,I4.kd,by have:=I4.cnt;omega,I4.pb⟩,by simp[cq]at l4;omega,ha4,hc4⟩;have hr:-(2^62)<=h/\h<2^62:=by omega
  simp only[mF]at e4;rwa[fT,e1,e2,e3,nA,cX,hr,if_true,and_self,e4,Q7]
section
variable{c:Cl}{B:Nat}{E L N P F E':List (Key×U)}{X Y S:Sto}{k:Nat}{o:O}
def hd(c:Cl)(B:Nat)(E L N P F:List (Key×U)):Sto:=[.ins c [some (.ref (B+1)),some (.ref (B+2)),some (.ref (B+3)),some (.ref (B+4)),some (.ref (B+5))],.dic E,.dic L,.dic N,.dic P,.dic F]
theorem hd0:(S++(hd c B E L N P F++X))[S.length]?=some (.ins c [some (.ref (B+1)),some (.ref (B+2)),some (.ref (B+3)),some (.ref (B+4)),some (.ref (B+5))]):=by rw[ga0];rfl
theorem hd1:(S++(hd c B E L N P F++X))[S.length+1]?=some (.dic E):=by rw[ga];rfl
theorem hd2:(S++(hd c B E L N P F++X))[S.length+2]?=some (.dic L):=by rw[ga];rfl
theorem hd3:(S++(hd c B E L N P F++X))[S.length+3]?=some (.dic N):=by rw[ga];rfl
theorem hd4:(S++(hd c B E L N P F++X))[S.length+4]?=some (.dic P):=by rw[ga];rfl
theorem hd5:(S++(hd c B E L N P F++X))[S.length+5]?=some (.dic F):=by rw[ga];rfl
theorem hs1:(S++(hd c B E L N P F++X)).set (S.length+1) (.dic E')=S++(hd c B E' L N P F++X):=by rw[gs];rfl
theorem hs2:(S++(hd c B E L N P F++X)).set (S.length+2) (.dic E')=S++(hd c B E E' N P F++X):=by rw[gs];rfl
theorem hs3:(S++(hd c B E L N P F++X)).set (S.length+3) (.dic E')=S++(hd c B E L E' P F++X):=by rw[gs];rfl
theorem hs4:(S++(hd c B E L N P F++X)).set (S.length+4) (.dic E')=S++(hd c B E L N E' F++X):=by rw[gs];rfl
theorem hs5:(S++(hd c B E L N P F++X)).set (S.length+5) (.dic E')=S++(hd c B E L N P E'++X):=by rw[gs];rfl
theorem ed:(S++(hd c B E L N P F++X)).length=S.length+(6+X.length):=by simp[hd];omega
theorem hgx:(S++(hd c B E L N P F++X))[S.length+(6+k)]?=X[k]?:=by
 rw[ga,Qv (by simp[hd])];congr 1;simp[hd]
theorem hsx:(S++(hd c B E L N P F++X)).set (S.length+(6+k)) o=S++(hd c B E L N P F++X.set k o):=by
 rw[gs,List.set_append_right _ _ (by simp[hd])];congr 3;simp[hd]
theorem KU:S++(hd c B E L N P F++X)++Y=S++(hd c B E L N P F++(X++Y)):=by simp only[Q3]
end
def enS:Option Bool->Str
 |none=>"open"
 |some d=>uF d
def eX(st:St):List (Key×U):=st.map fun p=>(.inl p.1,.str (enS p.2.en))
def eW(B j:Nat)(st:St)(i:Nat):List (Key×U):=match st with
 |[]=>[]
 |p::r=>(.inl p.1,.ref (B+(6+(4*i+j))))::eW B j r (i+1)
def oI(nd:List (Int×Int)):List (List Key×U):=nd.map fun p=>([.inl p.1,.inl p.2],.bl true)
def blk(t:Att):Sto:=[.lst (t.bf.map U.int),.lst (t.lk.map pU),.dit (oI t.nd),.dic (jI t.ps)]
def mx:St->Sto
 |[]=>[]
 |p::r=>blk p.2++mx r
def crs(c:Cl)(S:Sto)(st:St):Sto:=S++(hd c S.length (eX st) (eW S.length 1 st 0) (eW S.length 2 st 0) (eW S.length 3 st 0) (eW S.length 0 st 0)++mx st)
theorem eC:∀st:St,(mx st).length=4*st.length
 |[]=>rfl
 |p::r=>by rw[mx,Q7,eC r,QU];simp[blk];omega
theorem gp:∀s r:St,mx (s++r)=mx s++mx r
 |[],r=>rfl
 |p::s,r=>by rw[Qk,mx,mx,gp s r,Q3]
theorem jB{B j:Nat}:∀(s r:St) (i:Nat),eW B j (s++r) i=eW B j s i++eW B j r (i+s.length)
 |[],r,i=>rfl
 |p::s,r,i=>by
  rw[Qk,eW,eW,jB s r (i+1),Qk,QU];congr 3;omega
theorem l7{B j:Nat}:∀(s:St) (i:Nat),(eW B j s i).map (·.1)=(aE s).map Sum.inl
 |[],i=>rfl
 |p::s,i=>by rw[eW,QJ,l7 s (i+1)];rfl
theorem l8{s:St}:(eX s).map (·.1)=(aE s).map Sum.inl:=by
 unfold eX aE;rw[QM,QM];rfl
theorem n5{ks:List Int}{a:Int}(h:a∉ks):(Sum.inl a:Key)∉ks.map Sum.inl:=fun z=>by
 obtain⟨b,hb,e⟩:=QF.mp z;cases e;exact h hb
theorem kP{κ α:Type}[DecidableEq κ]{ps qs:List (κ×α)}{k:κ}{v:α}(h:k∉ps.map (·.1)):aR (ps++(k,v)::qs) k=some v:=by
 rw[je,eO.mpr h];simp[aR]
theorem kC{κ α:Type}[DecidableEq κ]{ps:List (κ×α)}{k:κ}{v:α}(h:k∉ps.map (·.1)):fj ps k v=ps++[(k,v)]:=by
 unfold fj;rw[if_neg];simp only[List.any_eq_true,decide_eq_true_eq,not_exists,not_and];intro p hp e;exact h (QF.mpr ⟨p,hp,e⟩)
theorem zx{κ α:Type}[DecidableEq κ]{ps qs:List (κ×α)}{k:κ}{v v':α}(h:(ps++(k,v)::qs).map (·.1) |>.Nodup):fj (ps++(k,v)::qs) k v'=ps++(k,v')::qs:=by
 unfold fj;rw[if_pos (by simp)];rw[QK,QJ]at h;have h1:=Qo.mp h;have h2:=ZX.mp h1.2.1;have keep:∀{l:List (κ×α)},k∉l.map (·.1)->(l.map fun p=>if p.1=k then(p.1,v')else p)=l:=fun{l} hl=>by
  rw[Qn (g:=id) fun p hp=>?_,List.map_id];rw[if_neg fun e=>hl (QF.mpr ⟨p,hp,e⟩)];rfl
 rw[QK,QJ];rw[keep fun z=>h1.2.2 k z k Qx rfl,keep h2.1,if_pos rfl]
section
variable{c:Cl}{S:Sto}{s1 s2 st:St}{a:Int}{t t':Att}
theorem wN(h:(aE (s1++(a,t)::s2)).Nodup):a∉aE s1:=fun z=>by
 unfold aE at h z;rw[QK,QJ]at h;exact(Qo.mp h).2.2 a z a Qx rfl
theorem iw{j:Nat}(h:(aE (s1++(a,t)::s2)).Nodup):aR (eW S.length j (s1++(a,t)::s2) 0) (.inl a)=some (.ref (S.length+(6+(4*s1.length+j)))):=by
 rw[jB,eW,Nat.zero_add];exact kP (by rw[l7];exact n5 (wN h))
theorem nI(h:(aE (s1++(a,t)::s2)).Nodup):aR (eX (s1++(a,t)::s2)) (.inl a)=some (.str (enS t.en)):=by
 have e:eX (s1++(a,t)::s2)=eX s1++(Sum.inl a,U.str (enS t.en))::eX s2:=by unfold eX;rw[QK,QJ]
 rw[e];exact kP (by rw[l8];exact n5 (wN h))
theorem pN{j:Nat}:eW S.length j (s1++(a,t)::s2) 0=eW S.length j (s1++(a,t')::s2) 0:=by
 rw[jB,jB];rfl
theorem xS(h:t.en=t'.en):eX (s1++(a,t)::s2)=eX (s1++(a,t')::s2):=by
 unfold eX;rw[QK,QJ,QK,QJ,h]
theorem zu{d:Bool}(h:(aE (s1++(a,t)::s2)).Nodup)(e:t'.en=some d):fj (eX (s1++(a,t)::s2)) (.inl a) (.str (uF d))=eX (s1++(a,t')::s2):=by
 have e1:∀t:Att,eX (s1++(a,t)::s2)=eX s1++(Sum.inl a,U.str (enS t.en))::eX s2:=fun t=>by unfold eX;rw[QK,QJ]
 rw[e1,e1,e];refine zx ?_;rw[<-e1,l8];exact List.Pairwise.map _ (fun a b h e=>h (by cases e;rfl)) h
theorem D6{j:Nat}(hj:j<4):(mx (s1++(a,t)::s2))[4*s1.length+j]?=(blk t)[j]?:=by
 rw[gp,mx,Qv (by rw[eC];omega),eC,ZY,QZ (by simp[blk];omega)]
theorem D5{j:Nat}{o:O}(hj:j<4)(h:(blk t).set j o=blk t'):(mx (s1++(a,t)::s2)).set (4*s1.length+j) o=mx (s1++(a,t')::s2):=by
 rw[gp,gp,mx,mx,List.set_append_right _ _ (by rw[eC];omega),eC,ZY,List.set_append_left _ _ (by simp[blk];omega),h]
theorem mf{j:Nat}(hj:j<4):(crs c S (s1++(a,t)::s2))[S.length+(6+(4*s1.length+j))]?=(blk t)[j]?:=by
 unfold crs;rw[hgx,D6 hj]
theorem qX{j:Nat}{o:O}(hj:j<4)(he:t.en=t'.en)(h:(blk t).set j o=blk t'):(crs c S (s1++(a,t)::s2)).set (S.length+(6+(4*s1.length+j))) o=crs c S (s1++(a,t')::s2):=by
 unfold crs;rw[hsx,D5 hj h,xS he];simp only[pN (t:=t) (t':=t')]
theorem D3{d:Bool}(h:(aE (s1++(a,t)::s2)).Nodup):(crs c S (s1++(a,t)::s2)).set (S.length+1) (.dic (fj (eX (s1++(a,t)::s2)) (.inl a) (.str (uF d))))=crs c S (s1++(a,{ t with en:=some d })::s2):=by
 unfold crs;rw[hs1,zu (t':={ t with en:=some d }) h rfl];simp only[pN (t:=t) (t':={ t with en:=some d })];congr 2;rw[gp,gp];rfl
theorem jf{f:Att->Att}(h:(aE (s1++(a,t)::s2)).Nodup):rM (s1++(a,t)::s2) a f=s1++(a,f t)::s2:=by
 have h0:=h;unfold aE at h;rw[QK,QJ]at h;have h1:=Qo.mp h;have h2:=ZX.mp h1.2.1;unfold rM;have keep:∀{l:St},a∉l.map (·.1)->(l.map fun p=>if p.1=a then(p.1,f p.2)else p)=l:=fun{l} hl=>by
  rw[Qn (g:=id) fun p hp=>?_,List.map_id];rw[if_neg fun e=>hl (QF.mpr ⟨p,hp,e⟩)];rfl
 rw[QK,QJ,keep fun z=>h1.2.2 a z a Qx rfl,keep h2.1,if_pos rfl]
theorem fG{st:St}(h:aR st a=some t):∃s1 s2,st=s1++(a,t)::s2:=List.append_of_mem (jd h)
theorem cm{i:Nat}{u:U}{fus:List (Option U)}{Z:Sto}{l:Nat}(h:Z[l]?=some (.ins c fus))(hu:fus[i]?=some (some u)):gY c i (.ref l,Z)=some (u,Z):=by
 rw[AD,h,AB,hu];rfl
theorem IP{co cv:CE}{cr:CA}{ρ:Rho}{Z Z1 Z2 Z3:Sto}{u:U}{l:Nat}{us:List U}{ks:List Key}{kus:List (List Key×U)}(h1:cv ρ Z=some (u,Z1))(h2:co ρ Z1=some (.ref l,Z2))(h3:cr ρ Z2=some (us,Z3))(h4:Z3[l]?=some (.dit kus))(h5:Ip us=some ks)(h6:kus.length<LIM)(h7:us.length<=LIM) :
  mq co cr cv ρ Z=some (.nx,ρ,Z3.set l (.dit (fj kus ks u))):=by
 unfold mq;rw[h1,Q8,h2,Q8,h3,Q8];simp only[h4,h5,Q8];rw[if_pos ⟨h6,h7⟩]
theorem zt(nd:List (Int×Int))(b x:Int):fj (oI nd) [.inl b,.inl x] (.bl true)=oI (uQ nd (b,x)):=by
 have kk:∀p:Int×Int,([Sum.inl p.1,Sum.inl p.2]:List Key)=[.inl b,.inl x]↔p=(b,x):=fun p=>by
  obtain⟨p1,p2⟩:=p;simp
 unfold fj uQ;have ha:((oI nd).any fun kv=>decide (kv.1=[Sum.inl b,Sum.inl x]))=decide ((b,x)∈nd):=by
  unfold oI;induction nd with
  |nil=>rfl
  |cons p r ih=>
   simp only[QJ,Z9,ih,QD,kk];by_cases e:p=(b,x)
   ·simp[e]
   ·simp[e,Ne.symm e]
 rw[ha];by_cases m:(b,x)∈nd
 ·rw[if_pos (decide_eq_true m),if_pos m];unfold oI;rw[QM];refine Qn fun p _=>?_;simp only[Function.comp];split<;>simp_all
 ·rw[if_neg (by simpa using m),if_neg m];simp[oI]
def yD(c:Cl):Fn:=fnU 4 4 (bA c)
theorem Dm{b x:Int}(h:(aE (s1++(a,t)::s2)).Nodup)(hl:t.lk.length<=10000)(hn:t.nd.length<=10000):yD c [.ref S.length,.int a,.int b,.int x] (crs c S (s1++(a,t)::s2))=some (.non,crs c S (s1++(a,t.ev (.look a b x))::s2)):=by
 unfold yD;rw[jC];have g3:=mf (c:=c) (S:=S) (s1:=s1) (s2:=s2) (a:=a) (t:=t) (j:=3) (by omega);have g1:=mf (c:=c) (S:=S) (s1:=s1) (s2:=s2) (a:=a) (t:=t) (j:=1) (by omega);have v1:=iw (S:=S) (j:=1) h;have v2:=iw (S:=S) (j:=2) h;have v3:=iw (S:=S) (j:=3) h;have f0:∀st:St,(crs c S st)[S.length]?=some (.ins c [some (.ref (S.length+1)),some (.ref (S.length+2)),some (.ref (S.length+3)),some (.ref (S.length+4)),some (.ref (S.length+5))]):=fun st=>hd0;have f2:∀st:St,(crs c S st)[S.length+2]?=some (.dic (eW S.length 1 st 0)):=fun st=>hd2;have f3:∀st:St,(crs c S st)[S.length+3]?=some (.dic (eW S.length 2 st 0)):=fun st=>hd3;have f4:∀st:St,(crs c S st)[S.length+4]?=some (.dic (eW S.length 3 st 0)):=fun st=>hd4;have F1:∀st:St,gY c 1 (.ref S.length,crs c S st)=some (.ref (S.length+2),crs c S st):=fun st=>cm (f0 st) rfl;have F2:∀st:St,gY c 2 (.ref S.length,crs c S st)=some (.ref (S.length+3),crs c S st):=fun st=>cm (f0 st) rfl;have F3:∀st:St,gY c 3 (.ref S.length,crs c S st)=some (.ref (S.length+4),crs c S st):=fun st=>cm (f0 st) rfl;have g3':(crs c S (s1++(a,t)::s2))[S.length+(6+(4*s1.length+3))]?=some (.dic (jI t.ps)):=g3;have g1':(crs c S (s1++(a,t)::s2))[S.length+(6+(4*s1.length+1))]?=some (.lst (t.lk.map pU)):=g1;cases hv:aR t.ps b with
 |some y=>
  have e:t.ev (.look a b x)=t:=by simp[Att.ev,hv]
  rw[e];rwa[bA,F3,f4,v3,g3',iA,hv,Option.map_some,Option.isSome_some,if_true]
 |none=>
  have e:t.ev (.look a b x)={ t with lk:=t.lk++[(b,x)],nd:=uQ t.nd (b,x) }:=by simp[Att.ev,hv]
  rw[e];have hL:(t.lk.map pU).length<LIM:=by unfold LIM;rw[Q6];omega
  have s1':=qX (c:=c) (S:=S) (s1:=s1) (s2:=s2) (a:=a) (t:=t) (t':={ t with lk:=t.lk++[(b,x)] }) (j:=1) (o:=.lst (t.lk.map pU++[pU (b,x)])) (by omega) rfl (by unfold blk;rw[QK];rfl);have h':(aE (s1++(a,({ t with lk:=t.lk++[(b,x)] }:Att))::s2)).Nodup:=by unfold aE at h ⊢;rw[QK,QJ]at h ⊢;exact h
  have v2':=iw (S:=S) (j:=2) h';have g2:=mf (c:=c) (S:=S) (s1:=s1) (s2:=s2) (a:=a) (t:={ t with lk:=t.lk++[(b,x)] }) (j:=2) (by omega);have g2':(crs c S (s1++(a,({ t with lk:=t.lk++[(b,x)] }:Att))::s2))[S.length+(6+(4*s1.length+2))]?=some (.dit (oI t.nd)):=g2;have s2':=qX (c:=c) (S:=S) (s1:=s1) (s2:=s2) (a:=a) (t:={ t with lk:=t.lk++[(b,x)] }) (t':={ t with lk:=t.lk++[(b,x)],nd:=uQ t.nd (b,x) }) (j:=2) (o:=.dit (oI (uQ t.nd (b,x)))) (by omega) rfl rfl;have e3:mq (cOp fIx (eY c 2 (ag 0)) (ag 1)) (af (ag 2) (af (ag 3) aD)) (cC (.bl true)) [some (.ref S.length),some (.int a),some (.int b),some (.int x)] (crs c S (s1++(a,({ t with lk:=t.lk++[(b,x)] }:Att))::s2))=some (.nx,[some (.ref S.length),some (.int a),some (.int b),some (.int x)],crs c S (s1++(a,({ t with lk:=t.lk++[(b,x)],nd:=uQ t.nd (b,x) }:Att))::s2)):=by
   rw[IP (u:=.bl true) (us:=[.int b,.int x]) (ks:=[.inl b,.inl x]) (kus:=oI t.nd) (l:=S.length+(6+(4*s1.length+2))) (Z1:=crs c S (s1++(a,({ t with lk:=t.lk++[(b,x)] }:Att))::s2)) (Z2:=crs c S (s1++(a,({ t with lk:=t.lk++[(b,x)] }:Att))::s2)) (Z3:=crs c S (s1++(a,({ t with lk:=t.lk++[(b,x)] }:Att))::s2)) rfl ?_ rfl g2' rfl (by unfold LIM oI;rw[Q6];omega) (by unfold LIM;simp),zt,s2'];rwa[F2,f3,v2']
  have pu:pU (b,x)=.tup [.int b,.int x]:=rfl;rw[pu]at s1';rwa[bA,F1,F3,f2,f4,v1,v3,g1',g3',iA,hv,kN hL,s1',e3,Option.map_none,Option.isSome_none,Qb,if_true,if_false]
theorem DU{o:Option Bool}:decide (enS o=("open":Str))=!o.isSome:=by
 cases o with
 |none=>exact decide_eq_true rfl
 |some d=>cases d<;>(simp only[enS,uF,if_true,if_false,Qb];decide +kernel)
theorem rg{ep:Nat}{E L N P F:List (Key×U)}{X:Sto}(hE:E=eX st)(hk:(aE st).Nodup):∀(p r:St) (r0:Option U) (ys:List Int),st=p++r->ys.length+r.length<=1000->
  b5 (fun S'=>S'[S.length+1]?=some (.fdc ep E)) (gNm 0) (aL (cOp fNe (cOp fIx (eY c 0 (ag 1)) (ag 0)) (cC (.str "open")))) (ag 0) (S.length+(6+X.length)) ((eX r).map fun q=>kU q.1) [r0,some (.ref S.length)] ((S++(hd c S.length E L N P F++X)).set (S.length+1) (.fdc ep E)++[.lst (ys.map U.int)])
   = some ((S++(hd c S.length E L N P F++X)).set (S.length+1) (.fdc ep E)++[.lst ((ys++(r.filter fun p=>p.2.en.isSome).map (·.1)).map U.int)])
 |p,[],r0,ys,e,hl=>by
  have ok:((S++(hd c S.length E L N P F++X)).set (S.length+1) (.fdc ep E)++[O.lst (ys.map U.int)])[S.length+1]?=some (.fdc ep E):=aq (by rw[gss,hd1];rfl);simp only[List.filter_nil,Ql,QB];exact nq ok
 |p,(b,t)::r,r0,ys,e,hl=>by
  have hk':(aE (p++(b,t)::r)).Nodup:=by rw[<-e];exact hk
  have ok:∀ys:List Int,((S++(hd c S.length E L N P F++X)).set (S.length+1) (.fdc ep E)++[O.lst (ys.map U.int)])[S.length+1]?=some (.fdc ep E):=fun ys=>aq (by rw[gss,hd1];rfl);have i0:((S++(hd c S.length E L N P F++X)).set (S.length+1) (.fdc ep E)++[O.lst (ys.map U.int)])[S.length]?=some (.ins c [some (.ref (S.length+1)),some (.ref (S.length+2)),some (.ref (S.length+3)),some (.ref (S.length+4)),some (.ref (S.length+5))]):=aq (by rw[gsn (by omega),hd0]);have F0:gY c 0 (.ref S.length,(S++(hd c S.length E L N P F++X)).set (S.length+1) (.fdc ep E)++[O.lst (ys.map U.int)])=some (.ref (S.length+1),(S++(hd c S.length E L N P F++X)).set (S.length+1) (.fdc ep E)++[O.lst (ys.map U.int)]):=cm i0 rfl;have vE:aR E (.inl b)=some (.str (enS t.en)):=by rw[hE,e];exact nI hk'
  have kk:kU (Sum.inl b)=.int b:=rfl;have tst0:∀Z:Sto,gY c 0 (.ref S.length,Z)=some (.ref (S.length+1),Z)->Z[S.length+1]?=some (.fdc ep E)->(aL (cOp fNe (cOp fIx (eY c 0 (ag 1)) (ag 0)) (cC (.str "open")))) [some (.int b),some (.ref S.length)] Z=some (t.en.isSome,Z):=fun Z z1 z2=>by
   have z:(!decide (enS t.en=("open":Str)))=t.en.isSome:=by rw[DU,Bool.not_not]
   rwa[z1,z2,Jt,vE,z]
  have tst:=tst0 _ F0 (ok ys);have ln:((S++(hd c S.length E L N P F++X)).set (S.length+1) (.fdc ep E)).length=S.length+(6+X.length):=by rw[List.length_set,ed]
  simp only[eX,QJ,kk];cases hs:t.en.isSome with
  |false=>
   have ih:=rg (ep:=ep) (L:=L) (N:=N) (P:=P) (F:=F) (X:=X) hE hk (p++[(b,t)]) r (some (.int b)) ys (by rw[e];simp) (by simp at hl ⊢;omega);refine(pZ (ok ys) rfl (by rw[<-hs];exact tst)).trans ?_;rw[List.filter_cons_of_neg (by simpa using hs)];exact ih
  |true=>
   have ih:=rg (ep:=ep) (L:=L) (N:=N) (P:=P) (F:=F) (X:=X) hE hk (p++[(b,t)]) r (some (.int b)) (ys++[b]) (by rw[e];simp) (by simp at hl ⊢;omega);refine(nj (x:=.int b) (ys:=ys.map U.int) (ok ys) rfl (by rw[<-hs];exact tst) rfl (by rw[<-ln,ga0];rfl) (by unfold LIM;simp at hl ⊢;omega)).trans ?_;rw[List.filter_cons_of_pos (by simpa using hs)];have e5:((S++(hd c S.length E L N P F++X)).set (S.length+1) (.fdc ep E)++[O.lst (ys.map U.int)]).set (S.length+(6+X.length)) (.lst (ys.map U.int++[U.int b]))=(S++(hd c S.length E L N P F++X)).set (S.length+1) (.fdc ep E)++[.lst ((ys++[b]).map U.int)]:=by
    rw[<-ln,gs0,QK];rfl
   rw[e5];refine ih.trans ?_;simp
theorem K8(hk:(aE st).Nodup)(hl:st.length<=900)(x1:Option U):kJ (eY c 0 (ag 0)) (gNm 0) (aL (cOp fNe (cOp fIx (eY c 0 (ag 1)) (ag 0)) (cC (.str "open")))) (ag 0) 1 [0] [some (.ref S.length),x1] (crs c S st)=some (.ref (S.length+(6+4*st.length)),crs c S st++[.lst ((my st).bf.map U.int)]):=by
 have i0:(crs c S st)[S.length]?=some (.ins c [some (.ref (S.length+1)),some (.ref (S.length+2)),some (.ref (S.length+3)),some (.ref (S.length+4)),some (.ref (S.length+5))]):=hd0;have F0:gY c 0 (.ref S.length,crs c S st)=some (.ref (S.length+1),crs c S st):=cm i0 rfl;have ce:eY c 0 (ag 0) [some (.ref S.length),x1] (crs c S st)=some (.ref (S.length+1),crs c S st):=by rwa[F0]
 have ln:(crs c S st).length=S.length+(6+4*st.length):=by unfold crs;rw[ed,eC]
 have f1:(crs c S st)[S.length+1]?=some (.dic (eX st)):=hd1;unfold kJ yi;rw[ce,Q8];simp only[f1];refine AH fun ep=>?_;have h:=rg (c:=c) (S:=S) (ep:=ep) (L:=eW S.length 1 st 0) (N:=eW S.length 2 st 0) (P:=eW S.length 3 st 0) (F:=eW S.length 0 st 0) (X:=mx st) rfl hk [] st none [] rfl (by simp;omega);have e1:kB 1 [0] [some (.ref S.length),x1]=[none,some (.ref S.length)]:=rfl;rw[eC]at h;rw[e1,ln];simp only[Ql,Qj]at h;have h':b5 (fun S'=>S'[S.length+1]?=some (.fdc ep (eX st))) (gNm 0) (aL (cOp fNe (cOp fIx (eY c 0 (ag 1)) (ag 0)) (cC (.str "open")))) (ag 0) (S.length+(6+4*st.length)) ((eX st).map fun q=>kU q.1) [none,some (.ref S.length)] ((crs c S st).set (S.length+1) (.fdc ep (eX st))++[.lst []])=some ((crs c S st).set (S.length+1) (.fdc ep (eX st))++[.lst ((my st).bf.map U.int)]):=h;rw[h',Q8];have g:((crs c S st).set (S.length+1) (.fdc ep (eX st))++[O.lst ((my st).bf.map U.int)])[S.length+1]?=some (.fdc ep (eX st)):=aq (by rw[gss,f1];rfl);simp only[g];have hlt:S.length+1<(crs c S st).length:=by omega
 rw[List.set_append_left _ _ (by simpa using hlt),List.set_set];congr 3;unfold crs;rw[hs1]
def hc(c:Cl)(S:Sto)(E L N P F:List (Key×U))(X:Sto):Sto:=S++(hd c S.length E L N P F++X)
section
variable{E L N P F E':List (Key×U)}{X Y:Sto}
theorem hc0:(hc c S E L N P F X)[S.length]?=some (.ins c [some (.ref (S.length+1)),some (.ref (S.length+2)),some (.ref (S.length+3)),some (.ref (S.length+4)),some (.ref (S.length+5))]):=hd0
theorem hc1:(hc c S E L N P F X)[S.length+1]?=some (.dic E):=hd1
theorem hc2:(hc c S E L N P F X)[S.length+2]?=some (.dic L):=hd2
theorem hc3:(hc c S E L N P F X)[S.length+3]?=some (.dic N):=hd3
theorem hc4:(hc c S E L N P F X)[S.length+4]?=some (.dic P):=hd4
theorem hc5:(hc c S E L N P F X)[S.length+5]?=some (.dic F):=hd5
theorem ht1:(hc c S E L N P F X).set (S.length+1) (.dic E')=hc c S E' L N P F X:=hs1
theorem ht2:(hc c S E L N P F X).set (S.length+2) (.dic E')=hc c S E E' N P F X:=hs2
theorem ht3:(hc c S E L N P F X).set (S.length+3) (.dic E')=hc c S E L E' P F X:=hs3
theorem ht4:(hc c S E L N P F X).set (S.length+4) (.dic E')=hc c S E L N E' F X:=hs4
theorem ht5:(hc c S E L N P F X).set (S.length+5) (.dic E')=hc c S E L N P E' X:=hs5
theorem hcl:(hc c S E L N P F X).length=S.length+(6+X.length):=ed
theorem hcA:hc c S E L N P F X++Y=hc c S E L N P F (X++Y):=KU
end
def oF(c:Cl):Fn:=fnU 2 2 (cU c)
theorem xR{B j:Nat}{p:Int×Att}:eW B j (st++[p]) 0=eW B j st 0++[(.inl p.1,.ref (B+(6+(4*st.length+j))))]:=by
 rw[jB,eW,Nat.zero_add];rfl
theorem tf{B j:Nat}:∀(s:St) (i:Nat),(eW B j s i).length=s.length
 |[],_=>rfl
 |p::s,i=>by rw[eW,QU,tf s (i+1),QU]
theorem yf(hk:(aE st).Nodup)(ha:a∉aE st)(hl:st.length<=900):oF c [.ref S.length,.int a] (crs c S st)=some (.non,crs c S (st++[(a,my st)])):=by
 unfold oF;rw[mN];have B0:=K8 (c:=c) (S:=S) hk hl (some (.int a));have pr:∀j,fj (eW S.length j st 0) (.inl a) (.ref (S.length+(6+(4*st.length+j))))=eW S.length j (st++[(a,my st)]) 0:=fun j=>by
  rw[kC (by rw[l7];exact n5 ha),xR]
 have pe:fj (eX st) (.inl a) (.str "open")=eX (st++[(a,my st)]):=by
  rw[kC (by rw[l8];exact n5 ha)];unfold eX;rw[QK];rfl
 have lR:∀j,(eW S.length j st 0).length<LIM:=fun j=>by rw[tf];unfold LIM;omega
 have lE:(eX st).length<LIM:=by unfold eX LIM;rw[Q6];omega
 have l0:(mx st).length=4*st.length:=eC st;have l1:∀o:O,(mx st++[o]).length=4*st.length+1:=fun o=>by rw[Q7,l0];rfl
 have l2:∀o o':O,(mx st++[o,o']).length=4*st.length+2:=fun o o'=>by rw[Q7,l0];rfl
 have l3:∀o o' o'':O,(mx st++[o,o',o'']).length=4*st.length+3:=fun o o' o''=>by rw[Q7,l0];rfl
 have F0:∀{E L N P F:List (Key×U)} {X:Sto},gY c 0 (.ref S.length,hc c S E L N P F X)=some (.ref (S.length+1),hc c S E L N P F X):=cm hc0 rfl;have F1:∀{E L N P F:List (Key×U)} {X:Sto},gY c 1 (.ref S.length,hc c S E L N P F X)=some (.ref (S.length+2),hc c S E L N P F X):=cm hc0 rfl;have F2:∀{E L N P F:List (Key×U)} {X:Sto},gY c 2 (.ref S.length,hc c S E L N P F X)=some (.ref (S.length+3),hc c S E L N P F X):=cm hc0 rfl;have F3:∀{E L N P F:List (Key×U)} {X:Sto},gY c 3 (.ref S.length,hc c S E L N P F X)=some (.ref (S.length+4),hc c S E L N P F X):=cm hc0 rfl;have F4:∀{E L N P F:List (Key×U)} {X:Sto},gY c 4 (.ref S.length,hc c S E L N P F X)=some (.ref (S.length+5),hc c S E L N P F X):=cm hc0 rfl;have dT:∀(ρ:Rho) (Z:Sto),yl ρ Z=some (.ref Z.length,Z++[.dit []]):=fun _ _=>rfl;have fin:crs c S (st++[(a,my st)])=hc c S (eX (st++[(a,my st)])) (eW S.length 1 (st++[(a,my st)]) 0) (eW S.length 2 (st++[(a,my st)]) 0) (eW S.length 3 (st++[(a,my st)]) 0) (eW S.length 0 (st++[(a,my st)]) 0) (mx st++[.lst ((my st).bf.map U.int),.lst [],.dit [],.dic []]):=by
  unfold crs hc;rw[gp];rfl
 rw[fin];have p0:=pr 0;have p1:=pr 1;have p2:=pr 2;have p3:=pr 3;rw[Nat.add_zero]at p0;have C0:crs c S st=hc c S (eX st) (eW S.length 1 st 0) (eW S.length 2 st 0) (eW S.length 3 st 0) (eW S.length 0 st 0) (mx st):=rfl;rw[C0]at B0 ⊢;rwa[cU,B0,hcA,F0,F1,F2,F3,F4,hc1,hc2,hc3,hc4,hc5,ht1,ht2,ht3,ht4,ht5,lR,lE,if_true,p0,p1,p2,p3,pe,dT,hcl,l1,l2,l3]
def gy(c:Cl):Fn:=fnU 3 2 (bc (oF c) (yD c) c)
theorem oT:decide (("look":Str)="begin")=false:=by decide +kernel
theorem qq:decide (("put":Str)="begin")=false:=by decide +kernel
theorem tY:decide (("put":Str)="look")=false:=by decide +kernel
theorem oV:decide (("done":Str)="begin")=false:=by decide +kernel
theorem qw:decide (("done":Str)="look")=false:=by decide +kernel
theorem oU:decide (("fall":Str)="begin")=false:=by decide +kernel
theorem qt:decide (("fall":Str)="look")=false:=by decide +kernel
def Few(st:St)(m:Nat):Prop:=st.length<=m/\∀p∈st,p.2.lk.length<=m/\p.2.nd.length<=m/\p.2.ps.length<=m
theorem pJ{n w:Int}{e:Ev}{m:Nat}(hk:(aE st).Nodup)(ok:tQ n w st e)(fw:Few st m)(hm:m<=900):gy c [.ref S.length,e.u] (crs c S st)=some (.non,crs c S (stp st e)):=by
 unfold gy;rw[ma];have i0:∀st:St,(crs c S st)[S.length]?=some (.ins c [some (.ref (S.length+1)),some (.ref (S.length+2)),some (.ref (S.length+3)),some (.ref (S.length+4)),some (.ref (S.length+5))]):=fun _=>hd0;cases e with
 |beg a=>
  have h:=yf (c:=c) (S:=S) hk ok.2.2 (by have:=fw.1;omega);rwa[bc,Ev.u,oS,h,i0,stp]
 |look a b x=>
  obtain⟨_,t,h1,h2,_⟩:=ok;obtain⟨s1,s2,rfl⟩:=fG h1;obtain⟨q1,q2,q3⟩:=fw.2 _ (Qz s1 Qx);dsimp only at q1 q2;have h:=Dm (c:=c) (S:=S) (b:=b) (x:=x) hk (by omega) (by omega);rwa[bc,Ev.u,oT,oS,h,i0,stp,Ev.at,jf hk]
 |put a b x=>
  obtain⟨_,t,h1,h2⟩:=ok;obtain⟨s1,s2,rfl⟩:=fG h1;obtain⟨q1,q2,q3⟩:=fw.2 _ (Qz s1 Qx);dsimp only at q3;have F3:gY c 3 (.ref S.length,crs c S (s1++(a,t)::s2))=some (.ref (S.length+4),crs c S (s1++(a,t)::s2)):=cm hd0 rfl;have f4:(crs c S (s1++(a,t)::s2))[S.length+4]?=some (.dic (eW S.length 3 (s1++(a,t)::s2) 0)):=hd4;have v3:=iw (S:=S) (j:=3) hk;have g3:(crs c S (s1++(a,t)::s2))[S.length+(6+(4*s1.length+3))]?=some (.dic (jI t.ps)):=mf (by omega);have lp:(jI t.ps).length<LIM:=by unfold jI LIM;rw[Q6];omega
  have s3:=qX (c:=c) (S:=S) (s1:=s1) (s2:=s2) (a:=a) (t:=t) (t':=t.ev (.put a b x)) (j:=3) (o:=.dic (jI (fj t.ps b x))) (by omega) rfl rfl;rwa[bc,Ev.u,qq,tY,oS,i0,F3,f4,v3,g3,lp,if_true,rZ,s3,stp,Ev.at,jf hk]
 |fin d a=>
  obtain⟨t,h1,h2⟩:=ok;obtain⟨s1,s2,rfl⟩:=fG h1;have F0:gY c 0 (.ref S.length,crs c S (s1++(a,t)::s2))=some (.ref (S.length+1),crs c S (s1++(a,t)::s2)):=cm hd0 rfl;have f1:(crs c S (s1++(a,t)::s2))[S.length+1]?=some (.dic (eX (s1++(a,t)::s2))):=hd1;have lE:(eX (s1++(a,t)::s2)).length<LIM:=by have:=fw.1;unfold eX LIM;rw[Q6];omega
  have ce:=D3 (c:=c) (S:=S) (d:=d) hk;cases d with
  |true=>
   simp only[uF,if_true]at ce;rwa[bc,Ev.u,uF,if_true,oV,qw,mU,i0,F0,f1,lE,ce,stp,Ev.at,Att.ev,jf hk]
  |false=>
   simp only[uF,Qb,if_false]at ce;rwa[bc,Ev.u,uF,Qb,if_true,if_false,oU,qt,mT,i0,F0,f1,lE,ce,stp,Ev.at,Att.ev,jf hk]
def fB(c:Cl):Fn:=fnU 1 1 (dA c)
theorem tD(hns:c.ns.length=5):jS c (fB c) [] S=some (.ref S.length,crs c S []):=by
 rw[Az,hns];have h:fB c [.ref S.length] (S++[.ins c (Qa 5 none)])=some (.non,crs c S []):=by
  unfold fB;rw[om];rwa[dA,Qa,Q7];rfl
 rw[h];rfl
theorem xI{n w:Int}{e:Ev}{m:Nat}(hk:(aE st).Nodup)(ok:tQ n w st e)(fw:Few st m):Few (stp st e) (m+1):=by
  obtain⟨f1,f2⟩:=fw;cases e with
  | beg a=>
    refine⟨by simp[stp];omega,fun p hp=>?_⟩;rcases Qg.mp hp with z|z
    · obtain⟨q1,q2,q3⟩:=f2 p z;exact⟨by omega,by omega,by omega⟩
    · simp at z;subst z;simp[my]
  | _=>
    refine⟨by simp[stp,rM];omega,fun p hp=>?_⟩;simp only[stp,rM]at hp;obtain⟨q,hq,rfl⟩:=QF.mp hp;obtain⟨q1,q2,q3⟩:=f2 q hq;split
    · simp only[Att.ev]
      first
      | (split
         · exact⟨by omega,by omega,by omega⟩
         · refine⟨by simp;omega,?_,by dsimp only;omega⟩
           dsimp only[uQ];split
           · omega
           · simp;omega)
      |exact⟨by omega,by omega,Qd (kF ..) (by omega)⟩
      |exact⟨by omega,by omega,by omega⟩
    · exact⟨by omega,by omega,by omega⟩
def jG(c:Cl):Fn:=fnU 3 1 (eU (gy c) (fB c) c)
theorem mi{n w:Int}{x0:Option U}{ok:Sto->Prop}(hok:∀st,ok (crs c S st)):∀(es:List Ev) (st:St) (m:Nat) (r2:Option U),mG n w st es->(aE st).Nodup->Few st m->m+es.length<=900->
  ∃r2',eA ok (gNm 2) (gv (gy c) (fB c) c) (es.map Ev.u) [x0,some (.ref S.length),r2] (crs c S st)=some (.nx,[x0,some (.ref S.length),r2'],crs c S (bo st es))
 |[],st,m,r2,_,_,_,_=>⟨r2,gh (hok st)⟩
 |e::es,st,m,r2,lf,hk,fw,hm=>by
  rw[QU]at hm;obtain⟨oke,lf'⟩:=lf;obtain⟨r2',ih⟩:=mi hok es (stp st e) (m+1) (some e.u) lf' (fM hk oke) (xI hk oke fw) (by omega);refine⟨r2',(iW (hok st) rfl ?_).trans ih⟩;have h:=pJ (c:=c) (S:=S) hk oke fw (by omega);have i0:(crs c S st)[S.length]?=some (.ins c [some (.ref (S.length+1)),some (.ref (S.length+2)),some (.ref (S.length+3)),some (.ref (S.length+4)),some (.ref (S.length+5))]):=hd0;rwa[gv,i0,h]
theorem mh{n w:Int}{N:Nat}{evs:List Ev}{l:Nat}(hns:c.ns.length=5)(hl:S[l]?=some (.lst (evs.map Ev.u)))(lo:mG n w [] evs)(he:evs.length<=900):jG c [.ref l] S=some (.ref S.length,crs c S (bo [] evs)):=by
 unfold jG;rw[qT];have hok:∀st,(crs c S st)[l]?=some (.lst (evs.map Ev.u)):=fun st=>by unfold crs;exact aq hl
 obtain⟨r2,h⟩:=mi (c:=c) (S:=S) (x0:=some (.ref l)) (ok:=fun S=>S[l]?=some (.lst (evs.map Ev.u))) hok evs [] 0 none lo (by simp[aE]) ⟨by simp,by simp⟩ (by omega);rwa[eU,tD hns,nA,iTp,hok,h]
end
def jE(ah:Cl):CS:=
 (eB (aL (cOp fNe (cOp fIx (ag 2) (cOp fIx (ag 3) (cC (.int 0)))) (cOp fIx (ag 3) (cC (.int 1))))) (eV (cC (.bl false))) b6)
def nz(ah:Cl):CS:=
 (bB (yk (cOp fIx (eY ah 2 (ag 0)) (ag 1)) (gNm 3) (jE ah))
  (eV (cC (.bl true))))
theorem HR{ah:Cl}{a0 a1 a2:U}{S:Sto}:fnU 4 3 (nz ah) [a0,a1,a2] S=((nz ah) [some a0,some a1,some a2,none] S).bind kFn:=jH rfl
def cZ(ah:Cl):CS:=
 (bB (eB (aL (cOp fNe (cOp fIx (eY ah 0 (ag 0)) (ag 1)) (cC (.str "done")))) (eV (ag 2)) b6)
  (eV (cCB g7 (af (dQ (xx (ag 2)) (gTp [0,1]) (p8 (cOp fIx (eY ah 3 (ag 3)) (ag 2)) (ag 0) (ag 1)) 2 [1,0]) aD))))
theorem pO{ah:Cl}{a0 a1 a2:U}{S:Sto}:fnU 3 3 (cZ ah) [a0,a1,a2] S=((cZ ah) [some a0,some a1,some a2] S).bind kFn:=jH rfl
def En(st:St)(a:Int):List (Int×Int):=((aR st a).map (·.ps)).getD []
def yM(st:St)(a:Int):Option Bool:=(aR st a).bind (·.en)
theorem rL{κ α:Type}[DecidableEq κ]{ps:List (κ×α)}{k b:κ}{v:α}:aR (fj ps k v) b=if b=k then some v else aR ps b:=by
 by_cases m:k∈ps.map (·.1)
 ·unfold fj;rw[if_pos (by obtain⟨p,hp,e⟩:=QF.mp m;exact List.any_eq_true.mpr ⟨p,hp,by simp[e]⟩)];induction ps with
  |nil=>simp at m
  |cons p r ih=>
   unfold aR at ih ⊢;simp only[QJ,Qp];by_cases e1:p.1=k
   ·simp only[e1,if_true];by_cases e2:b=k
    ·subst e2;simp
    ·rw[decide_eq_false (Ne.symm e2),if_neg e2];by_cases m':k∈r.map (·.1)
     ·have:=ih m';rw[if_neg e2]at this;exact this
     ·rw[Qn (g:=id) fun q hq=>?_,List.map_id];rw[if_neg fun z=>m' (QF.mpr ⟨q,hq,z⟩)];rfl
   ·simp only[e1,if_false];have m':k∈r.map (·.1):=by
     rcases QD.mp m with z|z
     ·exact absurd z.symm e1
     ·exact z
    by_cases e2:p.1=b
    ·rw[decide_eq_true e2];have:b≠k:=fun z=>e1 (e2.trans z);rw[if_neg this]
    ·rw[decide_eq_false e2];exact ih m'
 ·rw[kC m,je];by_cases e2:b=k
  ·subst e2;rw[eO.mpr m,if_pos rfl];simp[aR]
  ·rw[if_neg e2];cases aR ps b with
   |some x=>rfl
   |none=>simp[aR,Ne.symm e2]
theorem fP{α:Type}{ok:Sto->Prop}{gg:CG}{ct:CT}{ce:CE}{S:Sto}{f:α->U}{p:α->Bool}{v:α->U}{Rel:Rho->Prop}(hok:∀ys G,ok (S++(.lst ys::G))) :
  ∀(xs:List α) (ys:List U) (G:Sto) (ρ:Rho),Rel ρ->ys.length+xs.length<=9999->
  (∀x∈xs,∀ys G ρ,Rel ρ->∃ρ0 G1,Rel ρ0/\gg (f x) ρ (S++(.lst ys::G))=some (ρ0,S++(.lst ys::G))/\ct ρ0 (S++(.lst ys::G))=some (p x,S++(.lst ys::(G++G1)))/\
   (p x=true->∃G2,ce ρ0 (S++(.lst ys::(G++G1)))=some (v x,S++(.lst ys::(G++G1++G2)))))->
  ∃G',b5 ok gg ct ce S.length (xs.map f) ρ (S++(.lst ys::G))=some (S++(.lst (ys++(xs.filter p).map v)::(G++G')))
 |[],ys,G,ρ,_,_,_=>⟨[],by simp only[Ql,List.filter_nil,QB];exact nq (hok ys G)⟩
 |x::xs,ys,G,ρ,hr,hl,hb=>by
  rw[QU]at hl;obtain⟨ρ0,G1,r0,h1,h2,h3⟩:=hb x Qx ys G ρ hr;have hb':=fun x (hx:x∈xs)=>hb x (Qq _ hx);cases hp:p x with
  |false=>
   rw[hp]at h2;obtain⟨G',h⟩:=fP hok xs ys (G++G1) ρ0 r0 (by omega) hb';refine⟨G1++G',?_⟩;rw[QJ,List.filter_cons_of_neg (by simp[hp])];refine(pZ (hok ys G) h1 h2).trans ?_;rw[h,Q3]
  |true=>
   rw[hp]at h2;obtain⟨G2,h4⟩:=h3 hp;obtain⟨G',h⟩:=fP hok xs (ys++[v x]) (G++G1++G2) ρ0 r0 (by simp;omega) hb';refine⟨G1++(G2++G'),?_⟩;rw[QJ,List.filter_cons_of_pos hp];refine(nj (hok ys G) h1 h2 h4 (by rw[ga0];rfl) (by unfold LIM;omega)).trans ?_;rw[gs0];simp only[List.set_cons_zero];rw[h];simp only[QJ,Q3,Qk,Qj]
theorem jD{α:Type}{ok:Sto->Prop}{gg:CG}{ce:CE}{S:Sto}{f:α->U}{v:α->U}{Rel:Rho->Prop}(hok:∀ys G,ok (S++(.lst ys::G))) :
  ∀(xs:List α) (ys:List U) (G:Sto) (ρ:Rho),Rel ρ->ys.length+xs.length<=9999->
  (∀x∈xs,∀ys G ρ,Rel ρ->∃ρ0 G1,Rel ρ0/\gg (f x) ρ (S++(.lst ys::G))=some (ρ0,S++(.lst ys::G))/\ce ρ0 (S++(.lst ys::G))=some (v x,S++(.lst ys::(G++G1))))->
  ∃G',gH ok gg ce S.length (xs.map f) ρ (S++(.lst ys::G))=some (S++(.lst (ys++xs.map v)::(G++G')))
 |[],ys,G,ρ,_,_,_=>⟨[],by simp only[Ql,QB];exact kI (hok ys G)⟩
 |x::xs,ys,G,ρ,hr,hl,hb=>by
  rw[QU]at hl;obtain⟨ρ0,G1,r0,h1,h2⟩:=hb x Qx ys G ρ hr;obtain⟨G',h⟩:=jD hok xs (ys++[v x]) (G++G1) ρ0 r0 (by simp;omega) (fun x hx=>hb x (Qq _ hx));refine⟨G1++G',?_⟩;rw[QJ];refine(g8 (hok ys G) h1 h2 (by rw[ga0];rfl) (by unfold LIM;omega)).trans ?_;rw[gs0];simp only[List.set_cons_zero];rw[h];simp only[QJ,Q3,Qk,Qj]
def LkI(n:Int)(st:St):Prop:=∀a t,aR st a=some t->(∀p∈t.lk,0<=p.1/\p.1<n)/\∀p,p∈t.nd↔p∈t.lk
theorem z4{nd:List (Int×Int)}{p q:Int×Int}:p∈uQ nd q↔p∈nd\/p=q:=by
 unfold uQ;split
 ·exact⟨.inl,fun h=>h.elim id fun e=>e▸‹_›⟩
 ·simp
theorem Ds{n w:Int}{st:St}{e:Ev}(ok:tQ n w st e)(h:LkI n st):LkI n (stp st e):=by
 intro a t ht;by_cases ea:a=e.at
 ·cases e with
  |beg b=>
   have eb:a=b:=ea;subst eb;rw[eM ok.2.2]at ht;cases ht;simp[my]
  |look b1 b2 b3=>
   have eb:a=b1:=ea;subst eb;obtain⟨bd,t0,t1,t2,t3⟩:=id ok;have:=bx (e:=.look a b2 b3) t1;simp only[Ev.at]at this;rw[this]at ht;cases ht;obtain⟨h1,h2⟩:=h a t0 t1;simp only[Att.ev];split
   ·exact⟨h1,h2⟩
   ·refine⟨fun p hp=>?_,fun p=>by rw[z4,h2];simp⟩;rcases Qg.mp hp with z|z
    ·exact h1 p z
    ·simp at z;subst z;exact⟨bd.1,bd.2.1⟩
  |put b1 b2 b3=>
   have eb:a=b1:=ea;subst eb;obtain⟨_,t0,t1,t2⟩:=id ok;have:=bx (e:=.put a b2 b3) t1;simp only[Ev.at]at this;rw[this]at ht;cases ht;exact h a t0 t1
  |fin d b1=>
   have eb:a=b1:=ea;subst eb;obtain⟨t0,t1,t2⟩:=id ok;have:=bx (e:=.fin d a) t1;simp only[Ev.at]at this;rw[this]at ht;cases ht;exact h a t0 t1
 ·rw[bY ea]at ht;exact h a t ht
theorem lN{n w:Int}:∀(es:List Ev) (st:St),mG n w st es->LkI n st->LkI n (bo st es)
 |[],st,_,h=>h
 |e::es,st,lf,h=>lN es (stp st e) lf.2 (Ds lf.1 h)
theorem Iy{n:Int}:LkI n []:=fun a t h=>by simp[aR]at h
theorem qP{n w:Int}:∀(es:List Ev) (st:St) (m:Nat),mG n w st es->(aE st).Nodup->Few st m->Few (bo st es) (m+es.length)
 |[],st,m,_,_,h=>h
 |e::es,st,m,lf,hk,h=>by
  have:=qP es (stp st e) (m+1) lf.2 (fM hk lf.1) (xI hk lf.1 h);rw[QU,show m+(es.length+1)=m+1+es.length from by omega];exact this
def chg(st:St)(a:Int)(x:List Int):List Int:=if yM st a=some true then beh x (En st a) 0 else x
def sU(x:List Int)(p:Int×Int):Bool:=decide (x.getD p.1.toNat 0=p.2)
theorem oh{o:Option Bool}:decide (enS o=("done":Str))=decide (o=some true):=by
 rcases o with _|_|_<;>decide +kernel
theorem Bz(x:List Int):uD (x.map U.int)=x.zipIdx.map fun p=>.tup [.int p.2,.int p.1]:=by
 unfold uD;rw[List.zipIdx_map,QM];rfl
section
variable{c:Cl}{n:Int}{S G:Sto}{st:St}{a:Int}{t:Att}{x:List Int}
theorem cF{i:Nat}{u:U}(h:[some (U.ref (S.length+1)),some (.ref (S.length+2)),some (.ref (S.length+3)),some (.ref (S.length+4)),some (.ref (S.length+5))][i]?=some (some u)):gY c i (.ref S.length,crs c S st++G)=some (u,crs c S st++G):=cm (aq hd0) h
theorem cB{j:Nat}(hj:j<4)(h:aR st a=some t)(hk:(aE st).Nodup):∃r,aR (eW S.length j st 0) (.inl a)=some (.ref r)/\∀G,(crs c S st++G)[r]?=(blk t)[j]?:=by
 obtain⟨s1,s2,rfl⟩:=fG h;refine⟨_,iw hk,fun G=>?_⟩;have:=mf (c:=c) (S:=S) (s1:=s1) (s2:=s2) (a:=a) (t:=t) hj;have hs:∃o,(blk t)[j]?=some o:=by
  have:j<(blk t).length:=by simpa [blk] using hj
  exact⟨_,Q4 this⟩
 obtain⟨o,ho⟩:=hs;rw[ho]at this ⊢;exact aq this
def yE(c:Cl):Fn:=fnU 4 3 (nz c)
def w8(x:List Int):List (Int×Int)->Option U->Option U
 |[],r=>r
 |p::nd,_=>if sU x p then w8 x nd (some (.tup [.int p.1,.int p.2]))else some (.tup [.int p.1,.int p.2])
theorem pK{Z:Sto}{ok:Sto->Prop}(hz:ok Z){r0 r1:Option U}(hx:x.length=n.toNat):∀(nd:List (Int×Int)) (r3:Option U),(∀p∈nd,0<=p.1/\p.1<n)->
  eA ok (gNm 3) (jE c) ((oI nd).map fun q=>.tup (q.1.map kU)) [r0,r1,some (.tup (x.map U.int)),r3] Z=some (if nd.all (sU x)then .nx else .rt (.bl false),[r0,r1,some (.tup (x.map U.int)),w8 x nd r3],Z)
 |[],r3,_=>gh hz
 |p::nd,r3,hb=>by
  obtain⟨b0,b1⟩:=hb p Qx;have kk:([Sum.inl p.1,Sum.inl p.2]:List Key).map kU=[.int p.1,.int p.2]:=rfl;have hf:atI (x.map U.int) p.1=some (.int (x.getD p.1.toNat 0)):=atF hx b0 b1;cases e:sU x p with
  |true=>
   have ih:=pK (r0:=r0) (r1:=r1) hz hx nd (some (.tup [.int p.1,.int p.2])) (fun q hq=>hb q (Qq _ hq));rw[ZV,e,Bool.true_and,w8,if_pos e];refine(iW hz rfl ?_).trans ih;have de:decide (x.getD p.1.toNat 0=p.2)=true:=e;rwa[jE,kk,hf,de]
  |false=>
   rw[ZV,e,Bool.false_and,if_neg QV,w8,if_neg (by rw[e];exact QV)];refine qI hz rfl ?_;have de:decide (x.getD p.1.toNat 0=p.2)=false:=e;rwa[jE,kk,hf,de]
theorem zj{Z:Sto}{r:Nat}{o o':O}(h:Z[r]?=some o):(Z.set r o').set r o=Z:=by
 rw[List.set_set];refine List.ext_getElem? fun i=>?_;rw[ZD];split
 ·subst i;obtain⟨h1,h2⟩:=Q5.mp h;simp[h1,h2]
 ·rfl
theorem xH(hk:(aE st).Nodup)(hv:aR st a=some t)(hb:∀p∈t.nd,0<=p.1/\p.1<n)(hx:x.length=n.toNat) :
  yE c [.ref S.length,.int a,.tup (x.map U.int)] (crs c S st++G)=some (.bl (t.nd.all (sU x)),crs c S st++G):=by
 unfold yE;rw[HR];obtain⟨r,v2,g2⟩:=cB (c:=c) (S:=S) (j:=2) (by omega) hv hk;have f3:(crs c S st++G)[S.length+3]?=some (.dic (eW S.length 2 st 0)):=aq hd3;have F2:gY c 2 (.ref S.length,crs c S st++G)=some (.ref (S.length+3),crs c S st++G):=cF rfl;have gr:(crs c S st++G)[r]?=some (.dit (oI t.nd)):=g2 G;have hr:r<(crs c S st++G).length:=(Q5.mp gr).1;have hfor:yk (cOp fIx (eY c 2 (ag 0)) (ag 1)) (gNm 3) (jE c) [some (.ref S.length),some (.int a),some (.tup (x.map U.int)),none] (crs c S st++G)=some (if t.nd.all (sU x)then .nx else .rt (.bl false),[some (.ref S.length),some (.int a),some (.tup (x.map U.int)),w8 x t.nd none],crs c S st++G):=by
  have h0:cOp fIx (eY c 2 (ag 0)) (ag 1) [some (.ref S.length),some (.int a),some (.tup (x.map U.int)),none] (crs c S st++G)=some (.ref r,crs c S st++G):=by
   rwa[F2,f3,v2]
  unfold yk;rw[h0,Q8];simp only[gr];refine AH fun ep=>?_;have key:=pK (c:=c) (n:=n) (x:=x) (r0:=some (.ref S.length)) (r1:=some (.int a)) (Z:=(crs c S st++G).set r (.fdt ep (oI t.nd))) (ok:=fun S'=>S'[r]?=some (.fdt ep (oI t.nd))) (by rw[ZD,if_pos rfl,if_pos hr]) hx t.nd none hb;rw[key,Q8];have e1:((crs c S st++G).set r (.fdt ep (oI t.nd)))[r]?=some (.fdt ep (oI t.nd)):=by rw[ZD,if_pos rfl,if_pos hr]
  simp only[e1,zj gr]
 cases hc:t.nd.all (sU x)with
 |true=>
  rw[hc,if_pos rfl]at hfor;rwa[nz,hfor]
 |false=>
  rw[hc,if_neg QV]at hfor;rwa[nz,hfor]
def Ia(c:Cl):Fn:=fnU 3 3 (cZ c)
theorem FO(hk:(aE st).Nodup)(hv:aR st a=some t)(hx:x.length<=100) :
  ∃G',Ia c [.ref S.length,.int a,.tup (x.map U.int)] (crs c S st++G)=some (.tup ((chg st a x).map U.int),crs c S st++(G++G')):=by
 unfold Ia;rw[pO];have f1:∀G,(crs c S st++G)[S.length+1]?=some (.dic (eX st)):=fun G=>aq hd1;have F0:∀G,gY c 0 (.ref S.length,crs c S st++G)=some (.ref (S.length+1),crs c S st++G):=fun G=>cF rfl;have v0:aR (eX st) (.inl a)=some (.str (enS t.en)):=by
  obtain⟨s1,s2,rfl⟩:=fG hv;exact nI hk
 have he:yM st a=t.en:=by unfold yM;rw[hv];rfl
 have hp:En st a=t.ps:=by unfold En;rw[hv];rfl
 by_cases hd:t.en=some true
 ·have hch:chg st a x=beh x t.ps 0:=by unfold chg;rw[he,if_pos hd,hp]
  obtain⟨r,v3,g3⟩:=cB (c:=c) (S:=S) (j:=3) (by omega) hv hk;have f4:∀G,(crs c S st++G)[S.length+4]?=some (.dic (eW S.length 3 st 0)):=fun G=>aq hd4;have F3:∀G,gY c 3 (.ref S.length,crs c S st++G)=some (.ref (S.length+4),crs c S st++G):=fun G=>cF rfl;have g3':∀G,(crs c S st++G)[r]?=some (.dic (jI t.ps)):=g3;obtain⟨G',h⟩:=jD (S:=crs c S st++G) (ok:=fun _=>True) (gg:=gTp [0,1]) (ce:=p8 (cOp fIx (eY c 3 (ag 3)) (ag 2)) (ag 0) (ag 1)) (f:=fun p:Int×Nat=>.tup [.int p.2,.int p.1]) (v:=fun p=>.int ((aR t.ps (p.2:Int)).getD p.1)) (Rel:=fun ρ=>∃r0 r1,ρ=[r0,r1,some (.int a),some (.ref S.length)]) (fun _ _=>trivial) x.zipIdx [] [] [none,none,some (.int a),some (.ref S.length)] ⟨_,_,rfl⟩ (by simp;omega) (fun p hp ys G2 ρ hρ=>by
   obtain⟨r0,r1,rfl⟩:=hρ;refine⟨[some (.int p.2),some (.int p.1),some (.int a),some (.ref S.length)],[],⟨_,_,rfl⟩,rfl,?_⟩;have hv2:((aR t.ps (p.2:Int)).map U.int).getD (.int p.1)=.int ((aR t.ps (p.2:Int)).getD p.1):=by cases aR t.ps (p.2:Int)<;>rfl
   rwa[F3,f4,v3,g3',iA,hv2,QB])
  have eb:(x.zipIdx.map fun p=>U.int ((aR t.ps (p.2:Int)).getD p.1))=(beh x t.ps 0).map U.int:=by unfold beh;rw[QM];rfl
  rw[eb,<-Bz]at h;simp only[Qj,Q3]at h;refine⟨.lst ((beh x t.ps 0).map U.int)::G',?_⟩;have es:∀Z:Sto,El (.tup (x.map U.int)) Z=some (x.map U.int,fun _=>True):=fun _=>rfl;have gz:∀Z:Sto,(crs c S st++(G++Z))[(crs c S st++G).length]?=Z[0]?:=fun Z=>by
   have:=ga0 (S:=crs c S st++G) (X:=Z);simp only[Q3]at this;exact this
  rw[hch];rwa[cZ,F0,f1,v0,oh,hd,dQ,xx,es,kB,Qa,Z8,h,gz]
 ·have hch:chg st a x=x:=by unfold chg;rw[he,if_neg hd]
  refine⟨[],?_⟩;rw[hch];rwa[cZ,F0,f1,v0,oh,hd,QB]
def lQ(st:St)(x:List Int)(os:List Int):List Int:=os.foldl (fun x a=>chg st a x) x
theorem oz{a:Int}:(chg st a x).length=x.length:=by unfold chg;split<;>simp[yr]
end
def fQ:CS:=
 (eV (ym (IH .int (ag 0)) (yj (IH .bool (ag 0)))))
theorem uG{a0:U}{S:Sto}:fnU 1 1 (fQ ) [a0] S=((fQ ) [some a0] S).bind kFn:=jH rfl
def eF(ah:Cl):CS:=
 (eV (IG (ag 1) (cOp fEq (cOp fIx (eY ah 0 (ag 0)) (ag 2)) (cC (.str "done")))))
theorem uI{ah:Cl}{a0 a1 a2:U}{S:Sto}:fnU 3 3 (eF ah) [a0,a1,a2] S=((eF ah) [some a0,some a1,some a2] S).bind kFn:=jH rfl
def fS(a8:Fn)(ah:Cl):CS:=
 (eV (dC (iTp (cCB fk (af (eY ah 0 (ag 0)) aD))) (gNm 0) (aL (cCB a8 (af (ag 1) (af (ag 2) (af (ag 0) aD))))) (ag 0) 1 [0,1]))
theorem uJ{a8:Fn}{ah:Cl}{a0 a1:U}{S:Sto}:fnU 2 2 (fS a8 ah) [a0,a1] S=((fS a8 ah) [some a0,some a1] S).bind kFn:=jH rfl
def ml(a9 aF:Fn):CS:=
 (eV (cCB a9 (af (cCB aF (af (ag 0) aD)) (af (ag 1) aD))))
theorem DW{a9 aF:Fn}{a0 a1:U}{S:Sto}:fnU 2 2 (ml a9 aF) [a0,a1] S=((ml a9 aF) [some a0,some a1] S).bind kFn:=jH rfl
def dE(a9 a8:Fn)(ar ah:Cl):CS:=
 (d5 (eY ar 2 (ag 0)) (ag 3) (dC (iTp (cOp fIx (eY ah 4 (ag 1)) (ag 3))) (gNm 0) (aL (cCB a8 (af (ag 1) (af (ag 2) (af (ag 0) aD))))) (ag 0) 1 [1,2]))
def dB(a9 a8:Fn)(ar ah:Cl):CS:=
 (bB (mP ar 0 (ag 0) (ag 1))
  (bB (mP ar 1 (ag 0) (cCB a9 (af (ag 1) (af (ag 2) aD))))
  (bB (mP ar 2 (ag 0) kA)
  (nA (iTp (eY ar 1 (ag 0))) (gNm 3) (dE a9 a8 ar ah)))))
theorem ow{a9 a8:Fn}{ar ah:Cl}{a0 a1 a2:U}{S:Sto}:fnU 4 3 (dB a9 a8 ar ah) [a0,a1,a2] S=((dB a9 a8 ar ah) [some a0,some a1,some a2,none] S).bind kFn:=jH rfl
def aX(lW:Fn)(ar:Cl):CS:=
 (eV (ym (cCB yL (af (dQ (iTp (cOp fIx (eY ar 2 (ag 0)) (ag 1))) (gNm 0) (cOp (fIn false) (ag 0) (ag 1)) 1 [2]) aD)) (cCB lW (af (eY ar 0 (ag 0)) (af (ag 1) (af (ag 3) aD))))))
theorem et{lW:Fn}{ar:Cl}{a0 a1 a2 a3:U}{S:Sto}:fnU 4 4 (aX lW ar) [a0,a1,a2,a3] S=((aX lW ar) [some a0,some a1,some a2,some a3] S).bind kFn:=jH rfl
def cy(aQ ax:Fn)(ar:Cl):CS:=
 (bB (eB (Br (aL (kx ar ax (ag 0) (af (ag 5) (af (ag 3) (af (ag 4) aD)))))) (eV (cC (.bl false))) b6)
  (bB (d5 (ag 3) (ag 5) (cC (.bl true)))
  (cY 4 (cCB aQ (af (eY ar 0 (ag 0)) (af (ag 5) (af (ag 4) aD)))))))
def bC(aQ ax:Fn)(ar:Cl):CS:=
 (bB (eB (aL (cOp (qS true) (cCB fk (af (ag 1) aD)) (eY ar 1 (ag 0)))) (eV (cC (.bl false))) b6)
  (bB (cY 3 kA)
  (bB (cY 4 (ag 2))
  (bB (nA (iTp (ag 1)) (gNm 5) (cy aQ ax ar))
  (eV (cC (.bl true)))))))
theorem kr{aQ ax:Fn}{ar:Cl}{a0 a1 a2:U}{S:Sto}:fnU 6 3 (bC aQ ax ar) [a0,a1,a2] S=((bC aQ ax ar) [some a0,some a1,some a2,none,none,none] S).bind kFn:=jH rfl
def fR(dM aF aZ aI:Fn)(ar:Cl):CS:=
 (bB (eB (Br (aL (cCB yL (af (dQ (iTp (ag 4)) (gNm 0) (cCB dM (af (ag 0) aD)) 1 []) aD)))) (eV (cC (.bl false))) b6)
  (eV (kx ar aZ (cCB (jS ar aI) (af (cCB aF (af (ag 2) aD)) (af (ag 3) aD))) (af (ag 4) (af (ag 1) aD)))))
theorem uH{dM aF aZ aI:Fn}{ar:Cl}{a0 a1 a2 a3 a4:U}{S:Sto}:fnU 5 5 (fR dM aF aZ aI ar) [a0,a1,a2,a3,a4] S=((fR dM aF aZ aI ar) [some a0,some a1,some a2,some a3,some a4] S).bind kFn:=jH rfl
def jF(st:St)(every:Bool)(a:Int):Bool:=every||decide (yM st a=some true)
def aS(st:St)(every:Bool):List Int:=(aW (aE st)).filter (jF st every)
def cL(st:St)(every:Bool)(t:Att):List Int:=t.bf.filter (jF st every)
section
variable{c:Cl}{n w:Int}{S G:Sto}{st:St}{a:Int}{t:Att}{every:Bool}
theorem nX(h:a∈aE st):∃t,aR st a=some t:=by
 cases hv:aR st a with
 |some t=>exact⟨t,rfl⟩
 |none=>exact absurd h (eO.mp hv)
theorem qx(h:aR st a=some t):a∈aE st:=Classical.byContradiction fun z=>by
 have:=eO.mpr z;rw[h]at this;cases this
def fA(c:Cl):Fn:=fnU 3 3 (eF c)
theorem sO(hk:(aE st).Nodup)(hv:aR st a=some t):fA c [.ref S.length,.bl every,.int a] (crs c S st++G)=some (.bl (jF st every a),crs c S st++G):=by
 unfold fA;rw[uI];have f1:(crs c S st++G)[S.length+1]?=some (.dic (eX st)):=aq hd1;have F0:gY c 0 (.ref S.length,crs c S st++G)=some (.ref (S.length+1),crs c S st++G):=cF rfl;have v0:aR (eX st) (.inl a)=some (.str (enS t.en)):=by
  obtain⟨s1,s2,rfl⟩:=fG hv;exact nI hk
 have he:yM st a=t.en:=by unfold yM;rw[hv];rfl
 cases every with
 |true=>
  have e:jF st true a=true:=rfl;rw[e];rwa[eF]
 |false=>
  have e:jF st false a=decide (t.en=some true):=by unfold jF;rw[he,Bool.false_or]
  rw[e];rwa[eF,F0,f1,v0,oh]
theorem m9:∀st:St,uk (eX st)=some (aE st)
 |[]=>rfl
 |p::r=>by
  have ih:=m9 r;unfold eX aE at ih ⊢;rw[QJ,uk,ih];rfl
def fW(c:Cl):Fn:=fnU 2 2 (fS (fA c) c)
theorem nB(hk:(aE st).Nodup)(hl:st.length<64):∃G' k,fW c [.ref S.length,.bl every] (crs c S st++G)=some (.ref ((crs c S st++G).length+k),crs c S st++(G++G'))/\G'[k]?=some (.lst ((aS st every).map U.int)):=by
 unfold fW;rw[uJ];have f1:(crs c S st++G)[S.length+1]?=some (.dic (eX st)):=aq hd1;have F0:gY c 0 (.ref S.length,crs c S st++G)=some (.ref (S.length+1),crs c S st++G):=cF rfl;have hlk:(aE st).length<64:=by unfold aE;rw[Q6];exact hl
 have hs:fk [.ref (S.length+1)] (crs c S st++G)=some (.ref (crs c S st++G).length,crs c S st++G++[.lst ((aW (aE st)).map U.int)]):=by
  simp only[fk,f1,m9,Q8,hlk,if_true]
 have hsl:(aW (aE st)).length<64:=by rw[(aN _).length_eq];exact hlk
 obtain⟨G',h⟩:=fP (S:=crs c S st++G++[.lst ((aW (aE st)).map U.int)]) (ok:=fun Y=>Y[(crs c S st++G).length]?=some (.lst ((aW (aE st)).map U.int))) (gg:=gNm 0) (ct:=aL (cCB (fA c) (af (ag 1) (af (ag 2) (af (ag 0) aD))))) (ce:=ag 0) (f:=U.int) (p:=jF st every) (v:=U.int) (Rel:=fun ρ=>∃r0,ρ=[r0,some (.ref S.length),some (.bl every)]) (fun ys G=>aq (by rw[ga0];rfl)) (aW (aE st)) [] [] [none,some (.ref S.length),some (.bl every)] ⟨_,rfl⟩ (by simp;omega) (fun b hb ys G2 ρ hρ=>by
   obtain⟨r0,rfl⟩:=hρ;obtain⟨t,hv⟩:=nX ((aN _).mem_iff.mp hb);have h1:=sO (c:=c) (S:=S) (G:=G++([.lst ((aW (aE st)).map U.int)]++(.lst ys::G2))) (every:=every) hk hv;simp only[Qk,Qj]at h1;refine⟨[some (.int b),some (.ref S.length),some (.bl every)],[],⟨_,rfl⟩,rfl,?_,fun _=>⟨[],?_⟩⟩
   ·rwa[h1,QB]
   ·rwa[QB])
 refine⟨[.lst ((aW (aE st)).map U.int)]++(.lst ((aS st every).map U.int)::G'),1,?_,rfl⟩;have g0:(crs c S st++G++[O.lst ((aW (aE st)).map U.int)])[(crs c S st++G).length]?=some (.lst ((aW (aE st)).map U.int)):=by rw[ga0];rfl
 have hc:cCB fk (af (eY c 0 (ag 0)) aD) [some (.ref S.length),some (.bl every)] (crs c S st++G)=some (.ref (crs c S st++G).length,crs c S st++G++[.lst ((aW (aE st)).map U.int)]):=by
  rwa[F0];rw[hs];simp only[Q3]
 have hcomp:dC (iTp (cCB fk (af (eY c 0 (ag 0)) aD))) (gNm 0) (aL (cCB (fA c) (af (ag 1) (af (ag 2) (af (ag 0) aD))))) (ag 0) 1 [0,1] [some (.ref S.length),some (.bl every)] (crs c S st++G)=some (.ref ((crs c S st++G).length+1),crs c S st++G++[.lst ((aW (aE st)).map U.int)]++(.lst ((aS st every).map U.int)::G')):=by
  unfold dC iTp;rw[hc,Q8];have ln:(crs c S st++G++[O.lst ((aW (aE st)).map U.int)]).length=(crs c S st++G).length+1:=by rw[Q7];rfl
  rw[ln]at h;simp only[Qj]at h;simp only[g0,Q8,kB,Qa,QJ,Ql,ZZ,QN,Z8,Qk,Qj,ln,h];rfl
 rwa[fS,hcomp]
def oG(c:Cl):Fn:=fnU 2 2 (ml (fW c) (jG c))
theorem yy{N:Nat}{evs:List Ev}{l:Nat}(hns:c.ns.length=5)(hl:S[l]?=some (.lst (evs.map Ev.u)))(lg:ja n w N evs)(he:evs.length<=900)(hN:N<64) :
  ∃G' k,oG c [.ref l,.bl every] S=some (.ref (S.length+k),S++G')/\G'[k]?=some (.lst ((aS (bo [] evs) every).map U.int)):=by
 unfold oG;rw[DW];have h1:=mh (c:=c) (N:=N) hns hl lg.lo he;obtain⟨G',k,h2,g2⟩:=nB (c:=c) (S:=S) (G:=[]) (every:=every) lg.kd (ZR lg.cnt hN);simp only[QB,Qj]at h2;obtain⟨C,hC⟩:∃C,crs c S (bo [] evs)=S++C:=⟨_,rfl⟩;refine⟨C++G',C.length+k,?_,?_⟩
 ·have ln:(crs c S (bo [] evs)).length+k=S.length+(C.length+k):=by rw[hC,Q7];omega
  rw[ln]at h2;rw[<-Q3,<-hC];rwa[ml,h1,h2]
 ·rw[Qv (by omega),ZY];exact g2
end
def BfI(st:St):Prop:=∀a t,aR st a=some t->(∀b∈t.bf,b∈aE st/\b≠a)/\t.bf.Nodup
theorem bf0{st:St}:(my st).bf=(st.filter fun p=>p.2.en.isSome).map (·.1):=rfl
theorem D7{n w:Int}{st:St}{e:Ev}(hk:(aE st).Nodup)(ok:tQ n w st e)(h:BfI st):BfI (stp st e):=by
 have sub:∀b,b∈aE st->b∈aE (stp st e):=fun b hb=>by
  rw[iD];cases e with
  |beg a=>exact Qt _ hb
  |_=>exact hb
 intro a t ht;by_cases ea:a=e.at
 ·cases e with
  |beg b=>
   have eb:a=b:=ea;subst eb;rw[eM ok.2.2]at ht;cases ht;rw[bf0];refine⟨fun b hb=>?_,?_⟩
   ·obtain⟨p,hp,rfl⟩:=QF.mp hb;have hm:p.1∈aE st:=QF.mpr ⟨p,(Z6.mp hp).1,rfl⟩;exact⟨sub _ hm,fun z=>ok.2.2 (z▸hm)⟩
   ·have:((st.filter fun p=>p.2.en.isSome).map (·.1)).Sublist (st.map (·.1)):=List.Sublist.map _ List.filter_sublist;exact List.Nodup.sublist this hk
  |look b1 b2 b3=>
   have eb:a=b1:=ea;subst eb;obtain⟨bd,t0,t1,t2,t3⟩:=id ok;have:=bx (e:=.look a b2 b3) t1;simp only[Ev.at]at this;rw[this]at ht;cases ht;have q:=h a t0 t1;have e1:(t0.ev (.look a b2 b3)).bf=t0.bf:=by simp only[Att.ev];split<;>rfl
   rw[e1];exact⟨fun b hb=>⟨sub b (q.1 b hb).1,(q.1 b hb).2⟩,q.2⟩
  |put b1 b2 b3=>
   have eb:a=b1:=ea;subst eb;obtain⟨_,t0,t1,t2⟩:=id ok;have:=bx (e:=.put a b2 b3) t1;simp only[Ev.at]at this;rw[this]at ht;cases ht;have q:=h a t0 t1;exact⟨fun b hb=>⟨sub b (q.1 b hb).1,(q.1 b hb).2⟩,q.2⟩
  |fin d b1=>
   have eb:a=b1:=ea;subst eb;obtain⟨t0,t1,t2⟩:=id ok;have:=bx (e:=.fin d a) t1;simp only[Ev.at]at this;rw[this]at ht;cases ht;have q:=h a t0 t1;exact⟨fun b hb=>⟨sub b (q.1 b hb).1,(q.1 b hb).2⟩,q.2⟩
 ·rw[bY ea]at ht;have q:=h a t ht;exact⟨fun b hb=>⟨sub b (q.1 b hb).1,(q.1 b hb).2⟩,q.2⟩
theorem oB{n w:Int}:∀(es:List Ev) (st:St),mG n w st es->(aE st).Nodup->BfI st->BfI (bo st es)
 |[],st,_,_,h=>h
 |e::es,st,lf,hk,h=>oB es (stp st e) lf.2 (fM hk lf.1) (D7 hk lf.1 h)
theorem K9:BfI []:=fun a t h=>by simp[aR]at h
theorem yq{st:St}(hk:(aE st).Nodup)(h:BfI st){a:Int}{t:Att}(hv:aR st a=some t):t.bf.length<=st.length:=by
 have:=List.Nodup.length_le_of_subset (h a t hv).2 (l₂:=aE st) fun b hb=>((h a t hv).1 b hb).1;unfold aE at this;rwa[Q6]at this
section
variable{c cA:Cl}{S G:Sto}{st:St}{a:Int}{t:Att}{every:Bool}
def ie(c cA:Cl):Fn:=fnU 4 3 (dB (fW c) (fA c) cA c)
def Ef(st:St)(every:Bool)(B:Nat)(as:List Int)(D:List (Key×U))(R:Sto):Prop:=∀a t,a∈as->aR st a=some t->∃r,aR D (.inl a)=some (.ref (B+r))/\R[r]?=some (.lst ((cL st every t).map U.int))
theorem wL{Z R:Sto}{D:List (Key×U)}{fus:List (Option U)}{L B:Nat}(hk:(aE st).Nodup)(bi:BfI st)(hl:st.length<=100)(hv:aR st a=some t)(hZ:∃C,Z=crs c S st++C)(hL:Z[L]?=some (.ins cA fus))(hf:fus[2]?=some (some (.ref Z.length)))(hD:D.length<1000) :
  ∃R',dE (fW c) (fA c) cA c [some (.ref L),some (.ref S.length),some (.bl every),some (.int a)] (Z++(.dic D::R))=some (.nx,[some (.ref L),some (.ref S.length),some (.bl every),some (.int a)],Z++(.dic (fj D (.inl a) (.ref (Z.length+1+R.length)))::(R++(.lst ((cL st every t).map U.int)::R')))):=by
 obtain⟨C,rfl⟩:=hZ;obtain⟨r,v0,g0⟩:=cB (c:=c) (S:=S) (j:=0) (by omega) hv hk;have F4:gY c 4 (.ref S.length,crs c S st++(C++(.dic D::R)))=some (.ref (S.length+5),crs c S st++(C++(.dic D::R))):=cF rfl;have f5:(crs c S st++(C++(O.dic D::R)))[S.length+5]?=some (.dic (eW S.length 0 st 0)):=aq hd5;have gr:∀X,(crs c S st++X)[r]?=some (.lst (t.bf.map U.int)):=g0;have bl:=yq hk bi hv;obtain⟨R',h⟩:=fP (S:=crs c S st++C++(.dic D::R)) (ok:=fun Y=>Y[r]?=some (.lst (t.bf.map U.int))) (gg:=gNm 0) (ct:=aL (cCB (fA c) (af (ag 1) (af (ag 2) (af (ag 0) aD))))) (ce:=ag 0) (f:=U.int) (p:=jF st every) (v:=U.int) (Rel:=fun ρ=>∃r0,ρ=[r0,some (.ref S.length),some (.bl every)]) (fun ys G=>by rw[Q3,Q3];exact gr _) t.bf [] [] [none,some (.ref S.length),some (.bl every)] ⟨_,rfl⟩ (by simp;omega) (fun b hb ys G2 ρ hρ=>by
   obtain⟨r0,rfl⟩:=hρ;obtain⟨t',hv'⟩:=nX ((bi a t hv).1 b hb).1;have h1:=sO (c:=c) (S:=S) (G:=C++((.dic D::R)++(.lst ys::G2))) (every:=every) hk hv';simp only[Qk]at h1;refine⟨[some (.int b),some (.ref S.length),some (.bl every)],[],⟨_,rfl⟩,rfl,?_,fun _=>⟨[],?_⟩⟩
   ·rwa[h1,QB]
   ·rwa[QB])
 simp only[Qj]at h;refine⟨R',?_⟩;have hi:cOp fIx (eY c 4 (ag 1)) (ag 3) [some (.ref L),some (.ref S.length),some (.bl every),some (.int a)] (crs c S st++C++(.dic D::R))=some (.ref r,crs c S st++C++(.dic D::R)):=by
  rwa[F4,f5,v0]
 have hcomp:dC (iTp (cOp fIx (eY c 4 (ag 1)) (ag 3))) (gNm 0) (aL (cCB (fA c) (af (ag 1) (af (ag 2) (af (ag 0) aD))))) (ag 0) 1 [1,2] [some (.ref L),some (.ref S.length),some (.bl every),some (.int a)] (crs c S st++C++(.dic D::R))=some (.ref (crs c S st++C++(.dic D::R)).length,crs c S st++C++(.dic D::R)++(.lst ((cL st every t).map U.int)::R')):=by
  unfold dC iTp;rw[hi,Q8];have gr':(crs c S st++C++(O.dic D::R))[r]?=some (.lst (t.bf.map U.int)):=by rw[Q3];exact gr _
  simp only[gr',Q8,kB,Qa,QJ,Ql,ZZ,QN,Z8,Qk,Qj,h];rfl
 have ln:(crs c S st++C++(O.dic D::R)).length=(crs c S st++C).length+1+R.length:=by rw[Q7,QU];omega
 rw[ln]at hcomp;generalize hY:crs c S st++C=Y at *;have eL:∀X,(Y++X)[L]?=some (.ins cA fus):=fun X=>aq hL;have FA:∀X,gY cA 2 (.ref L,Y++X)=some (.ref Y.length,Y++X):=fun X=>cm (eL X) hf;have hDL:D.length<LIM:=by unfold LIM;omega
 rwa[dE,hcomp,FA,hDL,if_true]
theorem ph{Z:Sto}{us:List U}{fus:List (Option U)}{L jo:Nat}(hk:(aE st).Nodup)(bi:BfI st)(hl:st.length<=100)(hZ:∃C,Z=crs c S st++C)(hL:Z[L]?=some (.ins cA fus))(hf:fus[2]?=some (some (.ref Z.length)))(ho:Z[jo]?=some (.lst us)):∀(as dn:List Int) (D:List (Key×U)) (R:Sto) (r3:Option U),(∀a∈as,a∈aE st)->Ef st every (Z.length+1) dn D R->D.length+as.length<=900->
  ∃D' R' r3',eA (fun Y=>Y[jo]?=some (.lst us)) (gNm 3) (dE (fW c) (fA c) cA c) (as.map U.int) [some (.ref L),some (.ref S.length),some (.bl every),r3] (Z++(.dic D::R))=some (.nx,[some (.ref L),some (.ref S.length),some (.bl every),r3'],Z++(.dic D'::R'))/\Ef st every (Z.length+1) (dn++as) D' R'
 |[],dn,D,R,r3,_,h,_=>⟨D,R,r3,gh (aq ho),by rw[QB];exact h⟩
 |a::as,dn,D,R,r3,hm,h,hD=>by
  rw[QU]at hD;obtain⟨t,hv⟩:=nX (hm a Qx);obtain⟨R1,h1⟩:=wL (c:=c) (cA:=cA) (S:=S) (every:=every) (Z:=Z) (R:=R) (D:=D) (L:=L) (B:=0) hk bi hl hv hZ hL hf (by omega);have I':Ef st every (Z.length+1) (dn++[a]) (fj D (.inl a) (.ref (Z.length+1+R.length))) (R++(.lst ((cL st every t).map U.int)::R1)):=fun b t' hb hv'=>by
   rw[rL];by_cases e:b=a
   ·subst e;rw[hv]at hv';cases hv';exact⟨R.length,by rw[if_pos rfl],by rw[Qv (QX _),Nat.sub_self];rfl⟩
   ·rw[if_neg (fun z=>e (Sum.inl.inj z))];rcases Qg.mp hb with z|z
    ·obtain⟨r,e1,e2⟩:=h b t' z hv';exact⟨r,e1,aq e2⟩
    ·exact absurd (Qh.mp z) e
  have hD':(fj D (.inl a) (.ref (Z.length+1+R.length))).length<=D.length+1:=kF ..;obtain⟨D',R',r3',ih,I2⟩:=ph hk bi hl hZ hL hf ho as (dn++[a]) _ _ (some (.int a)) (fun b hb=>hm b (Qq _ hb)) I' (by omega);refine⟨D',R',r3',(iW (aq ho) rfl h1).trans ih,?_⟩;rw[Q3]at I2;exact I2
structure Ay(cA:Cl)(st:St)(every:Bool)(B:Nat)(Y:Sto)(L:Nat):Prop where
 ex:∃r1 r2 D,Y[L]?=some (.ins cA [some (.ref B),some (.ref r1),some (.ref r2)])/\Y[r1]?=some (.lst ((aS st every).map U.int))/\Y[r2]?=some (.dic D)/\∀a t,a∈aS st every->aR st a=some t->∃r,aR D (.inl a)=some (.ref r)/\Y[r]?=some (.lst ((cL st every t).map U.int))
theorem kE{b:Int}(h:b∈aS st every):b∈aE st:=(aN _).mem_iff.mp (Z6.mp h).1
theorem f9:(aS st every).length<=st.length:=by
 unfold aS;refine Qd (List.length_filter_le ..) ?_;rw[(aN _).length_eq];unfold aE;rw[Q6];exact QX _
theorem qG(hns:cA.ns.length=3)(hk:(aE st).Nodup)(bi:BfI st)(hl:st.length<64) :
  ∃X,jS cA (ie c cA) [.ref S.length,.bl every] (crs c S st++G)=some (.ref (crs c S st++G).length,crs c S st++(G++X))/\Ay cA st every S.length (crs c S st++(G++X)) (crs c S st++G).length:=by
 rw[Az,hns];obtain⟨G',k,h1,g1⟩:=nB (c:=c) (S:=S) (G:=G++[.ins cA [some (.ref S.length),none,none]]) (every:=every) hk hl;obtain⟨Y,hY⟩:∃Y,Y=crs c S st++G:=⟨_,rfl⟩;have ln:(crs c S st++(G++[O.ins cA [some (.ref S.length),none,none]])).length+k=Y.length+(1+k):=by rw[<-Q3,<-hY,Q7];simp;omega
 have e1:crs c S st++(G++[O.ins cA [some (.ref S.length),none,none]])=Y++[.ins cA [some (.ref S.length),none,none]]:=by rw[hY,Q3]
 have e2:crs c S st++(G++[O.ins cA [some (.ref S.length),none,none]]++G')=Y++(.ins cA [some (.ref S.length),none,none]::G'):=by rw[hY];simp only[Q3,Qk,Qj]
 rw[ln,e1,e2]at h1;obtain⟨Z,hZ⟩:∃Z,Z=Y++(.ins cA [some (.ref S.length),some (.ref (Y.length+(1+k))),some (.ref (Y.length+(1+G'.length)))]::G'):=⟨_,rfl⟩;have zl:Z.length=Y.length+(1+G'.length):=by rw[hZ];simp;omega
 have gL:Z[Y.length]?=some (.ins cA [some (.ref S.length),some (.ref (Y.length+(1+k))),some (.ref Z.length)]):=by rw[zl,hZ,ga0];rfl
 have gO:Z[Y.length+(1+k)]?=some (.lst ((aS st every).map U.int)):=by rw[hZ,ga,Nat.add_comm 1 k,QN];exact g1
 have ol:=f9 (st:=st) (every:=every);obtain⟨D,R,r3,h2,I⟩:=ph (c:=c) (cA:=cA) (S:=S) (every:=every) (Z:=Z) (L:=Y.length) (jo:=Y.length+(1+k)) hk bi (by omega) ⟨G++(.ins cA [some (.ref S.length),some (.ref (Y.length+(1+k))),some (.ref (Y.length+(1+G'.length)))]::G'),by rw[hZ,hY,Q3]⟩ gL rfl gO (aS st every) [] [] [] none (fun b hb=>kE hb) (fun b t hb=>by cases hb) (by simp;omega);refine⟨.ins cA [some (.ref S.length),some (.ref (Y.length+(1+k))),some (.ref (Y.length+(1+G'.length)))]::(G'++(.dic D::R)),?_,?_⟩
 ·have hi:ie c cA [.ref Y.length,.ref S.length,.bl every] (Y++[.ins cA (Qa 3 none)])=some (.non,Z++(.dic D::R)):=by
   unfold ie;rw[ow];have zd:Y++(O.ins cA [some (.ref S.length),some (.ref (Y.length+(1+k))),some (.ref (Y.length+(1+G'.length)))]::(G'++[.dic []]))=Z++[.dic []]:=by rw[hZ,Q3];rfl
   have gLZ:∀X,(Z++X)[Y.length]?=some (.ins cA [some (.ref S.length),some (.ref (Y.length+(1+k))),some (.ref Z.length)]):=fun X=>aq gL;have gOZ:∀X,(Z++X)[Y.length+(1+k)]?=some (.lst ((aS st every).map U.int)):=fun X=>aq gO;have ly:(Y++O.ins cA [some (.ref S.length),some (.ref (Y.length+(1+k))),none]::G').length=Y.length+(1+G'.length):=by simp;omega
   rwa[dB,Qa,h1,ly,zd,nA,iTp,gLZ,gOZ,h2]
  rw[<-hY,hi];have:Z++(O.dic D::R)=Y++(.ins cA [some (.ref S.length),some (.ref (Y.length+(1+k))),some (.ref (Y.length+(1+G'.length)))]::(G'++(.dic D::R))):=by rw[hZ,Q3];rfl
  rw[<-Q3,<-hY,<-this];rfl
 ·have:crs c S st++(G++(O.ins cA [some (.ref S.length),some (.ref (Y.length+(1+k))),some (.ref (Y.length+(1+G'.length)))]::(G'++(.dic D::R))))=Z++(.dic D::R):=by rw[<-Q3,<-hY,hZ,Q3];rfl
  rw[this,<-hY];refine⟨_,_,D,aq gL,aq gO,by rw[ga0];rfl,fun b t hb hv=>?_⟩;obtain⟨r,e1,e2⟩:=I b t (by rw[Qj];exact hb) hv;refine⟨_,e1,?_⟩;rw[Nat.add_assoc,ga,Nat.add_comm 1 r,QN];exact e2
end
theorem sX:∀ns ms:List Int,PyData.eqv (.list (ns.map PyData.int)) (.list (ms.map PyData.int))=decide (ns=ms)
 |[],[]=>rfl
 |[],_::_=>rfl
 |_::_,[]=>rfl
 |n::ns,m::ms=>by
  have e:PyData.eqv (.list ((n::ns).map PyData.int)) (.list ((m::ms).map PyData.int))=((n == m)&&PyData.eqv (.list (ns.map PyData.int)) (.list (ms.map PyData.int))):=rfl;rw[e,sX ns ms,Bool.eq_iff_iff];simp
theorem ox{S:Sto}:∀ns:List Int,DtL S (ns.map U.int) (ns.map PyData.int)
 |[]=>.nil
 |n::ns=>.cons (.int n) (ox ns)
theorem sH(ns:List Int):yF (.list (ns.map PyData.int)):=by
 have h:∀ns:List Int,PyData.canLayAll0 (ns.map PyData.int)=true/\PyData.depthAll (ns.map PyData.int)<=0:=fun ns=>by
  induction ns with
  |nil=>exact⟨rfl,QX _⟩
  |cons n r ih=>
   refine⟨by unfold PyData.canLayAll0;rw[QJ];exact ih.1,?_⟩;rw[QJ];unfold PyData.depthAll;exact Nat.max_le.mpr ⟨QX _,ih.2⟩
 refine⟨by unfold PyData.canLay0;exact(h ns).1,?_⟩;unfold PyData.depth;have:=(h ns).2;omega
theorem Ac(neg:Bool){S:Sto}{l l':Nat}{ns ms:List Int}(h:S[l]?=some (.lst (ns.map U.int)))(h':S[l']?=some (.lst (ms.map U.int))):qS neg (.ref l) (.ref l') S=some (.bl (if neg then !decide (ns=ms)else decide (ns=ms)),S):=
 qR neg (.inl ⟨_,_,.lst h (ox ns),.lst h' (ox ms),sH ns,sH ms,(sX ns ms).symm⟩)
section
variable{c cA:Cl}{n:Int}{S G C:Sto}{st:St}{a:Int}{t:Att}{x:List Int}{every:Bool}{L:Nat}
theorem Ay.app{Y:Sto}{B:Nat}(h:Ay cA st every B Y L)(X:Sto):Ay cA st every B (Y++X) L:=by
 obtain⟨r1,r2,D,h1,h2,h3,h4⟩:=h.ex;exact⟨⟨r1,r2,D,aq h1,aq h2,aq h3,fun a t ha hv=>by
  obtain⟨r,e1,e2⟩:=h4 a t ha hv;exact⟨r,e1,aq e2⟩⟩⟩
def qg(c cA:Cl):Fn:=fnU 4 4 (aX (yE c) cA)
theorem GY{g:Nat}{D:List (Key×U)}{gn:List Int}(hk:(aE st).Nodup)(bi:BfI st)(hl:st.length<=100)(ask:Ay cA st every S.length (crs c S st++C) L)(ha:a∈aS st every)(hv:aR st a=some t)(hb:∀p∈t.nd,0<=p.1/\p.1<n)(hx:x.length=n.toNat)
  (hg:(crs c S st++C)[g]?=some (.dic D)) (hD:∀b,(aR D (.inl b)).isSome=decide (b∈gn)) :
  ∃C',qg c cA [.ref L,.int a,.ref g,.tup (x.map U.int)] (crs c S st++C)=some (.bl ((cL st every t).all (fun b=>decide (b∈gn))&&t.nd.all (sU x)),crs c S st++(C++C')):=by
 unfold qg;rw[et];obtain⟨r1,r2,D2,h1,h2,h3,h4⟩:=ask.ex;obtain⟨r,e1,e2⟩:=h4 a t ha hv;have hb0:=yq hk bi hv;have hnl:(cL st every t).length<=100:=by unfold cL;exact Qd (List.length_filter_le ..) (by omega)
 obtain⟨G',h⟩:=jD (S:=crs c S st++C) (ok:=fun Y=>Y[r]?=some (.lst ((cL st every t).map U.int))) (gg:=gNm 0) (ce:=cOp (fIn false) (ag 0) (ag 1)) (f:=U.int) (v:=fun b=>.bl (decide (b∈gn))) (Rel:=fun ρ=>∃r0,ρ=[r0,some (.ref g)]) (fun ys G=>aq e2) (cL st every t) [] [] [none,some (.ref g)] ⟨_,rfl⟩ (by simp;omega) (fun b hb ys G2 ρ hρ=>by
   obtain⟨r0,rfl⟩:=hρ;have hg':(crs c S st++(C++(.lst ys::G2)))[g]?=some (.dic D):=by rw[<-Q3];exact aq hg
   refine⟨[some (.int b),some (.ref g)],[],⟨_,rfl⟩,rfl,?_⟩;rwa[hg',hD,Qb,if_false,QB])
 simp only[Qj,Q3]at h;refine⟨.lst ((cL st every t).map fun b=>.bl (decide (b∈gn)))::G',?_⟩;have hY:∃Y,Y=crs c S st++C:=⟨_,rfl⟩;obtain⟨Y,hY⟩:=hY;have F2:gY cA 2 (.ref L,crs c S st++C)=some (.ref r2,crs c S st++C):=cm h1 rfl;have F0:∀X,gY cA 0 (.ref L,crs c S st++(C++X))=some (.ref S.length,crs c S st++(C++X)):=fun X=>by rw[<-Q3];exact cm (aq h1) rfl
 have hcomp:dQ (iTp (cOp fIx (eY cA 2 (ag 0)) (ag 1))) (gNm 0) (cOp (fIn false) (ag 0) (ag 1)) 1 [2] [some (.ref L),some (.int a),some (.ref g),some (.tup (x.map U.int))] (crs c S st++C)=some (.ref (crs c S st++C).length,crs c S st++(C++(.lst ((cL st every t).map fun b=>.bl (decide (b∈gn)))::G'))):=by
  have hi:cOp fIx (eY cA 2 (ag 0)) (ag 1) [some (.ref L),some (.int a),some (.ref g),some (.tup (x.map U.int))] (crs c S st++C)=some (.ref r,crs c S st++C):=by
   rwa[F2,h3,e1]
  unfold dQ iTp;rw[hi,Q8];simp only[e2,Q8,kB,Qa,QJ,Ql,ZZ,QN,Z8,Qk,Qj,h,Q3]
 have gz:∀X,(crs c S st++(C++X))[(crs c S st++C).length]?=X[0]?:=fun X=>by
  have:=ga0 (S:=crs c S st++C) (X:=X);simp only[Q3]at this;exact this
 have hall:yL [.ref (crs c S st++C).length] (crs c S st++(C++(.lst ((cL st every t).map fun b=>.bl (decide (b∈gn)))::G')))=some (.bl ((cL st every t).all fun b=>decide (b∈gn)),crs c S st++(C++(.lst ((cL st every t).map fun b=>.bl (decide (b∈gn)))::G'))):=by
  have em:((cL st every t).map fun b=>U.bl (decide (b∈gn)))=((cL st every t).map fun b=>decide (b∈gn)).map U.bl:=by rw[QM];rfl
  simp only[yL,gz,ZZ,em,kK,Q8,List.all_map];rfl
 have hfit:=xH (c:=c) (S:=S) (G:=C++(.lst ((cL st every t).map fun b=>.bl (decide (b∈gn)))::G')) hk hv hb hx;cases hn:(cL st every t).all fun b=>decide (b∈gn)with
 |true=>
  rw[hn]at hall;rwa[aX,hcomp,hall,F0,hfit,Bool.true_and]
 |false=>
  rw[hn]at hall;rwa[aX,hcomp,hall,Bool.false_and]
end
def dh(st:St)(every:Bool):List Int->List Int->List Int->Bool
 |_,_,[]=>true
 |gn,x,a::os=>(match aR st a with
  |none=>false
  |some t=>(cL st every t).all (fun b=>decide (b∈gn))&&t.nd.all (sU x))&&dh st every (a::gn) (chg st a x) os
def K0(b:Bool):Out:=if b then .nx else .rt (.bl false)
section
variable{c cA:Cl}{n:Int}{S G C:Sto}{st:St}{a:Int}{t:Att}{x:List Int}{every:Bool}{L:Nat}
theorem pI{us:List U}{lo:Nat}{x0:Option U}(hk:(aE st).Nodup)(bi:BfI st)(hl:st.length<=100)(hn:n<=100)(ask:Ay cA st every S.length (crs c S st++G) L)(hlo:(crs c S st++G)[lo]?=some (.lst us))(hb:∀a t,aR st a=some t->∀p∈t.nd,0<=p.1/\p.1<n) :
  ∀(os gn:List Int) (D:List (Key×U)) (G2:Sto) (x:List Int) (r5:Option U),(∀a∈os,a∈aS st every)->(∀b,(aR D (.inl b)).isSome=decide (b∈gn))->x.length=n.toNat->D.length+os.length<=900->
  ∃r4 r5' D' G3,eA (fun Y=>Y[lo]?=some (.lst us)) (gNm 5) (cy (Ia c) (qg c cA) cA) (os.map U.int) [some (.ref L),some (.ref lo),x0,some (.ref (crs c S st++G).length),some (.tup (x.map U.int)),r5] (crs c S st++(G++(.dic D::G2)))
   = some (K0 (dh st every gn x os),[some (.ref L),some (.ref lo),x0,some (.ref (crs c S st++G).length),r4,r5'],crs c S st++(G++(.dic D'::G3)))
 |[],gn,D,G2,x,r5,_,_,_,_=>⟨_,_,_,_,gh (by rw[<-Q3];exact aq hlo)⟩
 |a::os,gn,D,G2,x,r5,hm,hD,hx,ed=>by
  rw[QU]at ed;have ho:=hm a Qx;obtain⟨t,hv⟩:=nX (kE ho);have ok0:(crs c S st++(G++(O.dic D::G2)))[lo]?=some (.lst us):=by rw[<-Q3];exact aq hlo
  have gz:∀Z:Sto,(crs c S st++(G++Z))[(crs c S st++G).length]?=Z[0]?:=fun Z=>by
   have:=ga0 (S:=crs c S st++G) (X:=Z);simp only[Q3]at this;exact this
  have sz:∀(Z:Sto) (o:O),(crs c S st++(G++Z)).set (crs c S st++G).length o=crs c S st++(G++Z.set 0 o):=fun Z o=>by
   have:=gs0 (S:=crs c S st++G) (X:=Z) (o:=o);simp only[Q3]at this;exact this
  have askX:∀X,Ay cA st every S.length (crs c S st++(G++X)) L:=fun X=>by rw[<-Q3];exact ask.app X
  obtain⟨C1,h1⟩:=GY (c:=c) (cA:=cA) (S:=S) (C:=G++(.dic D::G2)) (x:=x) (g:=(crs c S st++G).length) (D:=D) (gn:=gn) hk bi hl (askX _) ho hv (hb a t hv) hx (by rw[gz];rfl) hD;simp only[Q3,Qk]at h1;have eg:dh st every gn x (a::os)=(((cL st every t).all (fun b=>decide (b∈gn))&&t.nd.all (sU x))&&dh st every (a::gn) (chg st a x) os):=by rw[dh,hv]
  obtain⟨r1,r2,D2,i1,i2,i3,i4⟩:=ask.ex;have eI:∀X,(crs c S st++(G++X))[L]?=some (.ins cA [some (.ref S.length),some (.ref r1),some (.ref r2)]):=fun X=>by rw[<-Q3];exact aq i1
  have F0:∀X,gY cA 0 (.ref L,crs c S st++(G++X))=some (.ref S.length,crs c S st++(G++X)):=fun X=>cm (eI X) rfl;cases hm2:((cL st every t).all (fun b=>decide (b∈gn))&&t.nd.all (sU x))with
  |false=>
   rw[hm2]at h1;rw[eg,hm2,Bool.false_and];refine⟨some (.tup (x.map U.int)),some (.int a),D,G2++C1,qI ok0 rfl (x:=.bl false) ?_⟩;rwa[cy,eI,h1]
  |true=>
   rw[hm2]at h1;rw[eg,hm2,Bool.true_and];obtain⟨C2,h2⟩:=FO (c:=c) (S:=S) (G:=G++(.dic (fj D (.inl a) (.bl true))::(G2++C1))) (x:=x) hk hv (by omega);simp only[Q3,Qk]at h2;have hD':∀b,(aR (fj D (.inl a) (.bl true)) (.inl b)).isSome=decide (b∈a::gn):=fun b=>by
    rw[rL];by_cases e:b=a
    ·subst e;rw[if_pos rfl];simp
    ·rw[if_neg (fun z=>e (Sum.inl.inj z)),hD];simp[e]
   have hdl:(fj D (.inl a) (U.bl true)).length<=D.length+1:=kF ..;obtain⟨r4,r5',D',G3,ih⟩:=pI hk bi hl hn ask hlo hb os (a::gn) (fj D (.inl a) (.bl true)) (G2++(C1++C2)) (chg st a x) (some (.int a)) (fun b hb=>hm b (Qq _ hb)) hD' (by rw[oz];exact hx) (by omega);refine⟨r4,r5',D',G3,(iW ok0 rfl ?_).trans ih⟩;have hDL:D.length<LIM:=by unfold LIM;omega
   rwa[cy,eI,h1,gz,sz,hDL,if_true,F0,h2]
def nD(c cA:Cl):Fn:=fnU 6 3 (bC (Ia c) (qg c cA) cA)
theorem xC{lo:Nat}{os:List Int}(hk:(aE st).Nodup)(bi:BfI st)(hl:st.length<64)(hn:n<=100)(ask:Ay cA st every S.length (crs c S st++G) L)(hlo:(crs c S st++G)[lo]?=some (.lst (os.map U.int)))(hol:os.length<64)(hb:∀a t,aR st a=some t->∀p∈t.nd,0<=p.1/\p.1<n)(hx:x.length=n.toNat) :
  ∃G',nD c cA [.ref L,.ref lo,.tup (x.map U.int)] (crs c S st++G)=some (.bl (decide (aW os=aS st every)&&dh st every [] x os),crs c S st++(G++G')):=by
 unfold nD;rw[kr];obtain⟨r1,r2,D2,i1,i2,i3,i4⟩:=ask.ex;have hs:fk [.ref lo] (crs c S st++G)=some (.ref (crs c S st++G).length,crs c S st++(G++[.lst ((aW os).map U.int)])):=by
  simp only[fk,hlo,gZ,Q8,hol,if_true,Q3]
 have gz:∀Z:Sto,(crs c S st++(G++Z))[(crs c S st++G).length]?=Z[0]?:=fun Z=>by
  have:=ga0 (S:=crs c S st++G) (X:=Z);simp only[Q3]at this;exact this
 have gx:∀(i:Nat) (o:O) (X:Sto),(crs c S st++G)[i]?=some o->(crs c S st++(G++X))[i]?=some o:=fun i o X h=>by rw[<-Q3];exact aq h
 have F1:∀X,gY cA 1 (.ref L,crs c S st++(G++X))=some (.ref r1,crs c S st++(G++X)):=fun X=>cm (gx _ _ _ i1) rfl;have he:=Ac true (S:=crs c S st++(G++[.lst ((aW os).map U.int)])) (l:=(crs c S st++G).length) (l':=r1) (ns:=aW os) (ms:=aS st every) (by rw[gz];rfl) (gx _ _ _ i2);rw[if_pos rfl]at he;cases hq:decide (aW os=aS st every)with
 |false=>
  rw[hq,Bool.not_false]at he;refine⟨[.lst ((aW os).map U.int)],?_⟩;rw[Bool.false_and];rwa[bC,hs,F1,he]
 |true=>
  rw[hq,Bool.not_true]at he;have ho:∀a∈os,a∈aS st every:=fun a ha=>by
   rw[<-of_decide_eq_true hq];exact(aN _).mem_iff.mpr ha
  have ex:crs c S st++(G++[O.lst ((aW os).map U.int)])=crs c S st++G++[O.lst ((aW os).map U.int)]:=(Q3 ..).symm;obtain⟨r4,r5,D',G3,h⟩:=pI (c:=c) (cA:=cA) (S:=S) (G:=G++[.lst ((aW os).map U.int)]) (lo:=lo) (L:=L) (us:=os.map U.int) (x0:=some (.tup (x.map U.int))) hk bi (by omega) hn (by rw[ex];exact ask.app _) (gx _ _ _ hlo) hb os [] [] [] x none ho (fun b=>by simp[aR]) hx (by simp;omega);rw[Bool.true_and];refine⟨.lst ((aW os).map U.int)::.dic D'::G3,?_⟩;have hlo':=gx lo _ [.lst ((aW os).map U.int),.dic []] hlo;simp only[Q3,Qk,Qj]at h;cases hg:dh st every [] x os with
  |true=>
   rw[hg]at h;simp only[K0,if_true]at h;rwa[bC,hs,F1,he,nA,iTp,hlo',h]
  |false=>
   rw[hg]at h;simp only[K0,Qb,if_false]at h;rwa[bC,hs,F1,he,nA,iTp,hlo',h]
end
section
variable{c cA:Cl}{n w:Int}{S G C:Sto}{a:Int}{t:Att}{x:List Int}{every:Bool}
def mD:Fn:=fnU 1 1 fQ
theorem y6:mD [.int a] S=some (.bl true,S):=by
 unfold mD;rw[uG];have t0:tyU (.int a) S=some .int:=rfl;have t1:Cn .int .int=true:=rfl;have t2:Cn .int .bool=false:=rfl;rwa[fQ,t0,t1,t2]
def oE(c cA:Cl):Fn:=fnU 5 5 (fR mD (jG c) (nD c cA) (ie c cA) cA)
theorem si{N:Nat}{evs:List Ev}{l lo:Nat}{os:List Int}{wu:U}(hns:c.ns.length=5)(hna:cA.ns.length=3)(hl:S[l]?=some (.lst (evs.map Ev.u)))(hlo:S[lo]?=some (.lst (os.map U.int)))(lg:ja n w N evs)(he:evs.length<=900)(hN:N<64)(hn:n<=100)(hx:x.length=n.toNat)(hol:os.length<64) :
  ∃G',oE c cA [wu,.tup (x.map U.int),.ref l,.bl every,.ref lo] S=some (.bl (decide (aW os=aS (bo [] evs) every)&&dh (bo [] evs) every [] x os),S++G'):=by
 unfold oE;rw[uH];obtain⟨G0,h0⟩:=jD (S:=S) (ok:=fun Y=>Y[lo]?=some (.lst (os.map U.int))) (gg:=gNm 0) (ce:=cCB mD (af (ag 0) aD)) (f:=U.int) (v:=fun _=>.bl true) (Rel:=fun ρ=>∃r0,ρ=[r0]) (fun ys G=>aq hlo) os [] [] [none] ⟨_,rfl⟩ (by simp;omega) (fun b hb ys G2 ρ hρ=>by
  obtain⟨r0,rfl⟩:=hρ;refine⟨[some (.int b)],[],⟨_,rfl⟩,rfl,?_⟩;rwa[y6,QB])
 simp only[Qj]at h0;obtain⟨S1,hS1⟩:∃S1,S1=S++(.lst (os.map fun _=>U.bl true)::G0):=⟨_,rfl⟩;have hcomp:dQ (iTp (ag 4)) (gNm 0) (cCB mD (af (ag 0) aD)) 1 [] [some wu,some (.tup (x.map U.int)),some (.ref l),some (.bl every),some (.ref lo)] S=some (.ref S.length,S1):=by
  have hi:ag 4 [some wu,some (.tup (x.map U.int)),some (.ref l),some (.bl every),some (.ref lo)] S=some (.ref lo,S):=rfl;unfold dQ iTp;rw[hi,Q8];simp only[hlo,Q8,kB,Qa,QJ,Ql,QB,h0,hS1]
 have hall:yL [.ref S.length] S1=some (.bl true,S1):=by
  have em:(os.map fun _=>U.bl true)=(os.map fun _=>true).map U.bl:=by rw[QM];rfl
  have ea:((os.map fun _=>true).all id)=true:=by simp
  rw[hS1];simp only[yL,ga0,ZZ,em,kK,Q8,ea]
 have h1:=mh (c:=c) (S:=S1) (N:=N) hns (by rw[hS1];exact aq hl) lg.lo he;have bi:=oB evs [] lg.lo ZC K9;obtain⟨X,h2,ask⟩:=qG (c:=c) (cA:=cA) (S:=S1) (G:=[]) (every:=every) hna lg.kd bi (ZR lg.cnt hN);simp only[QB,Qj]at h2 ask;have hb:∀a t,aR (bo [] evs) a=some t->∀p∈t.nd,0<=p.1/\p.1<n:=fun a t hv p hp=>by
  have:=lN evs [] lg.lo Iy a t hv;exact this.1 p ((this.2 p).mp hp)
 obtain⟨G',h3⟩:=xC (c:=c) (cA:=cA) (S:=S1) (G:=X) (x:=x) (lo:=lo) (os:=os) lg.kd bi (ZR lg.cnt hN) hn ask (by unfold crs;rw[hS1,Q3,Q3];exact aq hlo) hol hb hx;obtain⟨r1,r2,D,i1,i2,i3,i4⟩:=ask.ex;obtain⟨C,hC⟩:∃C,crs c S1 (bo [] evs)=S1++C:=⟨_,rfl⟩;refine⟨(.lst (os.map fun _=>U.bl true)::G0)++(C++(X++G')),?_⟩;rw[<-Q3,<-hS1,<-Q3,<-hC];rwa[fR,hcomp,hall,h1,h2,i1,h3]
end
def Wp{α:Type}(x:Option α)(Q:α->Prop):Prop:=∃r,x=some r/\Q r
section
variable{α β:Type}{x:Option α}{Q P:α->Prop}
theorem aJ{r:α}:Wp (some r) Q=Q r:=propext ⟨fun⟨_,e,h⟩=>by cases e;exact h,fun h=>⟨r,rfl,h⟩⟩
theorem Wp.bind{k:α->Option β}{Q:β->Prop}(h:Wp x fun r=>Wp (k r) Q):Wp (x.bind k) Q:=by
 obtain⟨r,rfl,s,e,q⟩:=h;exact⟨s,e,q⟩
theorem Wp.mono(h:Wp x P)(i:∀r,P r->Q r):Wp x Q:=let ⟨r,e,p⟩:=h;⟨r,e,i r p⟩
theorem Wp.of{r:α}(h:x=some r)(q:Q r):Wp x Q:=⟨r,h,q⟩
end
section
variable{α:Type}{ci:CI}{ca:CE}{gg:CG}{ct t:CT}{ce:CE}{cb:CS}{caps:List Nat}{ρ:Rho}{cs:Rho}{S S1:Sto}{ok:Sto->Prop}{xs:List α}{us:List U}{f v:α->U}{p:α->Bool}{Q:U×Sto->Prop}{R:Out×Rho×Sto->Prop}{l:Nat}
theorem uq(h:ca ρ S=some (.ref l,S1))(hl:S1[l]?=some (.lst us)):iTp ca ρ S=some (us,fun S=>S[l]?=some (.lst us),S1):=by
 unfold iTp;rw[h,Q8];simp only[hl]
theorem FW(n:Nat):cq 0 n=(Qr n).map fun i:Nat=>U.int (i:Int):=by rw[lh,QM];rfl
theorem vy(hi:ci ρ S=some (xs.map f,ok,S1))(hok:∀G,ok (S1++G))(hn:xs.length<=9000)(hr:kB 1 caps ρ=none::cs)
  (hb:∀x∈xs,∀G,Wp (ct (some (f x)::cs) (S1++G)) fun s=>s.1=p x/\∃G1,s.2=S1++G++G1/\(p x=true->Wp (ce (some (f x)::cs) (S1++G++G1)) fun t=>t.1=v x/\∃G2,t.2=S1++G++G1++G2))
  (hQ:∀G,Q (.ref S1.length,S1++(.lst ((xs.filter p).map v)::G))):Wp (dC ci (gNm 0) ct ce 1 caps ρ S) Q:=by
 obtain⟨G,e⟩:=fP (S:=S1) (ok:=ok) (gg:=gNm 0) (ct:=ct) (ce:=ce) (f:=f) (p:=p) (v:=v) (Rel:=fun ρ=>∃r0,ρ=r0::cs) (fun ys G=>hok _) xs [] [] (none::cs) ⟨_,rfl⟩ (by simp;omega) (fun x hx ys G ρ hρ=>by
  obtain⟨r0,rfl⟩:=hρ;obtain⟨⟨b,S2⟩,e1,e2,G1,e3,h⟩:=hb x hx (.lst ys::G);dsimp only at e2 e3;subst e2 e3;refine⟨some (f x)::cs,G1,⟨_,rfl⟩,rfl,by rw[e1,Q3,Qk],fun hp=>?_⟩;obtain⟨⟨b,S2⟩,e4,e5,G2,e6⟩:=h hp;dsimp only at e5 e6;subst e5 e6;refine⟨G2,?_⟩;simp only[Q3,Qk]at e4 ⊢;exact e4)
 refine⟨_,?_,hQ G⟩;unfold dC;rw[hi,Q8,hr];dsimp only;rw[e];rfl
theorem Ci(hi:ci ρ S=some (xs.map f,ok,S1))(hok:∀G,ok (S1++G))(hn:xs.length<=9000)(hr:kB 1 caps ρ=none::cs)
  (hb:∀x∈xs,∀G,Wp (ce (some (f x)::cs) (S1++G)) fun t=>t.1=v x/\∃G2,t.2=S1++G++G2)
  (hQ:∀G,Q (.ref S1.length,S1++(.lst (xs.map v)::G))):Wp (dQ ci (gNm 0) ce 1 caps ρ S) Q:=by
 obtain⟨G,e⟩:=jD (S:=S1) (ok:=ok) (gg:=gNm 0) (ce:=ce) (f:=f) (v:=v) (Rel:=fun ρ=>∃r0,ρ=r0::cs) (fun ys G=>hok _) xs [] [] (none::cs) ⟨_,rfl⟩ (by simp;omega) (fun x hx ys G ρ hρ=>by
  obtain⟨r0,rfl⟩:=hρ;obtain⟨⟨b,S2⟩,e1,e2,G1,e3⟩:=hb x hx (.lst ys::G);dsimp only at e2 e3;subst e2 e3;exact⟨some (f x)::cs,G1,⟨_,rfl⟩,rfl,by rw[e1,Q3,Qk]⟩)
 refine⟨_,?_,hQ G⟩;unfold dQ;rw[hi,Q8,hr];dsimp only;rw[e];rfl
theorem Mj{F:Fn}(h:Wp (ce ρ S) fun r=>Wp (F [r.1] r.2) Q):Wp (cCB F (af ce aD) ρ S) Q:=by
 obtain⟨⟨u,S2⟩,e,r,e2,q⟩:=h;refine⟨r,?_,q⟩;rw[Lg,oN,e];exact e2
theorem Io(hi:ci ρ S=some (us,ok,S1))(h:Wp (eA ok gg cb us ρ S1) R):Wp (nA ci gg cb ρ S) R:=by
 unfold nA;rw[hi];exact h
theorem vx(I:List α->Rho->Sto->Prop)(h0:∀ρ S,I [] ρ S->ok S/\R (.nx,ρ,S))
  (h1:∀x xs ρ S,I (x::xs) ρ S->ok S/\Wp (gg (f x) ρ S) fun r=>Wp (cb r.1 r.2) fun s=>(s.1=.nx/\I xs s.2.1 s.2.2)\/∃v,s.1=.rt v/\R s) :
  ∀(xs:List α) (ρ:Rho) (S:Sto),I xs ρ S->Wp (eA ok gg cb (xs.map f) ρ S) R
 |[],ρ,S,h=>by
  obtain⟨a,b⟩:=h0 ρ S h;exact .of (gh a) b
 |x::xs,ρ,S,h=>by
  obtain⟨a,⟨ρ0,S0⟩,e1,⟨o,ρ1,S1⟩,e2,c⟩:=h1 x xs ρ S h;rcases c with⟨c,i⟩|⟨v,c,q⟩
  ·cases c;obtain⟨r,e3,q⟩:=vx I h0 h1 xs ρ1 S1 i;exact⟨r,(iW a e1 e2).trans e3,q⟩
  ·cases c;exact⟨_,qI a e1 e2,q⟩
theorem AG(I:Nat->Rho->Sto->Prop)(h:∀n ρ S,I n ρ S->Wp (t ρ S) fun p=>(p.1=false->R (.nx,ρ,p.2))/\(p.1=true->Wp (cb ρ p.2) fun s=>(s.1=.nx/\∃m,m<n/\I m s.2.1 s.2.2)\/∃v,s.1=.rt v/\R s)) :
  ∀(fuel n:Nat) (ρ:Rho) (S:Sto),n<fuel->I n ρ S->Wp (ef t cb fuel ρ S) R
 |0,n,ρ,S,hn,_=>by omega
 |fuel+1,n,ρ,S,hn,i=>by
  obtain⟨⟨b,S0⟩,e1,h0,h1⟩:=h n ρ S i;cases b with
  |false=>exact⟨_,vt e1,h0 rfl⟩
  |true=>
   obtain⟨⟨o,ρ1,S1⟩,e2,c⟩:=h1 rfl;rcases c with⟨c,m,hm,j⟩|⟨v,c,q⟩
   ·cases c;obtain⟨r,e3,q⟩:=AG I h fuel m ρ1 S1 (by omega) j;exact⟨r,(za e1 e2).trans e3,q⟩
   ·cases c;exact⟨_,y8 e1 e2,q⟩
end
def dW(aF aI:Fn)(ar:Cl):CS:=
 (bB (cY 2 (cCB (jS ar aI) (af (cCB aF (af (ag 0) aD)) (af (ag 1) aD))))
  (bB (cY 3 (cCB l5 (af (eY ar 1 (ag 2)) aD)))
  (bB (eB (aL (cOp fGt (ag 3) (cC (.int 8)))) Bs b6)
  (eV (ag 2)))))
theorem pQ{aF aI:Fn}{ar:Cl}{a0 a1:U}{S:Sto}:fnU 4 2 (dW aF aI ar) [a0,a1] S=((dW aF aI ar) [some a0,some a1,none,none] S).bind kFn:=jH rfl
def g9(bR ax:Fn)(ar:Cl):CS:=
 (bB (cY 2 (cOp fIx (ag 1) (cC (.int 0))))
  (bB (cY 3 (cOp fIx (ag 1) (cC (.int 1))))
  (eV (dC (iTp (eY ar 1 (ag 0))) (gNm 0) (uO (aL (cOp (fIn true) (ag 0) (ag 3))) (aL (kx ar ax (ag 1) (af (ag 0) (af (ag 3) (af (ag 4) aD)))))) (hU (af (ag 0) (af (cCB bR (af (ag 1) (af (ag 2) (af (ag 0) aD)))) aD))) 1 [0,1,2,3]))))
theorem xT{bR ax:Fn}{ar:Cl}{a0 a1:U}{S:Sto}:fnU 4 2 (g9 bR ax ar) [a0,a1] S=((g9 bR ax ar) [some a0,some a1,none,none] S).bind kFn:=jH rfl
def cT(aQ:Fn)(ar:Cl):CS:=
 (eV (hU (af (cCB g7 (af (cCB jA (af (cOp ke (cOp fIx (ag 1) (cC (.int 0))) (hU (af (ag 2) aD))) aD)) aD)) (af (cCB aQ (af (eY ar 0 (ag 0)) (af (ag 2) (af (cOp fIx (ag 1) (cC (.int 1))) aD)))) aD))))
theorem mM{aQ:Fn}{ar:Cl}{a0 a1 a2:U}{S:Sto}:fnU 3 3 (cT aQ ar) [a0,a1,a2] S=((cT aQ ar) [some a0,some a1,some a2] S).bind kFn:=jH rfl
def dD(cH:Fn)(ar:Cl)(fuel:Nat):CS:=
 (eB (aL (cOp Et (ag 6) (ag 2))) (bB (oA (ag 2) (ag 6) (cOp ke (cOp Bk (ag 2) (ag 4)) (jU (af (ag 5) aD))))
  (fq (cBM cR (ag 3) (af (ag 6) aD)))) b6)
def fc(cH:Fn)(ar:Cl)(fuel:Nat):CS:=
 (bB (cY 4 (cBM yK (ag 3) aD))
  (bB (eB (aL (cOp fEq (cCB l5 (af (cOp fIx (ag 4) (cC (.int 0))) aD)) (cCB l5 (af (eY ar 1 (ag 0)) aD)))) (eV (hU (af (cC (.str "good")) (af (cOp Bk (ag 2) (ag 4)) aD)))) b6)
  (nA (iTp (cCB cH (af (ag 0) (af (ag 4) aD)))) (gTp [5,6]) (dD cH ar fuel))))
def b8(cH:Fn)(ar:Cl)(fuel:Nat):CS:=
 (bB (cY 2 (tJ (hU (af (hU aD) (af (ag 1) aD))) (jU aD)))
  (bB (cY 3 (jU (af (hU (af (hU aD) (af (ag 1) aD))) aD)))
  (bB (ef (aL (cOp fGt (cCB l5 (af (ag 3) aD)) (cC (.int 0)))) (fc cH ar fuel) fuel)
  (eV (hU (af (cC (.str "none")) (af (cCB pM (af (ag 2) aD)) aD)))))))
theorem kq{cH:Fn}{ar:Cl}{fuel:Nat}{a0 a1:U}{S:Sto}:fnU 7 2 (b8 cH ar fuel) [a0,a1] S=((b8 cH ar fuel) [some a0,some a1,none,none,none,none,none] S).bind kFn:=jH rfl
def p7(aY bX:Fn):CS:=
 (eV (cCB aY (af (cCB bX (af (ag 2) (af (ag 3) aD))) (af (ag 1) aD))))
theorem HQ{aY bX:Fn}{a0 a1 a2 a3:U}{S:Sto}:fnU 4 4 (p7 aY bX) [a0,a1,a2,a3] S=((p7 aY bX) [some a0,some a1,some a2,some a3] S).bind kFn:=jH rfl
def gq(bX aY aV aZ bw aI:Fn)(ah ar:Cl):CS:=
 (bB (fq (kx ah aV (ag 3) (af (ag 6) aD)))
  (bB (cY 7 (cCB (jS ar aI) (af (ag 3) (af (cC (.bl true)) aD))))
  (eB (Br (aL (kx ar aZ (ag 7) (af (ag 4) (af (ag 1) aD))))) (bB (cY 8 (cCB aY (af (ag 7) (af (ag 1) aD))))
  (bB (eB (aL (cOp fEq (cOp fIx (ag 8) (cC (.int 0))) (cC (.str "none")))) (eV (ag 5)) b6)
  (cY 4 (cOp fIx (ag 8) (cC (.int 1)))))) b6)))
def dJ:CS:=
 (eB (aL (cOp fEq (cCB l5 (af (ag 4) aD)) (cC (.int 2)))) (fq (cBM cR (ag 3) (af (hU (af (cOp fIx (ag 4) (cC (.int 0))) (af (cOp fIx (ag 1) (cOp fIx (ag 4) (cC (.int 1)))) aD))) aD))) (fq (cBM cR (ag 3) (af (hU (af (cOp fIx (ag 4) (cC (.int 0))) (af (cOp fIx (ag 1) (cOp fIx (ag 4) (cC (.int 1)))) (af (cOp fIx (ag 2) (cOp fIx (ag 4) (cC (.int 2)))) (af (cOp fIx (ag 4) (cC (.int 3))) aD))))) aD))))
def bD:CS:=
 (bB (cY 3 (jU aD))
  (bB (nA (iTp (ag 0)) (gNm 4) (dJ ))
  (eV (ag 3))))
theorem iI{a0 a1 a2:U}{S:Sto}:fnU 5 3 (bD ) [a0,a1,a2] S=((bD ) [some a0,some a1,some a2,none,none] S).bind kFn:=jH rfl
abbrev Pc:=List Int×List Int
def pcU(p:Pc):U:=.tup [.tup (p.1.map U.int),.tup (p.2.map U.int)]
def pcK(p:Pc):NK:=[p.1,p.2]
theorem nW(p:Pc):uX [.tup (p.1.map U.int),.tup (p.2.map U.int)]=some (pcK p):=by simp only[uX,gZ,Q8,Option.map_some,pcK]
def qh(st:St)(every:Bool)(g y:List Int)(a:Int):Bool:=match aR st a with
 |none=>false
 |some t=>(cL st every t).all (fun b=>decide (b∈g))&&t.nd.all (sU y)
theorem ue{st:St}{every:Bool}{g g' y:List Int}{a:Int}(h:∀b,b∈g↔b∈g'):qh st every g y a=qh st every g' y a:=by
 unfold qh;have:(fun b=>decide (b∈g))=fun b=>decide (b∈g'):=funext fun b=>by simp only[h b]
 rw[this]
theorem eE{st:St}{every:Bool}{gn x os:List Int}{a:Int}:dh st every gn x (a::os)=(qh st every gn x a&&dh st every (a::gn) (chg st a x) os):=rfl
theorem jR{st:St}{every:Bool}{a:Int}:∀(os gn x:List Int),dh st every gn x (os++[a])=(dh st every gn x os&&qh st every (os.reverse++gn) (lQ st x os) a)
 |[],gn,x=>by
  show(qh st every gn x a&&true)=(true&&qh st every gn x a);rw[Bool.and_true,Bool.true_and]
 |b::os,gn,x=>by
  rw[Qk,eE,jR os,eE,List.reverse_cons,Q3,List.singleton_append,Bool.and_assoc];rfl
def rj(st:St)(p:Pc)(a:Int):Pc:=(aW (p.1++[a]),chg st a p.2)
def Ce(st:St)(every:Bool)(p:Pc)(a:Int):Bool:=!decide (a∈p.1)&&qh st every p.1 p.2 a
def mH(st:St)(every:Bool)(p:Pc):List (Int×Pc):=((aS st every).filter (Ce st every p)).map fun a=>(a,rj st p a)
def wyU(w:Int×Pc):U:=.tup [.int w.1,pcU w.2]
section
variable{c cA:Cl}{n:Int}{S Y:Sto}{st:St}{a:Int}{t:Att}{every:Bool}{L:Nat}
def uS(c cA:Cl):Fn:=fnU 3 3 (cT (Ia c) cA)
def kL(c cA:Cl):Fn:=fnU 4 2 (g9 (uS c cA) (qg c cA) cA)
structure CrA(c cA:Cl)(S:Sto)(st:St)(every:Bool)(n:Int)(Y:Sto)(L:Nat):Prop where
 ex:∃C,Y=crs c S st++C
 ask:Ay cA st every S.length Y L
 hk:(aE st).Nodup
 bi:BfI st
 hl:st.length<64
 hb:∀a t,aR st a=some t->∀p∈t.nd,0<=p.1/\p.1<n
theorem CrA.app(h:CrA c cA S st every n Y L)(X:Sto):CrA c cA S st every n (Y++X) L:=by
 obtain⟨C,rfl⟩:=h.ex;exact⟨⟨C++X,Q3 ..⟩,h.ask.app X,h.hk,h.bi,h.hl,h.hb⟩
theorem CrA.val(h:CrA c cA S st every n Y L)(ha:a∈aS st every):∃t,aR st a=some t:=by
 cases hv:aR st a with
 |some t=>exact⟨t,rfl⟩
 |none=>exact absurd (kE ha) (eO.mp hv)
theorem Dr(h:CrA c cA S st every n Y L){g y:List Int}(ha:a∈aS st every)(hx:y.length=n.toNat):Wp (qg c cA [.ref L,.int a,.tup (g.map U.int),.tup (y.map U.int)] Y) fun r=>r.1=.bl (qh st every g y a)/\∃G,r.2=Y++G:=by
 obtain⟨t,hv⟩:=h.val ha;obtain⟨C,hC⟩:=h.ex;obtain⟨r1,r2,D2,h1,h2,h3,h4⟩:=h.ask.ex;obtain⟨r,e1,e2⟩:=h4 a t ha hv;have hb0:=yq h.hk h.bi hv;have hl:=h.hl;have hnl:(cL st every t).length<=100:=by unfold cL;exact Qd (List.length_filter_le ..) (by omega)
 have F2:gY cA 2 (.ref L,Y)=some (.ref r2,Y):=cm h1 rfl;have mb:qh st every g y a=((cL st every t).all (fun b=>decide (b∈g))&&t.nd.all (sU y)):=by unfold qh;rw[hv]
 rw[mb];unfold qg;rw[et];unfold aX;rwa[aJ];repeat with_reducible refine Wp.bind ?_
 refine Ci (S1:=Y) (cs:=[some (.tup (g.map U.int))]) (xs:=cL st every t) (f:=U.int) (v:=fun b=>.bl (decide (b∈g))) (uq (l:=r) (by rwa[F2,h3,e1]) e2) (fun G=>aq e2) (by omega) rfl (fun b hb G=>?_) fun G=>?_
 ·have i1:fIn false (.int b) (.tup (g.map U.int)) (Y++G)=some (.bl (decide (b∈g)),Y++G):=by
   unfold fIn;dsimp only;rw[if_pos ⟨rfl,DQ g⟩,if_neg QV,inI]
  generalize g.map U.int=gu at i1 ⊢;rwa[i1,aJ];exact⟨trivial,[],by simp⟩
 obtain⟨Z,hZ⟩:∃Z,Z=Y++(O.lst ((cL st every t).map fun b=>U.bl (decide (b∈g)))::G):=⟨_,rfl⟩;rw[<-hZ];have gz:Z[Y.length]?=some (.lst (((cL st every t).map fun b=>decide (b∈g)).map U.bl)):=by rw[hZ,ga0,QM];rfl
 have fa:yL [.ref Y.length] Z=some (.bl ((cL st every t).all fun b=>decide (b∈g)),Z):=by
  simp only[yL,gz,kK,Q8,List.all_map];rfl
 have hZC:∃C',Z=crs c S st++C':=⟨_,by rw[hZ,hC,Q3]⟩;obtain⟨C',hC'⟩:=hZC;have F0:gY cA 0 (.ref L,Z)=some (.ref S.length,Z):=cm (by rw[hZ];exact aq h1) rfl;have hfit:=xH (c:=c) (S:=S) (G:=C') h.hk hv (h.hb a t hv) hx;rw[<-hC']at hfit;cases hn:(cL st every t).all fun b=>decide (b∈g)with
 |true=>
  rw[hn]at fa;rwa[fa,F0,hfit,aJ];exact⟨by rw[Bool.true_and],by rw[hZ];exact⟨_,rfl⟩⟩
 |false=>
  rw[hn]at fa;rwa[fa,aJ];exact⟨by rw[Bool.false_and],by rw[hZ];exact⟨_,rfl⟩⟩
theorem Gj(h:CrA c cA S st every n Y L){p:Pc}(ha:a∈aS st every)(hx:p.2.length<=100)(hg:p.1.length<60):Wp (uS c cA [.ref L,pcU p,.int a] Y) fun r=>r.1=pcU (rj st p a)/\∃G,r.2=Y++G:=by
 obtain⟨t,hv⟩:=h.val ha;obtain⟨C,hC⟩:=h.ex;obtain⟨r1,r2,D2,h1,h2,h3,h4⟩:=h.ask.ex;obtain⟨Z,hZ⟩:∃Z,Z=Y++[O.lst ((aW (p.1++[a])).map U.int)]:=⟨_,rfl⟩;have cat:∀X,ke (.tup (p.1.map U.int)) (.tup [.int a]) X=some (.tup ((p.1++[a]).map U.int),X):=fun X=>by
  simp only[ke];rw[if_pos (by unfold LIM;simp;omega),QK];rfl
 have srt:jA [.tup ((p.1++[a]).map U.int)] Y=some (.ref Y.length,Z):=by
  simp only[jA,gZ,Q8];rw[if_pos (by simp;omega),hZ]
 have gz:Z[Y.length]?=some (.lst ((aW (p.1++[a])).map U.int)):=by rw[hZ,ga0];rfl
 have F0:gY cA 0 (.ref L,Z)=some (.ref S.length,Z):=cm (by rw[hZ];exact aq h1) rfl;obtain⟨C',hC'⟩:∃C',Z=crs c S st++C':=⟨_,by rw[hZ,hC,Q3]⟩;obtain⟨G',e⟩:=FO (c:=c) (S:=S) (G:=C') h.hk hv hx;rw[<-hC',<-Q3,<-hC']at e;unfold uS rj pcU;rw[mM];unfold cT;generalize (p.1++[a]).map U.int=gu at cat srt;generalize (aW (p.1++[a])).map U.int=su at gz hZ ⊢;generalize p.1.map U.int=pu at cat ⊢;generalize p.2.map U.int=yu at e ⊢;generalize (chg st a p.2).map U.int=cu at e ⊢;rwa[cat,srt,gz,F0,e,aJ];exact⟨trivial,by rw[hZ,Q3];exact⟨_,rfl⟩⟩
theorem vv(h:CrA c cA S st every n Y L){p:Pc}(hx:p.2.length=n.toNat)(hn:n<=100)(hg:p.1.length<60):Wp (kL c cA [.ref L,pcU p] Y) fun r=>∃j,r.1=.ref j/\(∃G,r.2=Y++G)/\Y.length<=j/\r.2[j]?=some (.lst ((mH st every p).map wyU)):=by
 obtain⟨r1,r2,D2,h1,h2,h3,h4⟩:=h.ask.ex;have F1:gY cA 1 (.ref L,Y)=some (.ref r1,Y):=cm h1 rfl;have hol:=f9 (st:=st) (every:=every);have hl:=h.hl;unfold kL;rw[xT];unfold g9;have x0:∀X,fIx (pcU p) (.int 0) X=some (.tup (p.1.map U.int),X):=fun _=>rfl;have x1:∀X,fIx (pcU p) (.int 1) X=some (.tup (p.2.map U.int),X):=fun _=>rfl;rwa[x0,x1,aJ];repeat with_reducible refine Wp.bind ?_
 refine vy (S1:=Y) (cs:=[some (.ref L),some (pcU p),some (.tup (p.1.map U.int)),some (.tup (p.2.map U.int))]) (xs:=aS st every) (f:=U.int) (v:=fun a=>wyU (a,rj st p a)) (p:=Ce st every p) (uq (l:=r1) (by rwa[F1]) h2) (fun G=>aq h2) (by omega) rfl (fun a ha G=>?_) fun G=>?_
 ·have hA:=h.app G;obtain⟨r1',r2',D',g1,_⟩:=hA.ask.ex;have i1:fIn true (.int a) (.tup (p.1.map U.int)) (Y++G)=some (.bl (!decide (a∈p.1)),Y++G):=by
   unfold fIn;dsimp only;rw[if_pos ⟨rfl,DQ p.1⟩,if_pos rfl,inI]
  obtain⟨⟨u,Z⟩,em,rfl,G1,hG1⟩:=Dr hA (g:=p.1) (y:=p.2) ha hx;dsimp only at hG1;have hB:=hA.app G1;rw[<-hG1]at hB;obtain⟨⟨u,Z2⟩,eb,rfl,G2,hG2⟩:=Gj hB (p:=p) ha (by omega) hg;dsimp only at hG2;have tupe:∀X,hU (af (ag 0) (af (cCB (uS c cA) (af (ag 1) (af (ag 2) (af (ag 0) aD)))) aD)) [some (.int a),some (.ref L),some (pcU p),some (.tup (p.1.map U.int)),some (.tup (p.2.map U.int))] X=(uS c cA [.ref L,pcU p,.int a] X).bind fun r=>some (.tup [.int a,r.1],r.2):=fun X=>by
   generalize pcU p=pu;rwa[];cases uS c cA [.ref L,pu,.int a] X with
   |none=>rfl
   |some r=>rfl
  rw[Q3]at hG1;have eG:Y++G++G1=Z:=by rw[hG1,Q3]
  unfold Ce;cases hi:decide (a∈p.1)with
  |true=>
   rw[hi]at i1;generalize p.1.map U.int=gu at *;generalize p.2.map U.int=yu at *;generalize pcU p=pu at *;rwa[i1,aJ];exact⟨rfl,[],by simp,fun z=>by cases z⟩
  |false=>
   rw[hi]at i1;cases hm:qh st every p.1 p.2 a with
   |false=>
    rw[hm]at em;generalize p.1.map U.int=gu at *;generalize p.2.map U.int=yu at *;generalize pcU p=pu at *;rwa[i1,g1,em,aJ];exact⟨rfl,G1,by rw[hG1],fun z=>by cases z⟩
   |true=>
    rw[hm]at em;have t1:uO (aL (cOp (fIn true) (ag 0) (ag 3))) (aL (kx cA (qg c cA) (ag 1) (af (ag 0) (af (ag 3) (af (ag 4) aD))))) [some (.int a),some (.ref L),some (pcU p),some (.tup (p.1.map U.int)),some (.tup (p.2.map U.int))] (Y++G)=some (true,Z):=by
     generalize p.1.map U.int=gu at *;generalize p.2.map U.int=yu at *;generalize pcU p=pu at *;rwa[i1,g1,em]
    rw[t1];simp only[aJ];refine⟨rfl,G1,eG.symm,fun _=>?_⟩;rw[eG,tupe,eb];simp only[Q8,aJ];exact⟨rfl,G2,hG2⟩
 ·rwa[aJ];exact⟨Y.length,rfl,⟨_,rfl⟩,QX _,by rw[ga0];unfold mH;rw[QM];rfl⟩
end
abbrev Kt:=Pc×Nat×List Int
section
variable{st:St}{every:Bool}{x:List Int}
structure Led(st:St)(every:Bool)(x os:List Int)(p:Pc):Prop where
 nd:os.Nodup
 sub:∀a∈os,a∈aS st every
 good:dh st every [] x os=true
 eq:p=(aW os,lQ st x os)
theorem vN(os:List Int)(a:Int):aW (aW os++[a])=aW (os++[a]):=
 (iC ((aN _).trans (((aN os).symm.append_right [a]).symm.symm.symm)) (gJ _))
theorem uj(os:List Int)(a:Int):lQ st x (os++[a])=chg st a (lQ st x os):=by unfold lQ;rw[List.foldl_append];rfl
theorem wQ{os:List Int}{a:Int}:a∈aW os↔a∈os:=(aN os).mem_iff
theorem qf(os:List Int)(a:Int):rj st (aW os,lQ st x os) a=(aW (os++[a]),lQ st x (os++[a])):=by
 unfold rj;rw[vN,uj]
theorem pj(os:List Int)(y:List Int)(a:Int):qh st every (aW os) y a=qh st every (os.reverse++[]) y a:=ue fun b=>by rw[wQ,QB,List.mem_reverse]
theorem Led.step{os:List Int}{p:Pc}{a:Int}(h:Led st every x os p)(ha:a∈aS st every)(hw:Ce st every p a=true):Led st every x (os++[a]) (rj st p a):=by
 obtain⟨nd,sub,good,rfl⟩:=h;unfold Ce at hw;rw[Qs,Bool.not_eq_true',decide_eq_false_iff_not,wQ]at hw;refine⟨Qo.mpr ⟨nd,by simp,fun u hu v hv e=>by rw[Qh.mp hv]at e;exact hw.1 (e▸hu)⟩,fun b hb=>?_,?_,qf os a⟩
 ·rcases Qg.mp hb with z|z
  ·exact sub b z
  ·rw[Qh.mp z];exact ha
 ·rw[jR,good,Bool.true_and,<-pj];exact hw.2
theorem wG(hk:(aE st).Nodup):(aS st every).Nodup:=((aN _).nodup_iff.mpr hk).sublist List.filter_sublist
theorem lH:(aS st every).Pairwise (·<=·):=(gJ _).sublist List.filter_sublist
theorem Led.whole{os:List Int}{p:Pc}(hk:(aE st).Nodup)(h:Led st every x os p)(hl:p.1.length=(aS st every).length):aW os=aS st every:=by
 have e:=h.eq;rw[e]at hl;rw[(aN os).length_eq]at hl;refine(iC ((List.perm_ext_iff_of_nodup (wG hk) h.nd).mpr fun a=>⟨fun ha=>?_,h.sub a⟩) lH).symm;by_cases hc:a∈os
 ·exact hc
 ·have:=List.Nodup.length_le_of_subset (ZX.mpr ⟨hc,h.nd⟩) (fun b hb=>by
   rcases QD.mp hb with rfl|z
   ·exact ha
   ·exact h.sub b z)
  rw[QU]at this;omega
theorem uL{ps:List Pc}(h0:([],x)∈ps)(hc:∀p∈ps,∀w∈mH st every p,w.2∈ps):∀(m:Nat) (os:List Int),os.length=m->os.Nodup->(∀a∈os,a∈aS st every)->dh st every [] x os=true->(aW os,lQ st x os)∈ps:=by
 intro m;induction m with
 |zero=>
  intro os hl _ _ _;rw[Qi.mp hl];have e:aW []=[]:=Qi.mp (aN []).length_eq;rw[e];exact h0
 |succ m ih=>
  intro os hl nd sub hg;rcases List.eq_nil_or_concat os with rfl|⟨q,a,hq⟩
  ·cases hl
  rw[List.concat_eq_append]at hq;subst hq;rw[jR,Qs]at hg;obtain⟨n1,_,n3⟩:=Qo.mp nd;have:=ih q (by rw[Q7]at hl;simpa using hl) n1 (fun b hb=>sub b (Qt _ hb)) hg.1;have hw:=hc _ this (a,rj st (aW q,lQ st x q) a) (by
   unfold mH;refine QF.mpr ⟨a,Z6.mpr ⟨sub a (by simp),?_⟩,rfl⟩;unfold Ce;rw[Qs,Bool.not_eq_true',decide_eq_false_iff_not,wQ];exact⟨fun z=>n3 a z a (by simp) rfl,by rw[pj];exact hg.2⟩)
  rw[qf]at hw;exact hw
end
def yJ(A:List Int):Nat->List (List Int)
 |0=>[[]]
 |n+1=>[]::A.flatMap fun a=>(yJ A n).map (a::·)
theorem rD{A:List Int}:∀(n:Nat) {os:List Int},os.length<=n->(∀a∈os,a∈A)->os∈yJ A n
 |0,os,h,_=>by
  have e:os=[]:=Qi.mp (by omega);rw[e];exact Qh.mpr rfl
 |n+1,[],_,_=>Qx
 |n+1,a::os,h,hm=>Qq _ (List.mem_flatMap.mpr ⟨a,hm a Qx,QF.mpr ⟨os,rD n (by simpa using h) fun b hb=>hm b (Qq _ hb),rfl⟩⟩)
theorem jc{A:List Int}{k:Nat}(hA:A.length<=k):∀n:Nat,(yJ A (n+1)).length<=1+k*(yJ A n).length:=fun n=>by
 have:∀B:List Int,(B.flatMap fun a=>(yJ A n).map (a::·)).length=B.length*(yJ A n).length:=fun B=>by
  induction B with
  |nil=>simp
  |cons b B ih=>rw[List.flatMap_cons,Q7,ih,Q6,QU,Nat.succ_mul,Nat.add_comm]
 show(_::_).length<=_;rw[QU,this];have:=Nat.mul_le_mul_right (yJ A n).length hA;omega
theorem yQ{A:List Int}(hA:A.length<=5):(yJ A 5).length<=3906:=by
 have h0:(yJ A 0).length=1:=rfl;have h1:=jc hA 0;have h2:=jc hA 1;have h3:=jc hA 2;have h4:=jc hA 3;have h5:=jc hA 4;simp only[Nat.zero_add,Nat.reduceAdd]at h1 h2 h3 h4 h5;omega
def dk(ks:List Kt):List (NK×U):=ks.map fun e=>(pcK e.1,U.ref e.2.1)
abbrev pl(ks:List Kt):List Pc:=ks.map (·.1)
theorem qB{p q:Pc}(h:pcK p=pcK q):p=q:=by
 unfold pcK at h;injection h with h1 h2;injection h2 with h2 _;exact Prod.ext h1 h2
theorem xY(ks:List Kt):(dk ks).map (·.1)=(pl ks).map pcK:=by unfold dk pl;rw[QM,QM];rfl
theorem DZ{ks:List Kt}{q:Pc}(h:q∉pl ks):aR (dk ks) (pcK q)=none:=eO.mpr fun z=>by
 rw[xY]at z;obtain⟨p,hp,e⟩:=QF.mp z;exact h (qB e▸hp)
theorem xX{ks:List Kt}{e:Kt}(nd:(pl ks).Nodup)(h:e∈ks):aR (dk ks) (pcK e.1)=some (.ref e.2.1):=by
 obtain⟨l,r,rfl⟩:=List.append_of_mem h;have:e.1∉pl l:=fun z=>by
  rw[pl,QK]at nd;exact(Qo.mp nd).2.2 _ z _ Qx rfl
 unfold dk;rw[QK,QJ];exact kP fun z=>this (by
  obtain⟨f,hf,he⟩:=QF.mp z;obtain⟨g,hg,rfl⟩:=QF.mp hf;exact QF.mpr ⟨g,hg,qB he⟩)
def uT(c cA:Cl):Fn:=fnU 7 2 (b8 (kL c cA) cA 9000)
section
variable{c cA:Cl}{Y:Sto}{st:St}{every:Bool}{L:Nat}{x:List Int}
structure OkS(st:St)(every:Bool)(x:List Int)(Y:Sto)(ks:List Kt)(stk:List Pc)(Z:Sto):Prop where
 ex:∃G,Z=Y++G
 d:Z[Y.length]?=some (.dnt (dk ks))
 l:Z[Y.length+2]?=some (.lst (stk.map pcU))
 at_:∀e∈ks,Z[e.2.1]?=some (.lst (e.2.2.map U.int))/\e.2.1≠Y.length+2/\Y.length<e.2.1
 nd:(pl ks).Nodup
 led:∀e∈ks,Led st every x e.2.2 e.1
 fst:([],x)∈pl ks
 sub:∀p∈stk,p∈pl ks
theorem OkS.few{ks:List Kt}{stk:List Pc}{Z:Sto}(h:OkS st every x Y ks stk Z)(hl:(aS st every).length<=5):ks.length<=3906:=by
 have n1:(ks.map (·.2.2)).Nodup:=by
  have:=List.nodup_iff_pairwise_ne.mp h.nd;refine List.nodup_iff_pairwise_ne.mpr (List.pairwise_map.mpr ((List.pairwise_map.mp this).imp_of_mem fun{e f} he hf hn z=>hn ?_));rw[(h.led e he).eq,(h.led f hf).eq,z]
 have:=List.Nodup.length_le_of_subset n1 (l₂:=yJ (aS st every) 5) fun os ho=>by
  obtain⟨e,he,rfl⟩:=QF.mp ho;have ld:=h.led e he;exact rD 5 (Qd (List.Nodup.length_le_of_subset ld.nd ld.sub) hl) ld.sub
 rw[Q6]at this;exact Qd this (yQ hl)
theorem OkS.app{ks:List Kt}{stk:List Pc}{Z:Sto}(h:OkS st every x Y ks stk Z)(X:Sto):OkS st every x Y ks stk (Z++X):=by
 obtain⟨G,rfl⟩:=h.ex;exact⟨⟨G++X,Q3 ..⟩,aq h.d,aq h.l,fun e he=>⟨aq (h.at_ e he).1,(h.at_ e he).2⟩,h.nd,h.led,h.fst,h.sub⟩
theorem OkS.ni{ks:List Kt}{stk:List Pc}{Z:Sto}(h:OkS st every x Y ks stk Z)(q:Pc):Et (pcU q) (.ref Y.length) Z=some (.bl (!decide (q∈pl ks)),Z):=by
 have e:(aR (dk ks) (pcK q)).isSome=decide (q∈pl ks):=by
  by_cases hq:q∈pl ks
  ·obtain⟨e,he,rfl⟩:=QF.mp hq;rw[xX h.nd he,decide_eq_true hq];rfl
  ·rw[DZ hq,decide_eq_false hq];rfl
 unfold pcU;simp only[Et,nW,Q8,Eu,h.d,e]
theorem OkS.ix{ks:List Kt}{stk:List Pc}{Z:Sto}(h:OkS st every x Y ks stk Z){e:Kt}(he:e∈ks):Bk (.ref Y.length) (pcU e.1) Z=some (.ref e.2.1,Z):=by
 unfold pcU;simp only[Bk,nW,Q8,Eu,h.d,xX h.nd he]
theorem F8{ks:List Kt}{stk:List Pc}{Z:Sto}{e:Kt}{a:Int}{tu:U}(h:OkS st every x Y ks stk Z)(he:e∈ks)(ha:a∈aS st every)(hw:Ce st every e.1 a=true)(hl:(aS st every).length<=5)(hs:stk.length<=9000) :
  Wp (dD (kL c cA) cA 9000 [some (.ref L),some tu,some (.ref Y.length),some (.ref (Y.length+2)),some (pcU e.1),some (.int a),some (pcU (rj st e.1 a))] Z) fun s=>s.1=.nx/\s.2.1=[some (.ref L),some tu,some (.ref Y.length),some (.ref (Y.length+2)),some (pcU e.1),some (.int a),some (pcU (rj st e.1 a))]/\
   ∃ks' stk',OkS st every x Y ks' stk' s.2.2/\rj st e.1 a∈pl ks'/\(∀f∈ks,f∈ks')/\(∀q,q∈pl ks'->q∈pl ks\/q∈stk')/\(∀q∈stk,q∈stk')/\ks'.length-ks.length=stk'.length-stk.length/\ks.length<=ks'.length/\stk.length<=stk'.length/\∀i,i<Z.length->i≠Y.length->i≠Y.length+2->s.2.2[i]?=Z[i]?:=by
 have hni:=h.ni (rj st e.1 a);obtain⟨q,hq⟩:∃q,q=rj st e.1 a:=⟨_,rfl⟩;rw[<-hq]at hni ⊢;unfold dD;by_cases hc:q∈pl ks
 ·rw[decide_eq_true hc]at hni;generalize pcU q=qu at hni ⊢;generalize pcU e.1=pu;rwa[hni,aJ];exact⟨trivial,trivial,ks,stk,h,hc,fun f hf=>hf,fun q hq=>.inl hq,fun q hq=>hq,by omega,by omega,by omega,fun i _ _ _=>trivial⟩
 ·rw[decide_eq_false hc]at hni;have hix:=h.ix he;have hfew:=h.few hl;obtain⟨G,hG⟩:=h.ex;have lD:Y.length<Z.length:=(Q5.mp h.d).1;have lK:Y.length+2<Z.length:=(Q5.mp h.l).1;obtain⟨a1,a2,a3⟩:=h.at_ e he;obtain⟨os,hos⟩:∃os,os=e.2.2:=⟨_,rfl⟩;rw[<-hos]at a1;obtain⟨Z1,hZ1⟩:∃Z1,Z1=Z++[O.lst [U.int a]]:=⟨_,rfl⟩;obtain⟨Z2,hZ2⟩:∃Z2,Z2=Z1++[O.lst ((os++[a]).map U.int)]:=⟨_,rfl⟩;have ol:os.length<=5:=by rw[hos];exact Qd (List.Nodup.length_le_of_subset (h.led e he).nd (h.led e he).sub) hl
  have cat:ke (.ref e.2.1) (.ref Z.length) Z1=some (.ref Z1.length,Z2):=by
   have g1:Z1[e.2.1]?=some (.lst (os.map U.int)):=by rw[hZ1];exact aq a1
   have g2:Z1[Z.length]?=some (.lst [U.int a]):=by rw[hZ1,ga0];rfl
   have ec:ke (.ref e.2.1) (.ref Z.length) Z1=lZ (.ref e.2.1) (.ref Z.length) Z1:=by simp only[ke]
   rw[ec];simp only[lZ,g1,g2];rw[if_pos (by unfold LIM;simp;omega),hZ2,QK];rfl
  have d2:Z2[Y.length]?=some (.dnt (dk ks)):=by rw[hZ2,hZ1];exact aq (aq h.d)
  have l2:Z2[Y.length+2]?=some (.lst (stk.map pcU)):=by rw[hZ2,hZ1];exact aq (aq h.l)
  have nk:uX [.tup (q.1.map U.int),.tup (q.2.map U.int)]=some (pcK q):=nW q;have pn:fj (dk ks) (pcK q) (.ref Z1.length)=dk (ks++[(q,Z1.length,os++[a])]):=by
   rw[kC (fun z=>by rw[xY]at z;obtain⟨p,hp,e⟩:=QF.mp z;exact hc (qB e▸hp))];unfold dk;rw[QK];rfl
  obtain⟨Z3,hZ3⟩:∃Z3,Z3=Z2.set Y.length (.dnt (dk (ks++[(q,Z1.length,os++[a])]))):=⟨_,rfl⟩;have lD2:Y.length<Z2.length:=(Q5.mp d2).1;have l3:Z3[Y.length+2]?=some (.lst (stk.map pcU)):=by rw[hZ3,Qu (by omega)];exact l2
  have lK3:Y.length+2<Z3.length:=(Q5.mp l3).1;have sx:∀ρ:Rho,cOp ke (cOp Bk (ag 2) (ag 4)) (jU (af (ag 5) aD)) ρ Z=some (.ref Z1.length,Z2)->ag 2 ρ Z2=some (.ref Y.length,Z2)->ag 6 ρ Z2=some (pcU q,Z2)->oA (ag 2) (ag 6) (cOp ke (cOp Bk (ag 2) (ag 4)) (jU (af (ag 5) aD))) ρ Z=some (.nx,ρ,Z3):=fun ρ h1 h2 h3=>by
   unfold pcU at h3;simp only[oA,h1,h2,h3,d2,nk,Q8];rw[if_pos (by unfold dk LIM;rw[Q6];omega),pn,hZ3]
  have sx':=sx [some (.ref L),some tu,some (.ref Y.length),some (.ref (Y.length+2)),some (pcU e.1),some (.int a),some (pcU q)] (by
   generalize pcU q=qu;generalize pcU e.1=pu at hix ⊢;have hl1:∀ρ:Rho,ag 5 ρ Z=some (.int a,Z)->jU (af (ag 5) aD) ρ Z=some (.ref Z.length,Z1):=fun ρ h=>by
    rw[BI,oN,h,hZ1];rfl
   have hl2:=hl1 [some (.ref L),some tu,some (.ref Y.length),some (.ref (Y.length+2)),some pu,some (.int a),some qu] rfl;rwa[hix,hl2,cat]) rfl rfl
  have hA:(stk.map pcU).length<LIM:=by unfold LIM;rw[Q6];omega
  have em:stk.map pcU++[pcU q]=(stk++[q]).map pcU:=by rw[QK];rfl
  obtain⟨su,hsu⟩:∃su,su=stk.map pcU:=⟨_,rfl⟩;have l3':=l3;rw[<-hsu]at l3' hA;have em':su++[pcU q]=(stk++[q]).map pcU:=by rw[hsu];exact em
  have fin:OkS st every x Y (ks++[(q,Z1.length,os++[a])]) (stk++[q]) (Z3.set (Y.length+2) (.lst ((stk++[q]).map pcU))):=by
   have z2:∃G',Z2=Y++G':=⟨_,by rw[hZ2,hZ1,hG,Q3,Q3]⟩;obtain⟨G',hG'⟩:=z2;refine⟨⟨(G'.set 0 (.dnt (dk (ks++[(q,Z1.length,os++[a])])))).set 2 (.lst ((stk++[q]).map pcU)),by rw[hZ3,hG',gs0,gs]⟩,?_,?_,fun f hf=>?_,?_,fun f hf=>?_,?_,fun p hp=>?_⟩
   ·rw[Qu (by omega),hZ3,ZD,if_pos rfl,if_pos lD2]
   ·rw[ZD,if_pos rfl,if_pos lK3]
   ·rcases Qg.mp hf with z|z
    ·obtain⟨b1,b2,b3⟩:=h.at_ f z;refine⟨?_,b2,b3⟩;rw[Qu (by omega),hZ3,Qu (by omega),hZ2,hZ1];exact aq (aq b1)
    ·rw[Qh.mp z];have lz:Z1.length=Z.length+1:=by rw[hZ1];simp
     refine⟨?_,by dsimp only;omega,by dsimp only;omega⟩;dsimp only;rw[Qu (by omega),hZ3,Qu (by omega),hZ2,ga0];rfl
   ·rw[pl,QK];exact Qo.mpr ⟨h.nd,by simp,fun u hu v hv z=>by rw[Qh.mp hv]at z;have z':u=q:=z;rw[z']at hu;exact hc hu⟩
   ·rcases Qg.mp hf with z|z
    ·exact h.led f z
    ·rw[Qh.mp z,hq,hos];exact(h.led e he).step ha hw
   ·rw[pl,QK];exact Qt _ h.fst
   ·rw[pl,QK];rcases Qg.mp hp with z|z
    ·exact Qt _ (h.sub p z)
    ·exact Qz _ (by rw[Qh.mp z];simp)
  generalize pcU q=qu at *;generalize pcU e.1=pu at *;rwa[hni,sx',l3',kN hA,aJ];rw[em'];refine⟨trivial,trivial,_,_,fin,?_,fun f hf=>Qt _ hf,fun p hp=>?_,fun p hp=>Qt _ hp,by simp,by simp,by simp,fun i hi n1 n2=>?_⟩
  ·rw[pl,QK];exact Qz _ (by simp)
  ·rw[pl,QK]at hp;rcases Qg.mp hp with z|z
   ·exact .inl z
   ·exact .inr (Qz _ (by simpa using z))
  ·rw[Qu (by omega),hZ3,Qu (by omega),hZ2,hZ1,QZ (by simp;omega),QZ hi]
end
section
variable{c cA:Cl}{n:Int}{S Y:Sto}{st:St}{every:Bool}{L:Nat}{x:List Int}
theorem pw:∀(os x:List Int),(lQ st x os).length=x.length
 |[],x=>rfl
 |a::os,x=>by
  show(lQ st (chg st a x) os).length=_;rw[pw os,oz]
def ClP(st:St)(every:Bool)(ks:List Kt)(stk:List Pc):Prop:=∀p∈pl ks,p∉stk->p.1.length≠(aS st every).length/\∀w∈mH st every p,w.2∈pl ks
def Ib(st:St)(every:Bool)(x:List Int)(Y:Sto)(r:U×Sto):Prop:=(∃G,r.2=Y++G)/\∃j,Y.length<=j/\
  ((∃os,r.1=.tup [.str "good",.ref j]/\r.2[j]?=some (.lst (os.map U.int))/\aW os=aS st every/\dh st every [] x os=true)\/
   (∃ps:List Pc,r.1=.tup [.str "none",.ref j]/\r.2[j]?=some (.lst (ps.map pcU))/\∀os,aW os=aS st every->dh st every [] x os=false))
theorem A5(h:CrA c cA S st every n Y L)(hx:x.length=n.toNat)(hn:n<=100)(hl:(aS st every).length<=5):Wp (uT c cA [.ref L,.tup (x.map U.int)] Y) (Ib st every x Y):=by
 obtain⟨r1,r2,D2,h1,h2,h3,h4⟩:=h.ask.ex;unfold uT;rw[kq];unfold b8;have s0:aW []=[]:=Qi.mp (aN []).length_eq;have hd:tJ (hU (af (hU aD) (af (ag 1) aD))) (jU aD) [some (.ref L),some (.tup (x.map U.int)),none,none,none,none,none] Y=some (.ref Y.length,Y++[.dnt (dk [(([],x),Y.length+1,[])]),.lst []]):=by
  have h1:∀ρ:Rho,ag 1 ρ (Y++[.dnt []])=some (.tup (x.map U.int),Y++[.dnt []])->hU (af (hU aD) (af (ag 1) aD)) ρ (Y++[.dnt []])=some (.tup [.tup [],.tup (x.map U.int)],Y++[.dnt []]):=fun ρ h=>by
   generalize x.map U.int=xu at h ⊢;simp only[BA,oN,BD,h,Q8,qm,ql,uZ]
  have nk:uX [.tup [],.tup (x.map U.int)]=some (pcK ([],x)):=nW ([],x);unfold tJ;rw[h1 _ rfl,Q8];have hl:∀ρ:Rho,jU aD ρ (Y++[O.dnt []])=some (.ref (Y.length+1),Y++[.dnt [],.lst []]):=fun ρ=>by
   show some (U.ref (Y++[O.dnt []]).length,Y++[O.dnt []]++[.lst []])=_;rw[Q7,Q3];rfl
  simp only[hl,Q8,nk,ga0,ZZ];rw[gs0];rfl
 have kt:∀ρ:Rho,ag 1 ρ (Y++[O.dnt (dk [(([],x),Y.length+1,[])]),.lst []])=some (.tup (x.map U.int),Y++[O.dnt (dk [(([],x),Y.length+1,[])]),.lst []])->jU (af (hU (af (hU aD) (af (ag 1) aD))) aD) ρ (Y++[O.dnt (dk [(([],x),Y.length+1,[])]),.lst []])=some (.ref (Y.length+2),Y++[O.dnt (dk [(([],x),Y.length+1,[])]),.lst [],.lst [pcU ([],x)]]):=fun ρ h=>by
  have ep:pcU ([],x)=.tup [.tup [],.tup (x.map U.int)]:=rfl;rw[ep];generalize x.map U.int=xu at h ⊢;generalize dk [(([],x),Y.length+1,[])]=dd at h ⊢;simp only[BI,BA,oN,BD,h,Q8,qm,ql,uZ,AA];simp
 have kt':=kt [some (.ref L),some (.tup (x.map U.int)),some (.ref Y.length),none,none,none,none] rfl;have ok0:OkS st every x Y [(([],x),Y.length+1,[])] [([],x)] (Y++[O.dnt (dk [(([],x),Y.length+1,[])]),.lst [],.lst [pcU ([],x)]]):=by
  refine⟨⟨_,rfl⟩,by rw[ga0];rfl,by rw[ga];rfl,fun e he=>?_,by simp,fun e he=>?_,by simp,fun p hp=>by simpa using hp⟩
  ·rw[Qh.mp he];exact⟨by rw[ga];rfl,by dsimp only;omega,by dsimp only;omega⟩
  ·rw[Qh.mp he];exact⟨ZC,fun a ha=>(by cases ha),rfl,by rw[s0];rfl⟩
 generalize hZ0:Y++[O.dnt (dk [(([],x),Y.length+1,[])]),.lst [],.lst [pcU ([],x)]]=Z0 at kt' ok0;generalize hZ00:Y++[O.dnt (dk [(([],x),Y.length+1,[])]),.lst []]=Z00 at kt' hd;obtain⟨xu,hxu⟩:∃xu,xu=x.map U.int:=⟨_,rfl⟩;rw[<-hxu]at hd kt' ⊢;rwa[hd,kt',aJ];repeat with_reducible refine Wp.bind ?_
 refine AG (fun m ρ Z=>∃ks stk r4 r5 r6,ρ=[some (.ref L),some (.tup xu),some (.ref Y.length),some (.ref (Y.length+2)),r4,r5,r6]/\OkS st every x Y ks stk Z/\ClP st every ks stk/\m=2*(4000-ks.length)+stk.length/\stk.length<=ks.length) (fun m ρ Z hI=>?_) 9000 (2*(4000-1)+1) _ _ (by omega) ⟨_,_,none,none,none,rfl,ok0,fun p hp hn=>absurd (by simpa using hp) hn,rfl,by simp⟩;obtain⟨ks,stk,r4,r5,r6,rfl,ok,cl,hm,hsk⟩:=hI;have few:=ok.few hl;have hsl:=ok.l;obtain⟨su,hsu⟩:∃su,su=stk.map pcU:=⟨_,rfl⟩;have lsu:su.length=stk.length:=by rw[hsu,Q6]
 have hsl':=hsl;rw[<-hsu]at hsl';have t1:aL (cOp fGt (cCB l5 (af (ag 3) aD)) (cC (.int 0))) [some (.ref L),some (.tup xu),some (.ref Y.length),some (.ref (Y.length+2)),r4,r5,r6] Z=some (decide ((stk.length:Int)>0),Z):=by
  rwa[hsl',lsu]
 rw[t1];simp only[aJ];refine⟨fun hz=>?_,fun hz=>?_⟩
 ·have hs:stk=[]:=by have:=of_decide_eq_false hz;exact Qi.mp (by omega)
  subst hs;have hL:pM [.ref Y.length] Z=some (.ref Z.length,Z++[.lst ((pl ks).map pcU)]):=by
   simp only[pM,ok.d];unfold dk pl;rw[QM,QM];rfl
  obtain⟨pu,hpu⟩:∃pu,pu=(pl ks).map pcU:=⟨_,rfl⟩;rw[<-hpu]at hL;rwa[hL,aJ];obtain⟨G,hG⟩:=ok.ex;refine⟨⟨_,by rw[hG,Q3]⟩,Z.length,by rw[hG];simp,.inr ⟨pl ks,rfl,by rw[ga0,hpu];rfl,fun os ho=>?_⟩⟩;cases hg:dh st every [] x os with
  |false=>rfl
  |true=>
   have pm:=(aN os).symm;rw[ho]at pm;have ond:=wG (every:=every) h.hk;have:=uL (st:=st) (every:=every) ok.fst (fun p hp w hw=>(cl p hp (by simp)).2 w hw) os.length os rfl (pm.nodup_iff.mpr ond) (fun a ha=>pm.mem_iff.mp ha) hg;exact absurd (by rw[ho]) (cl _ this (by simp)).1
 ·have hz':=of_decide_eq_true hz;obtain⟨s',p,rfl⟩:∃s' p,stk=s'++[p]:=by
   rcases List.eq_nil_or_concat stk with rfl|⟨q,a,hq⟩
   ·simp at hz'
   ·exact⟨q,a,by rw[hq,List.concat_eq_append]⟩
  obtain⟨e,he,hep⟩:=QF.mp (ok.sub p (by simp));have hep':e.1=p:=hep;obtain⟨Z1,hZ1⟩:∃Z1,Z1=Z.set (Y.length+2) (.lst (s'.map pcU)):=⟨_,rfl⟩;have lK:Y.length+2<Z.length:=(Q5.mp hsl).1;have pop:yK (.ref (Y.length+2)) [] Z=some (pcU p,Z1):=by
   have e1:(s'++[p]).map pcU=s'.map pcU++[pcU p]:=by rw[QK];rfl
   rw[e1]at hsl;have e2:(s'.map pcU++[pcU p])[(s'.map pcU++[pcU p]).length-1]?=some (pcU p):=by simp
   simp only[yK,hsl,e2,Q8,List.dropLast_concat];rw[hZ1]
  have ok1:OkS st every x Y ks s' Z1:=by
   obtain⟨G,hG⟩:=ok.ex;refine⟨⟨G.set 2 (.lst (s'.map pcU)),by rw[hZ1,hG,gs]⟩,by rw[hZ1,Qu (by omega)];exact ok.d,by rw[hZ1,ZD,if_pos rfl,if_pos lK],fun f hf=>?_,ok.nd,ok.led,ok.fst,fun q hq=>ok.sub q (Qt _ hq)⟩;obtain⟨b1,b2,b3⟩:=ok.at_ f hf;exact⟨by rw[hZ1,Qu (by omega)];exact b1,b2,b3⟩
  have hA:CrA c cA S st every n Z1 L:=by obtain⟨G,hG⟩:=ok1.ex;rw[hG];exact h.app G
  obtain⟨r1',r2',D',g1,g2,_⟩:=hA.ask.ex;have F1:gY cA 1 (.ref L,Z1)=some (.ref r1',Z1):=cm g1 rfl;have led:=ok.led e he;have pl1:p.1.length<=5:=by
   rw[<-hep',led.eq,(aN _).length_eq];exact Qd (List.Nodup.length_le_of_subset led.nd led.sub) hl
  have pl2:p.2.length=n.toNat:=by rw[<-hep',led.eq];exact(pw _ _).trans hx
  have x0:fIx (pcU p) (.int 0) Z1=some (.tup (p.1.map U.int),Z1):=rfl;obtain⟨ou,hou⟩:∃ou,ou=(aS st every).map U.int:=⟨_,rfl⟩;have lou:ou.length=(aS st every).length:=by rw[hou,Q6]
  rw[<-hou]at g2;obtain⟨gu,hgu⟩:∃gu,gu=p.1.map U.int:=⟨_,rfl⟩;have lgu:gu.length=p.1.length:=by rw[hgu,Q6]
  rw[<-hgu]at x0;have hix:=ok1.ix he;rw[hep']at hix;obtain⟨⟨u,Z2⟩,ew,j,rfl,⟨G2,hG2⟩,lj,gj⟩:=vv hA (p:=p) pl2 hn (by omega);dsimp only at hG2 gj;unfold fc;by_cases hw:p.1.length=(aS st every).length
  ·have dw:decide ((p.1.length:Int)=((aS st every).length:Int))=true:=decide_eq_true (by rw[hw]);generalize pcU p=pu at *;rwa[hsl',pop,x0,lgu,F1,g2,lou,dw,hix,aJ];refine .inr ⟨_,rfl,ok1.ex,e.2.1,Nat.le_of_lt (ok1.at_ e he).2.2,.inl ⟨e.2.2,rfl,(ok1.at_ e he).1,?_,led.good⟩⟩;exact led.whole h.hk (by rw[hep'];exact hw)
  ·have dw:decide ((p.1.length:Int)=((aS st every).length:Int))=false:=decide_eq_false (by omega);obtain⟨pu,hpu⟩:∃pu,pu=pcU p:=⟨_,rfl⟩;rw[<-hpu]at x0 hix ew pop;rwa[hsl',pop,x0,lgu,F1,g2,lou,dw,aJ];refine Io (S1:=Z2) (uq (l:=j) (us:=(mH st every p).map wyU) (by rwa[ew]) gj) (vx (f:=wyU) (fun rest ρ Z'=>∃dn ks' stk' r5 r6,mH st every p=dn++rest/\ρ=[some (.ref L),some (.tup xu),some (.ref Y.length),some (.ref (Y.length+2)),some pu,r5,r6]/\OkS st every x Y ks' stk' Z'/\(∀w∈dn,w.2∈pl ks')/\(∀f∈ks,f∈ks')/\(∀q,q∈pl ks'->q∈pl ks\/q∈stk')/\(∀q∈s',q∈stk')/\ks'.length-ks.length=stk'.length-s'.length/\ks.length<=ks'.length/\s'.length<=stk'.length/\Z'[j]?=some (.lst ((mH st every p).map wyU))) (fun ρ Z' hI=>?_) (fun w rest ρ Z' hI=>?_) (mH st every p) _ _ ⟨[],ks,s',r5,r6,rfl,rfl,by rw[hG2];exact ok1.app G2,fun w hw=>(by cases hw),fun f hf=>hf,fun q hq=>.inl hq,fun q hq=>hq,by omega,by omega,by omega,gj⟩)
   ·obtain⟨dn,ks',stk',r5,r6,hd,rfl,ok',hdn,hks,hnew,hst,e1,e2,e3,gj'⟩:=hI;rw[QB]at hd;refine⟨gj',.inl ⟨rfl,_,?_,ks',stk',_,_,_,rfl,ok',fun q hq hn=>?_,rfl,?_⟩⟩
    ·have f':=ok'.few hl;rw[Q7,Qw]at hm;omega
    ·have hqk:=(hnew q hq).resolve_right hn;have mono:∀r,r∈pl ks->r∈pl ks':=fun r hr=>by
      obtain⟨f,hf,rfl⟩:=QF.mp hr;exact QF.mpr ⟨f,hks f hf,rfl⟩
     by_cases hqp:q=p
     ·subst hqp;exact⟨hw,fun w hw'=>hdn w (by rw[<-hd];exact hw')⟩
     ·obtain⟨c1,c2⟩:=cl q hqk (fun z=>by
       rcases Qg.mp z with z|z
       ·exact hn (hst q z)
       ·exact hqp (Qh.mp z))
      exact⟨c1,fun w hw'=>mono _ (c2 w hw')⟩
    ·rw[Q7,Qw]at hsk;omega
   ·obtain⟨dn,ks',stk',r5,r6,hd,rfl,ok',hdn,hks,hnew,hst,e1,e2,e3,gj'⟩:=hI;refine⟨gj',?_⟩;have hwm:w∈mH st every p:=by rw[hd];simp
    obtain⟨a,haf,rfl⟩:=QF.mp hwm;obtain⟨ha1,ha2⟩:=Z6.mp haf;refine .of (r:=([some (.ref L),some (.tup xu),some (.ref Y.length),some (.ref (Y.length+2)),some pu,some (.int a),some (pcU (rj st p a))],Z')) rfl ?_;have f':=ok'.few hl;have put:=F8 (c:=c) (cA:=cA) (L:=L) (tu:=.tup xu) ok' (hks e he) (a:=a) ha1 (by rw[hep'];exact ha2) hl (by rw[Q7,Qw]at hsk;omega);rw[hep',<-hpu]at put;have lj':j<Z'.length:=(Q5.mp gj').1;have lZ1:Y.length+2<Z1.length:=(Q5.mp ok1.l).1;refine put.mono fun s hs=>?_;obtain⟨q1,q2,ks2,stk2,q3,q4,q5,q6,q7,q8,q9,q10,q11⟩:=hs;refine .inl ⟨q1,dn++[(a,rj st p a)],ks2,stk2,_,_,by simp[hd],q2,q3,fun w hw=>?_,fun f hf=>q5 f (hks f hf),fun q hq=>?_,fun q hq=>q7 q (hst q hq),by omega,by omega,by omega,by rw[q11 j lj' (by omega) (by omega)];exact gj'⟩
    ·rcases Qg.mp hw with z|z
     ·obtain⟨f,hf,hfe⟩:=QF.mp (hdn w z);rw[<-hfe];exact QF.mpr ⟨f,q5 f hf,rfl⟩
     ·rw[Qh.mp z];exact q4
    ·rcases q6 q hq with z|z
     ·rcases hnew q z with y|y
      ·exact .inl y
      ·exact .inr (q7 q y)
     ·exact .inr z
end
section
variable{p:Nat->Prop}{c:Cl}{S:Sto}{st:St}{o:O}
theorem k9:∀{us:List U},(∀u∈us,RfU p u)->RfL p us
 |[],_=>by unfold RfL;trivial
 |u::us,h=>by unfold RfL;exact⟨h u (by simp),k9 fun w hw=>h w (by simp[hw])⟩
theorem vW(xs:List Int):RfL p (xs.map U.int):=k9 fun u hu=>by
 obtain⟨x,_,rfl⟩:=QF.mp hu;unfold RfU;trivial
theorem sZ{B j:Nat}{u:U}:∀{st:St} {i:Nat},u∈(eW B j st i).map (·.2)->∃q,q<st.length/\u=.ref (B+(6+(4*(i+q)+j)))
 |[],i,h=>by cases h
 |x::r,i,h=>by
  rcases QD.mp h with rfl|h
  ·exact⟨0,by simp,rfl⟩
  ·obtain⟨q,h1,rfl⟩:=sZ h;exact⟨q+1,by simp;omega,by rw[Nat.add_assoc i 1 q,Nat.add_comm 1 q]⟩
theorem jT:(crs c S st).length=S.length+(6+4*st.length):=by unfold crs;rw[ed,eC]
theorem tN:∀{st:St},o∈mx st->∃t:Att,o∈blk t
 |[],h=>by cases h
 |x::r,h=>by
  rcases Qg.mp h with h|h
  ·exact⟨_,h⟩
  ·exact tN h
theorem HW(hp:∀l,S.length<=l->l<(crs c S st).length->p l){i:Nat}(hi:S.length<=i)(h:(crs c S st)[i]?=some o):RfO p o:=by
 rw[jT]at hp;obtain⟨q,rfl⟩:=Nat.exists_eq_add_of_le hi;unfold crs at h;rw[ga]at h;have enc:∀j,j<4->RfL p ((eW S.length j st 0).map (·.2)):=fun j hj=>k9 fun u hu=>by
  obtain⟨q,hq,rfl⟩:=sZ hu;unfold RfU;exact hp _ (by omega) (by omega)
 rcases Qg.mp (List.mem_of_getElem? h)with h|h
 ·simp only[hd,QD,Qe,or_false]at h;rcases h with rfl|rfl|rfl|rfl|rfl|rfl
  ·intro i u hu;rcases i with _|_|_|_|_|i<;>cases hu<;>unfold RfU<;>exact hp _ (by omega) (by omega)
  ·exact k9 fun u hu=>by
    unfold eX at hu;rw[QM]at hu;obtain⟨x,_,rfl⟩:=QF.mp hu;simp only[Function.comp];unfold RfU;trivial
  ·exact enc 1 (by omega)
  ·exact enc 2 (by omega)
  ·exact enc 3 (by omega)
  ·exact enc 0 (by omega)
 ·obtain⟨t,h⟩:=tN h;simp only[blk,QD,Qe,or_false]at h;rcases h with rfl|rfl|rfl|rfl
  ·exact vW _
  ·exact k9 fun u hu=>by
    obtain⟨x,_,rfl⟩:=QF.mp hu;show RfL p _;unfold RfL RfL RfL;exact⟨by unfold RfU;trivial,by unfold RfU;trivial,trivial⟩
  ·exact k9 fun u hu=>by
    unfold oI at hu;rw[QM]at hu;obtain⟨x,_,rfl⟩:=QF.mp hu;simp only[Function.comp];unfold RfU;trivial
  ·exact k9 fun u hu=>by
    unfold jI at hu;rw[QM]at hu;obtain⟨x,_,rfl⟩:=QF.mp hu;simp only[Function.comp];unfold RfU;trivial
end
section
variable{K:Q1}{m m0:List Addr}{H H0:Hp}{S S0 S' G:Sto}{c:Cl}{st:St}{o:O}
theorem w6(r:Sr K m S H)(f:Nat->Nat)(hf:∀i,i<S'.length->f i<S.length)(inj:∀i j,i<j->j<S'.length->f i≠f j):∃m':List Addr,m'.length=S'.length/\(∀i,i<S'.length->m'[i]?=m[f i]?)/\
  ((∀(i:Nat) (o':O),S'[i]?=some o'->∃o,S[f i]?=some o/\∀a,Ob K m H a o->Ob K m' H a o')->Sr K m' S' H):=by
 have hm:∀i,i<S'.length->((Qr S'.length).map fun i=>(m[f i]?).getD default)[i]?=m[f i]?:=fun i hi=>by
  have:=hf i hi;rw[<-r.len]at this;rw[QC,List.getElem?_range hi];show some ((m[f i]?).getD default)=_;rw[Q4 this];rfl
 have hl:((Qr S'.length).map fun i=>(m[f i]?).getD default).length=S'.length:=by simp
 refine⟨_,hl,hm,fun h=>Sr.gc r hl ?_ fun i a o' h1 h2=>?_⟩
 ·refine List.pairwise_iff_getElem.mpr fun i j hi hj hlt he=>?_;rw[hl]at hi hj;have e:m[f i]?=m[f j]?:=by rw[<-hm i hi,<-hm j hj,Q4 (by rw[hl];exact hi),Q4 (by rw[hl];exact hj),he]
  exact inj i j hlt hj ((List.getElem?_inj (by rw[r.len];exact hf i hi) r.nd).mp e)
 ·have hi:i<S'.length:=(Q5.mp h2).1;rw[hm i hi]at h1;obtain⟨o,e,g⟩:=h i o' h2;exact⟨f i,o,h1,e,g a⟩
theorem A0{m':List Addr}(h:∀l,l<m0.length->m'[l]?=m0[l]?):∃t,m'=m0++t:=by
 refine⟨m'.drop m0.length,?_⟩;have:m'.take m0.length=m0:=List.ext_getElem? fun l=>by
  by_cases hl:l<m0.length
  ·rw[List.getElem?_take_of_lt hl,h l hl]
  ·rw[Z7 (by simp;omega),Z7 (by omega)]
 conv=>lhs;rw[<-List.take_append_drop m0.length m',this]
def Cls(S:Sto):Prop:=∀(i:Nat) (o:O),S[i]?=some o->RfO (· < S.length) o
theorem yc:∃T:Sto,∀os:List Int,crs c (S0++[.lst (os.map U.int)]) st=S0++(.lst (os.map U.int)::T):=⟨_,fun os=>by
 unfold crs;rw[Q7,Qw,Q3,List.singleton_append]⟩
theorem DM{os os':List Int}{j:Nat}(l0:m0.length=S0.length)(cl:Cls S0)(e:Ext K m0 H0 m H)(sr:Sr K m (crs c (S0++[.lst (os.map U.int)]) st++G) H)
  (gj:(crs c (S0++[.lst (os.map U.int)]) st++G)[j]?=some (.lst (os'.map U.int))) (hj:j=S0.length\/S0.length+(7+4*st.length)<=j) :
  ∃m',Ext K m0 H0 m' H/\Sr K m' (crs c (S0++[.lst (os'.map U.int)]) st) H/\m'[S0.length]?=m[j]?/\∀l,l<S0.length+(7+4*st.length)->l≠S0.length->m'[l]?=m[l]?:=by
 have N:∀os:List Int,(crs c (S0++[.lst (os.map U.int)]) st).length=S0.length+(7+4*st.length):=fun os=>by rw[jT,Q7,Qw];omega
 have jl:=(Q5.mp gj).1;obtain⟨m',k1,k2,k3⟩:=w6 (S':=crs c (S0++[.lst (os'.map U.int)]) st) sr (fun i=>if i=S0.length then j else i) (fun i hi=>by
  rw[N]at hi;split
  ·exact jl
  ·rw[Q7,N];omega) fun i i2 hlt h2=>by
   rw[N]at h2;split<;>split<;>omega
 rw[N]at k1 k2;have kk:m'[S0.length]?=m[j]?:=by rw[k2 _ (by omega),if_pos rfl]
 have kl:∀l,l<S0.length+(7+4*st.length)->l≠S0.length->m'[l]?=m[l]?:=fun l h1 h2=>by rw[k2 l h1,if_neg h2]
 refine⟨m',⟨A0 fun l hl=>?_,e.keep⟩,k3 fun i o' ho=>?_,kk,kl⟩
 ·rw[kl l (by omega) (by omega)];obtain⟨t,rfl⟩:=e.pre;rw[QZ hl]
 ·have hi:i<S0.length+(7+4*st.length):=by have:=(Q5.mp ho).1;rw[N]at this;exact this
  by_cases h1:i=S0.length
  ·subst h1;rw[if_pos rfl];have:o'=.lst (os'.map U.int):=by
    unfold crs at ho;rw[QZ (by simp),ga0]at ho;cases ho;rfl
   subst this;exact⟨_,gj,fun a h=>h.ren (p:=fun _=>False) (fun l hl=>hl.elim) (vW _)⟩
  ·rw[if_neg h1];have same:(crs c (S0++[.lst (os.map U.int)]) st++G)[i]?=some o':=by
    rw[QZ (by rw[N];exact hi),<-ho];obtain⟨T,hT⟩:=yc (c:=c) (S0:=S0) (st:=st);rw[hT,hT];by_cases h2:i<S0.length
    ·rw[QZ h2,QZ h2]
    ·obtain⟨q,rfl⟩:∃q,i=S0.length+(q+1):=⟨i-S0.length-1,by omega⟩;rw[ga,ga];rfl
   refine⟨_,same,fun a h=>?_⟩;by_cases h2:i<S0.length
   ·have:S0[i]?=some o':=by
     unfold crs at ho;rw[QZ (by simp;omega),QZ h2]at ho;exact ho
    exact h.ren (fun l hl=>kl l (by have:=hl;omega) (by have:=hl;omega)) (cl i o' this)
   ·refine h.ren (p:=fun l=>S0.length<l/\l<S0.length+(7+4*st.length)) (fun l hl=>kl l hl.2 (by omega)) (HW (c:=c) (S:=S0++[.lst (os'.map U.int)]) (st:=st) (fun l h1 h2=>?_) (i:=i) (by simp;omega) ho);rw[N]at h2;simp at h1;exact⟨by omega,h2⟩
theorem o3{m':List Addr}{l l':Nat}{v:Option V}(e:m'[l']?=m[l]?)(h:Rf K m H v (some (.ref l))):Rf K m' H v (some (.ref l')):=by
 cases v with
 |none=>exact h.elim
 |some v=>
  obtain⟨a,h1,rfl⟩:=Is.of_ref (K:=K) (H:=H) h;exact Is.ref_ (K:=K) (H:=H) (e.trans h1)
theorem Ah(l0:m0.length=S0.length)(cl:Cls S0)(e:Ext K m0 H0 m H)(sr:Sr K m (crs c (S0++G) []++[O.lst []]) H) :
  ∃m',Ext K m0 H0 m' H/\Sr K m' (crs c (S0++[.lst (([]:List Int).map U.int)]) []) H/\m'[S0.length]?=m[S0.length+G.length+6]?/\m'[S0.length+1]?=m[S0.length+G.length]?/\∀l,l<S0.length->m'[l]?=m[l]?:=by
 have N:(crs c (S0++[.lst (([]:List Int).map U.int)]) []).length=S0.length+7:=by rw[jT,Q7,Qw,List.length_nil]
 have M:(crs c (S0++G) []++[O.lst []]).length=S0.length+G.length+7:=by rw[Q7,jT,Q7,Qw,List.length_nil]
 obtain⟨m',k1,k2,k3⟩:=w6 (S':=crs c (S0++[.lst (([]:List Int).map U.int)]) []) sr (fun i=>if i<S0.length then i else if i=S0.length then S0.length+G.length+6 else S0.length+G.length+(i-S0.length-1)) (fun i hi=>by
  rw[N]at hi;rw[M];split
  ·omega
  ·split<;>omega) fun i i2 hlt h2=>by
   rw[N]at h2;split<;>split<;>(try split)<;>(try split)<;>omega
 rw[N]at k1 k2;have kk:m'[S0.length]?=m[S0.length+G.length+6]?:=by rw[k2 _ (by omega),if_neg (Nat.lt_irrefl _),if_pos rfl]
 have kl:∀l,l<S0.length->m'[l]?=m[l]?:=fun l h1=>by rw[k2 l (by omega),if_pos h1]
 have kc:∀q,q<6->m'[S0.length+(q+1)]?=m[S0.length+G.length+q]?:=fun q h1=>by
  rw[k2 _ (by omega),if_neg (by omega),if_neg (by omega)];congr 1;omega
 refine⟨m',⟨A0 fun l hl=>?_,e.keep⟩,k3 fun i o' ho=>?_,kk,kc 0 (by omega),kl⟩
 ·rw[kl l (by omega)];obtain⟨t,rfl⟩:=e.pre;rw[QZ hl]
 ·have hi:i<S0.length+7:=by have:=(Q5.mp ho).1;rw[N]at this;exact this
  have cb:∀q,(crs c (S0++G) []++[O.lst []])[S0.length+G.length+q]?=(hd c (S0.length+G.length) [] [] [] [] []++[O.lst []])[q]?:=fun q=>by
   unfold crs;rw[<-Q7,Q3,ga,Q7];rfl
  have ca:∀q,(crs c (S0++[.lst (([]:List Int).map U.int)]) [])[S0.length+q]?=(O.lst []::hd c (S0.length+1) [] [] [] [] [])[q]?:=fun q=>by
   unfold crs;rw[Q3,ga,Q7,Qw];rfl
  by_cases h2:i<S0.length
  ·rw[if_pos h2];have h3:S0[i]?=some o':=by
    unfold crs at ho;rw[Q3,QZ h2]at ho;exact ho
   refine⟨o',?_,fun a h=>h.ren (fun l hl=>kl l hl) (cl i o' h3)⟩;unfold crs;rw[Q3,Q3,QZ h2];exact h3
  ·obtain⟨q,rfl⟩:=Nat.exists_eq_add_of_le (Nat.le_of_not_lt h2);rw[ca]at ho;rw[if_neg h2];rcases q with _|q
   ·cases ho;rw[if_pos (by omega),cb];exact⟨_,rfl,fun a h=>h.ren (p:=fun _=>False) (fun l hl=>hl.elim) (by unfold RfO RfL;trivial)⟩
   ·rw[if_neg (by omega),show S0.length+(q+1)-S0.length-1=q by omega,cb];rcases q with _|q
    ·cases ho;refine⟨_,rfl,fun a h=>?_⟩;obtain⟨dx,fs,k,z⟩:=h;refine⟨dx,fs,k,z.nd,z.few,z.knd,z.sub,z.len,fun j x hq=>?_⟩;have w:=z.at_ j x hq;rcases j with _|_|_|_|_|j
     ·exact o3 (kc 1 (by omega)) w
     ·exact o3 (kc 2 (by omega)) w
     ·exact o3 (kc 3 (by omega)) w
     ·exact o3 (kc 4 (by omega)) w
     ·exact o3 (kc 5 (by omega)) w
     ·exact Rf.ren w fun w x hw=>by cases hw
    ·rcases q with _|_|_|_|_|q;iterate 5
      ·cases ho;exact⟨_,rfl,fun a h=>h.ren (p:=fun _=>False) (fun l hl=>hl.elim) (by unfold RfO RfL;trivial)⟩
     ·omega
end
def kg(c cA:Cl):Fn:=fnU 4 2 (dW (jG c) (ie c cA) cA)
def EA(c cA:Cl):Fn:=fnU 4 4 (p7 (uT c cA) (kg c cA))
def n6(st:St)(every:Bool)(x:List Int):Prop:=∃os,aW os=aS st every/\dh st every [] x os=true
section
variable{c cA:Cl}{n w:Int}{S:Sto}{st:St}{every:Bool}{l:Nat}{x:List Int}{evs:List Ev}{wu:U}
theorem yA(hns:c.ns.length=5)(hna:cA.ns.length=3)(hl:S[l]?=some (.lst (evs.map Ev.u)))(lg:ja n w 5 evs)(he:evs.length<=900):∃G L,kg c cA [.ref l,.bl every] S=some (.ref L,S++G)/\CrA c cA S (bo [] evs) every n (S++G) L:=by
 unfold kg;rw[pQ];have h1:=mh (c:=c) (S:=S) (N:=5) hns hl lg.lo he;have bi:=oB evs [] lg.lo ZC K9;have c5:=lg.cnt;obtain⟨X,h2,ask⟩:=qG (c:=c) (cA:=cA) (S:=S) (G:=[]) (every:=every) hna lg.kd bi (by omega);simp only[QB,Qj]at h2 ask;have hb:∀a t,aR (bo [] evs) a=some t->∀p∈t.nd,0<=p.1/\p.1<n:=fun a t hv p hp=>by
  have:=lN evs [] lg.lo Iy a t hv;exact this.1 p ((this.2 p).mp hp)
 obtain⟨r1,r2,D,i1,i2,i3,i4⟩:=ask.ex;have ol:=f9 (st:=bo [] evs) (every:=every);have F1:gY cA 1 (.ref (crs c S (bo [] evs)).length,crs c S (bo [] evs)++X)=some (.ref r1,crs c S (bo [] evs)++X):=cm i1 rfl;obtain⟨ou,hou⟩:∃ou,ou=(aS (bo [] evs) every).map U.int:=⟨_,rfl⟩;have lou:ou.length=(aS (bo [] evs) every).length:=by rw[hou,Q6]
 have dl:decide (((aS (bo [] evs) every).length:Int)>8)=false:=decide_eq_false (by omega);rw[<-hou]at i2;obtain⟨C,hC⟩:∃C,crs c S (bo [] evs)=S++C:=⟨_,rfl⟩;refine⟨C++X,(crs c S (bo [] evs)).length,?_,?_⟩
 ·rw[<-Q3,<-hC];rwa[dW,h1,h2,F1,i2,lou,dl]
 ·rw[<-Q3,<-hC];exact⟨⟨X,rfl⟩,ask,lg.kd,bi,by omega,hb⟩
theorem KZ(hns:c.ns.length=5)(hna:cA.ns.length=3)(hl:S[l]?=some (.lst (evs.map Ev.u)))(lg:ja n w 5 evs)(he:evs.length<=900)(hx:x.length=n.toNat)(hn:n<=100):Wp (EA c cA [wu,.tup (x.map U.int),.ref l,.bl every] S) (Ib (bo [] evs) every x S):=by
 obtain⟨G,L,h1,h2⟩:=yA (every:=every) hns hna hl lg he;have ol:=f9 (st:=bo [] evs) (every:=every);have c5:=lg.cnt;obtain⟨⟨u,Z⟩,h3,⟨G2,hG⟩,j,hj,h4⟩:=A5 h2 hx hn (by omega);unfold EA;rw[HQ];generalize x.map U.int=xu at h3 ⊢;rwa[p7,h1,h3,aJ];refine⟨⟨G++G2,by rw[<-Q3];exact hG⟩,j,?_,h4⟩;rw[Q7]at hj;omega
theorem DR{S1:Sto}{e:Ev}{k m:Nat}{os:List Int}{i:Int}{r7 r8:Option U}{lu:U}(hna:cA.ns.length=3)(hk:(aE st).Nodup)(ok:tQ n w st e)(fw:Few st m)(hm:m<=900)(hkd:(aE (stp st e)).Nodup)(bi:BfI (stp st e))(hl5:(stp st e).length<=5)
  (hb:∀a t,aR (stp st e) a=some t->∀p∈t.nd,0<=p.1/\p.1<n) (hx:x.length=n.toNat) (hn:n<=100) (g1:S1[k]?=some (.lst (os.map U.int))) (hol:os.length<64) :
  Wp (gq (kg c cA) (uT c cA) (gy c) (nD c cA) (fB c) (ie c cA) c cA [some wu,some (.tup (x.map U.int)),some lu,some (.ref S1.length),some (.ref k),some (.int i),some e.u,r7,r8] (crs c S1 st)) fun r=>
   (∃j os' r7' r8' G,r=(.nx,[some wu,some (.tup (x.map U.int)),some lu,some (.ref S1.length),some (.ref j),some (.int i),some e.u,r7',r8'],crs c S1 (stp st e)++G)/\(crs c S1 (stp st e)++G)[j]?=some (.lst (os'.map U.int))/\(j=k\/(crs c S1 (stp st e)).length<=j)/\aW os'=aS (stp st e) true/\dh (stp st e) true [] x os'=true)\/
   (∃ρ' G,r=(.rt (.int i),ρ',S1++G)/\¬n6 (stp st e) true x):=by
 have h1:=pJ (c:=c) (S:=S1) hk ok fw hm;have i0:(crs c S1 st)[S1.length]?=some (.ins c [some (.ref (S1.length+1)),some (.ref (S1.length+2)),some (.ref (S1.length+3)),some (.ref (S1.length+4)),some (.ref (S1.length+5))]):=hd0;obtain⟨X,h2,ask⟩:=qG (c:=c) (cA:=cA) (S:=S1) (G:=[]) (every:=true) hna hkd bi (by omega);simp only[QB,Qj]at h2 ask;obtain⟨G',h3⟩:=xC (c:=c) (cA:=cA) (S:=S1) (G:=X) (x:=x) (lo:=k) (os:=os) hkd bi (by omega) hn ask (by unfold crs;rw[Q3];exact aq g1) hol hb hx;obtain⟨r1,r2,D,i1,i2,i3,i4⟩:=ask.ex;have hA:CrA c cA S1 (stp st e) true n (crs c S1 (stp st e)++(X++G')) (crs c S1 (stp st e)).length:=by
  rw[<-Q3];exact CrA.app ⟨⟨X,rfl⟩,ask,hkd,bi,by omega,hb⟩ G'
 have ol:=f9 (st:=stp st e) (every:=true);obtain⟨⟨u,Z⟩,h4,⟨G2,hG⟩,j,hj,h5⟩:=A5 hA hx hn (by omega);dsimp only at hG h5;have gk:(crs c S1 (stp st e)++(X++G'))[k]?=some (.lst (os.map U.int)):=by unfold crs;rw[Q3];exact aq g1
 obtain⟨Y,hY⟩:∃Y,Y=crs c S1 (stp st e):=⟨_,rfl⟩;have hS:∃C,Y=S1++C:=⟨_,hY⟩;rw[<-hY]at h1 h2 h3 h4 hj hG i1 gk ⊢;generalize e.u=eu at h1 ⊢;unfold gq;cases hB:(decide (aW os=aS (stp st e) true)&&dh (stp st e) true [] x os)with
 |true=>
  rw[hB]at h3;obtain⟨b1,b2⟩:=Bool.and_eq_true_iff.mp hB;generalize hxu:x.map U.int=xu at h3 ⊢;rwa[i0,h1,h2,i1,h3,aJ];exact .inl ⟨k,os,_,_,_,rfl,gk,.inl rfl,of_decide_eq_true b1,b2⟩
 |false=>
  rw[hB]at h3;rcases h5 with⟨os',rfl,g5,s5,q5⟩|⟨ps,rfl,g5,q5⟩
  ·generalize hxu:x.map U.int=xu at h3 h4 ⊢;have d1:decide (("good":Str)="none")=false:=by decide
   have x0:fIx (.tup [.str "good",.ref j]) (.int 0) Z=some (.str "good",Z):=rfl;have x1:fIx (.tup [.str "good",.ref j]) (.int 1) Z=some (.ref j,Z):=rfl;rwa[i0,h1,h2,i1,h3,h4,x0,x1,d1,aJ];rw[Q3]at hG;refine .inl ⟨j,os',_,_,(X++G')++G2,by rw[hG],by rw[<-hG];exact g5,.inr ?_,s5,q5⟩;rw[Q7]at hj;omega
  ·generalize hxu:x.map U.int=xu at h3 h4 ⊢;have d1:decide (("none":Str)="none")=true:=by decide
   have x0:fIx (.tup [.str "none",.ref j]) (.int 0) Z=some (.str "none",Z):=rfl;rwa[i0,h1,h2,i1,h3,h4,x0,d1,aJ];obtain⟨C,hC⟩:=hS;refine .inr ⟨_,C++((X++G')++G2),by rw[hG,hC];simp only[Q3];rfl,fun⟨os,z1,z2⟩=>?_⟩;rw[q5 os z1]at z2;cases z2
end
section
variable{n w:Int}{st:St}{e:Ev}{evs es fs:List Ev}{N:Nat}{x:List Int}
def PsI(n w:Int)(st:St):Prop:=∀a t,aR st a=some t->∀p∈t.ps,(0<=p.1/\p.1<n)/\0<=p.2/\p.2<w
theorem CM(ok:tQ n w st e)(h:PsI n w st):PsI n w (stp st e):=by
 intro a t ht;by_cases ea:a=e.at
 ·subst ea;cases e with
  |beg b=>rw[show(Ev.beg b).at=b from rfl,eM ok.2.2]at ht;cases ht;intro p hp;cases hp
  |look b1 b2 b3=>
   obtain⟨bd,t0,t1,_⟩:=id ok;rw[bx (e:=.look b1 b2 b3) t1]at ht;cases ht;simp only[Att.ev];split<;>exact h b1 t0 t1
  |put b1 b2 b3=>
   obtain⟨bd,t0,t1,_⟩:=id ok;rw[bx (e:=.put b1 b2 b3) t1]at ht;cases ht;intro p hp;rcases sy hp with z|rfl
   ·exact h b1 t0 t1 p z
   ·exact⟨⟨bd.1,bd.2.1⟩,bd.2.2⟩
  |fin d b1=>
   obtain⟨t0,t1,_⟩:=id ok;rw[bx (e:=.fin d b1) t1]at ht;cases ht;exact h b1 t0 t1
 ·rw[bY ea]at ht;exact h a t ht
theorem wt:∀(es:List Ev) (st:St),mG n w st es->PsI n w st->PsI n w (bo st es)
 |[],st,_,h=>h
 |e::es,st,lf,h=>wt es (stp st e) lf.2 (CM lf.1 h)
theorem Bb:∀(es:List Ev) (st:St),mG n w st es->(aE st).Nodup->(aE (bo st es)).Nodup
 |[],st,_,h=>h
 |e::es,st,lf,h=>Bb es (stp st e) lf.2 (fM h lf.1)
theorem sF(lo:mG n w [] evs)(hc:(bo [] evs).length<=N):ja n w N evs:=by
 refine⟨lo,Bb evs [] lo ZC,hc,fun a t hv=>⟨?_,wt evs [] lo (fun a t h=>by simp[aR]at h) a t hv⟩⟩;have:=((qP evs [] 0 lo (by simp[aE]) ⟨by simp,by simp⟩).2 _ (jd hv)).2.2;dsimp only at this;omega
theorem FP:st.length<=(stp st e).length:=by
 cases e<;>simp[stp,rM]
theorem w4:∀(es:List Ev) (st:St),st.length<=(bo st es).length
 |[],st=>QX _
 |e::es,st=>Qd FP (w4 es (stp st e))
theorem rS:bo st (es++fs)=bo (bo st es) fs:=List.foldl_append
theorem wY:∀(es:List Ev) (st:St),mG n w st (es++fs)->mG n w st es/\mG n w (bo st es) fs
 |[],st,h=>⟨trivial,h⟩
 |e::es,st,h=>let ⟨a,b⟩:=wY es (stp st e) h.2;⟨⟨h.1,a⟩,b⟩
theorem ja.take(lg:ja n w N evs)(i:Nat):ja n w N (evs.take i):=by
 have h:=lg.lo;have c:=lg.cnt;rw[<-List.take_append_drop i evs]at h c;rw[rS]at c;exact sF (wY _ _ h).1 (Qd (w4 _ _) c)
def rC(evs:List Ev)(x:List Int)(u:U):Prop:=
 (u=.non/\∀i,n6 (bo [] (evs.take i)) true x)\/∃i,i<evs.length/\u=.int ((i+1:Nat):Int)/\(∀j,j<=i->n6 (bo [] (evs.take j)) true x)/\¬n6 (bo [] (evs.take (i+1))) true x
theorem rC.uniq{u v:U}(h:rC evs x u)(k:rC evs x v):u=v:=by
 rcases h with⟨rfl,h⟩|⟨i,hi,rfl,h1,h2⟩<;>rcases k with⟨rfl,k⟩|⟨j,hj,rfl,k1,k2⟩
 ·rfl
 ·exact absurd (h _) k2
 ·exact absurd (k _) h2
 ·have:i=j:=by
   rcases Nat.lt_trichotomy i j with z|z|z
   ·exact absurd (k1 (i+1) z) h2
   ·exact z
   ·exact absurd (h1 (j+1) z) k2
  rw[this]
theorem Mu:n6 (bo [] []) true x:=by
 have s0:aW []=[]:=Qi.mp (aN []).length_eq;refine⟨[],?_,rfl⟩;show aW []=(aW []).filter _;rw[s0];rfl
theorem rC.ex(evs:List Ev)(x:List Int):∃u,rC evs x u:=by
 by_cases h:∀i,n6 (bo [] (evs.take i)) true x
 ·exact⟨_,.inl ⟨rfl,h⟩⟩
 ·have step:∀k,(∀j,j<=k->n6 (bo [] (evs.take j)) true x)\/∃u,rC evs x u:=fun k=>by
   induction k with
   |zero=>exact .inl fun j hj=>by rw[Nat.le_zero.mp hj];exact Mu
   |succ k ih=>
    rcases ih with ih|ih
    ·by_cases hk:n6 (bo [] (evs.take (k+1))) true x
     ·refine .inl fun j hj=>?_;rcases Nat.lt_or_ge j (k+1)with z|z
      ·exact ih j (by omega)
      ·rw[show j=k+1 by omega];exact hk
     ·refine .inr ⟨_,.inr ⟨k,?_,rfl,ih,hk⟩⟩;refine Nat.lt_of_not_le fun z=>hk ?_;have:=ih k (QX _);rw[ZU z]at this;rw[ZU (by omega)];exact this
    ·exact .inr ih
  rcases step evs.length with z|z
  ·refine absurd (fun i=>?_) h;by_cases hi:i<=evs.length
   ·exact z i hi
   ·have:=z evs.length (QX _);rw[ZU (QX _)]at this;rw[ZU (by omega)];exact this
  ·exact z
theorem DT{e f:Ev}(h:e.u=f.u):e=f:=by
 have d:("done":Str)≠"fall":=by decide
 have d1:("begin":Str)≠"done":=by decide
 have d2:("begin":Str)≠"fall":=by decide
 have d3:("look":Str)≠"put":=by decide
 rcases e with a|⟨a,b,x⟩|⟨a,b,x⟩|⟨_|_,a⟩<;>rcases f with a'|⟨a',b',x'⟩|⟨a',b',x'⟩|⟨_|_,a'⟩<;>simp_all [Ev.u,uF]
end
structure Ax(us:List U)(S:Sto)(evs:List Ev)(x:List Int)(n w:Int)(wu:U)(l:Nat):Prop where
 us:us=[wu,.tup (x.map U.int),.ref l]
 hl:S[l]?=some (.lst (evs.map Ev.u))
 lg:ja n w 5 evs
 he:evs.length<=900
 hx:x.length=n.toNat
 hn:n<=100
open Classical in
def Bv:Fn:=fun us S=>if h:∃q:List Ev×List Int,∃n w wu l,Ax us S q.1 q.2 n w wu l then some (choose (rC.ex (choose h).1 (choose h).2),S)else none
theorem HF{us:List U}{S S':Sto}{u:U}(h:Bv us S=some (u,S')):∃evs x n w wu l,Ax us S evs x n w wu l/\S'=S/\rC evs x u:=by
 unfold Bv at h;split at h
 ·rename_i hq;cases h;obtain⟨n,w,wu,l,hp⟩:=Classical.choose_spec hq;exact⟨_,_,n,w,wu,l,hp,rfl,Classical.choose_spec (rC.ex _ _)⟩
 ·cases h
theorem DC{xs ys:List Int}(h:xs.map U.int=ys.map U.int):xs=ys:=List.map_inj_right (fun _ _ e=>U.int.inj e) |>.mp h
theorem K2{us:List U}{S:Sto}{evs:List Ev}{x:List Int}{n w:Int}{wu:U}{l:Nat}(h:Ax us S evs x n w wu l):∃u,Bv us S=some (u,S)/\rC evs x u:=by
 have hq:∃q:List Ev×List Int,∃n w wu l,Ax us S q.1 q.2 n w wu l:=⟨(evs,x),n,w,wu,l,h⟩;obtain⟨n',w',wu',l',hp⟩:=Classical.choose_spec hq;have e:=h.us;rw[hp.us]at e;simp only[List.cons.injEq,U.tup.injEq,U.ref.injEq,and_true]at e;obtain⟨_,e1,e2⟩:=e;have e3:=hp.hl;rw[e2,h.hl]at e3;simp only[Option.some.injEq,O.lst.injEq]at e3;have k1:=DC e1;have k2:evs=_:=(List.map_inj_right (fun _ _ e=>DT e)).mp e3;have fo:=Classical.choose_spec (rC.ex (Classical.choose hq).1 (Classical.choose hq).2);refine⟨_,by unfold Bv;rw[dif_pos hq],?_⟩;generalize Classical.choose (rC.ex (Classical.choose hq).1 (Classical.choose hq).2)=u at fo ⊢;rw[k1,<-k2]at fo;exact fo
section
variable{K:Q1}{m m0 m':List Addr}{H H0:Hp}{S0 G:Sto}{c cA:Cl}{p:Nat->Prop}{wu xu:U}{l a b a' b':Nat}{r5 r6 r7 r8:Option U}{σ:L2.St}
theorem tm(l0:m0.length=S0.length)(cl:Cls S0)(e:Ext K m0 H0 m H)(sr:Sr K m (S0++G) H):Ext K m0 H0 m0 H/\Sr K m0 S0 H:=by
 obtain⟨t,rfl⟩:=e.pre;refine⟨⟨⟨[],by simp⟩,e.keep⟩,Sr.gc sr l0 ((List.sublist_append_left m0 t).nodup sr.nd) fun i a o h1 h2=>⟨i,o,aq h1,aq h2,fun h=>h.ren (fun l hl=>?_) (cl i o h2)⟩⟩;have hl':l<m0.length:=by have:=hl;omega
 rw[QZ hl']
theorem A8(lr:Lr K m H [some wu,some xu,some (.ref l),some (.ref a),some (.ref b),r5,r6,r7,r8] σ)(e:∀l,p l->m'[l]?=m[l]?)(hw:RfU p wu)(hx:RfU p xu)(hl:p l)(ha:m'[a']?=m[a]?)(hb:m'[b']?=m[b]?) :
  Lr K m' H [some wu,some xu,some (.ref l),some (.ref a'),some (.ref b'),none,none,none,none] σ:=by
 have rf:∀{x y:Nat} (v:V),m'[y]?=m[x]?->Is K m H v (.ref x)->Is K m' H v (.ref y):=fun v h hi=>by
  obtain⟨z,h1,rfl⟩:=hi.of_ref;exact .ref_ (h.trans h1)
 refine lr.gc rfl fun i u hi=>?_;rcases i with _|_|_|_|_|_|_|_|_|i<;>cases hi
 ·exact⟨_,rfl,fun v h=>h.ren e hw⟩
 ·exact⟨_,rfl,fun v h=>h.ren e hx⟩
 ·exact⟨_,rfl,fun v h=>rf v (e l hl) h⟩
 ·exact⟨_,rfl,fun v h=>rf v ha h⟩
 ·exact⟨_,rfl,fun v h=>rf v hb h⟩
def FbJ(c:Cl)(S0:Sto)(evs:List Ev)(x:List Int)(wu:U)(l:Nat)(i:Nat)(ρ:Rho)(S:Sto):Prop:=∃os r5 r6 r7 r8,ρ=[some wu,some (.tup (x.map U.int)),some (.ref l),some (.ref (S0.length+1)),some (.ref S0.length),r5,r6,r7,r8]/\
 S=crs c (S0++[.lst (os.map U.int)]) (bo [] (evs.take i))/\aW os=aS (bo [] (evs.take i)) true/\dh (bo [] (evs.take i)) true [] x os=true/\∀j,j<i->n6 (bo [] (evs.take j)) true x
theorem HE{N:List Str}{vs:List V}{Q:VK}{E:XK}(hN:N.length=9)(hns:c.ns.length=5)(hna:cA.ns.length=3)(h:vM K Bv vs H Q E) :
  Ei (tS K (fq (cCB (kg c cA) (af (ag 2) (af (cC (.bl true)) aD))))) (Ei (tS K (cY 3 (cCB (jS c (fB c)) aD))) (Ei (tS K (cY 4 (jU aD)))
   (Ei (Ek (qK K (ze (tE K (ag 2)) Ej)) (OP.tG K (gTp [5,6])) (tS K (gq (kg c cA) (uT c cA) (gy c) (nD c cA) (fB c) (ie c cA) c cA))) (tS K (eV (cC .non))))))
   { nx:=fun _ H'=>Q .non H',rt:=Q } (L2.start N vs) H:=by
 obtain⟨m0,us,S0,u,S',il,sr,hf,post⟩:=h;obtain⟨evs,x,n,w,wu,l,hp,rfl,fo⟩:=HF hf;have l0:=sr.len;have cl:Cls S':=fun i o h=>sr.rf h;obtain⟨ou,hxu⟩:∃ou,ou=x.map U.int:=⟨_,rfl⟩;have hw:RfU (· < S'.length) wu:=by
  have:=il.rf;rw[hp.us,l0]at this;unfold RfL at this;exact this.1
 have hl:l<S'.length:=(Q5.mp hp.hl).1;obtain⟨a0,ha0⟩:∃a0,m0[l]?=some a0:=⟨_,Q4 (by omega)⟩;have lr:=sC (N:=N) il;rw[hN,hp.us]at lr;obtain⟨G,L,e1,_⟩:=yA (c:=c) (cA:=cA) (every:=true) hns hna hp.hl hp.lg hp.he;have done:∀{m H' v u' S2},Ext K m0 H m H'->Sr K m S2 H'->(∃G,S2=S'++G)->rC evs x u'->(∀m v',Is K m H' v' u'->v'=v/\∀m2,Is K m2 H' v u')->Is K m H' v u'->Q v H':=fun{m H' v u' S2} e sr2 hS fo' hu hi=>by
  obtain⟨G,rfl⟩:=hS;obtain⟨e0,s0⟩:=tm l0 cl e sr2;have:=fo.uniq fo';subst this;exact post m0 v H' e0 s0 ((hu m v hi).2 m0)
 have dnon:∀{m H' S2},Ext K m0 H m H'->Sr K m S2 H'->(∃G,S2=S'++G)->rC evs x .non->Q .non H':=fun e s h f=>done e s h f (fun m v' hv=>⟨hv.of_non,fun _=>.non_⟩) .non_;have dint:∀{m H' S2} {i:Int} {v:V},Ext K m0 H m H'->Sr K m S2 H'->(∃G,S2=S'++G)->rC evs x (.int i)->Is K m H' v (.int i)->Q v H':=fun e s h f hv=>by
  have:=hv.of_int;subst this;exact done e s h f (fun m v' hv=>⟨hv.of_int,fun _=>.int_⟩) .int_
 have p1:fq (cCB (kg c cA) (af (ag 2) (af (cC (.bl true)) aD))) [some wu,some (.tup (x.map U.int)),some (.ref l),none,none,none,none,none,none] S'=some (.nx,[some wu,some (.tup (x.map U.int)),some (.ref l),none,none,none,none,none,none],S'++G):=by rwa[e1]
 have p2:cY 3 (cCB (jS c (fB c)) aD) [some wu,some (.tup (x.map U.int)),some (.ref l),none,none,none,none,none,none] (S'++G)=some (.nx,[some wu,some (.tup (x.map U.int)),some (.ref l),some (.ref (S'++G).length),none,none,none,none,none],crs c (S'++G) []):=by rwa[tD hns]
 have p3:cY 4 (jU aD) [some wu,some (.tup (x.map U.int)),some (.ref l),some (.ref (S'++G).length),none,none,none,none,none] (crs c (S'++G) [])=some (.nx,[some wu,some (.tup (x.map U.int)),some (.ref l),some (.ref (S'++G).length),some (.ref (crs c (S'++G) []).length),none,none,none,none],crs c (S'++G) []++[.lst []]):=by
  generalize crs c (S'++G) []=Y;rwa[]
 have rx:RfU (· < S'.length) (.tup (x.map U.int)):=by unfold RfU;exact vW x
 refine⟨m0,_,S',.nx,_,_,sr,lr,p1,fun m1 σ1 H1 x1 sr1 lr1=>⟨m1,_,_,.nx,_,_,sr1,lr1,p2,fun m2 σ2 H2 x2 sr2 lr2=>⟨m2,_,_,.nx,_,_,sr2,lr2,p3,fun m3 σ3 H3 x3 sr3 lr3=>?_⟩⟩⟩;have e3:=(x1.trans x2).trans x3;have s0:aW []=[]:=Qi.mp (aN []).length_eq;refine HD (H0:=H) (us:=evs.map Ev.u) (FbJ c S' evs x wu l) ha0 ?_ (fun i ρ S hJ=>?_) (fun ρ S hJ=>?_) (fun i u ρ S hu hJ=>?_) fun ρ S hJ m4 σ4 H4 e4 sr4 lr4=>?_
 ·obtain⟨m',f1,f2,f3,f4,f5⟩:=Ah l0 cl e3 sr3;rw[jT,Q7,List.length_nil]at lr3;refine⟨m',_,_,f1,f2,A8 lr3 (p:=(· < S'.length)) (fun l hl=>f5 l hl) hw rx hl f4 f3,[],none,none,none,none,rfl,rfl,?_,rfl,fun j hj=>by omega⟩;show aW []=(aW []).filter _;rw[s0];rfl
 ·obtain⟨os,r5,r6,r7,r8,rfl,rfl,_⟩:=hJ;unfold crs;exact aq (aq hp.hl)
 ·obtain⟨os,r5,r6,r7,r8,rfl,rfl,_⟩:=hJ;rfl
 ·obtain⟨os,r5,r6,r7,r8,rfl,rfl,s1,s2,s3⟩:=hJ;rw[QC]at hu;obtain⟨e,he,rfl⟩:=Qc.mp hu;have tk:evs.take (i+1)=evs.take i++[e]:=by rw[List.take_add_one,he];rfl
  have rn:bo [] (evs.take (i+1))=stp (bo [] (evs.take i)) e:=by rw[tk,rS];rfl
  have lg0:=hp.lg.take i;have lg1:=hp.lg.take (i+1);have lo1:=lg1.lo;have bi:=oB _ [] lo1 ZC K9;have lk:=lN _ [] lo1 Iy;have kd:=lg1.kd;have cn:=lg1.cnt;rw[rn]at bi lk kd cn;rw[tk]at lo1;have ol:os.length<64:=by
   have h1:=f9 (st:=bo [] (evs.take i)) (every:=true);have h2:=(aN os).length_eq;rw[s1]at h2;have:=lg0.cnt;omega
  have hB:∀os:List Int,(S'++[O.lst (os.map U.int)]).length=S'.length+1:=fun os=>by rw[Q7];rfl
  have ft:=DR (c:=c) (cA:=cA) (S1:=S'++[.lst (os.map U.int)]) (k:=S'.length) (os:=os) (i:=((i+1:Nat):Int)) (r7:=r7) (r8:=r8) (lu:=.ref l) (wu:=wu) (x:=x) (e:=e) hna lg0.kd (wY _ _ lo1).2.1 (qP _ [] 0 lg0.lo (by simp[aE]) ⟨by simp,by simp⟩) (by have:=hp.he;rw[List.length_take];omega) kd bi cn (fun a t hv p hp=>by
   have:=lk a t hv;exact this.1 p ((this.2 p).mp hp)) hp.hx hp.hn (by rw[ga0];rfl) ol
  rw[hB]at ft;obtain⟨r,er,⟨j,os',r7',r8',G',rfl,gj,hj,q1,q2⟩|⟨ρ',G',rfl,q⟩⟩:=ft
  ·refine⟨_,_,_,_,_,rfl,er,.inl ⟨rfl,fun m σ H' e4 sr4 lr4=>?_⟩⟩;rw[jT,hB]at hj;obtain⟨m',f1,f2,f3,f4⟩:=DM (os:=os) (os':=os') (j:=j) l0 cl e4 sr4 gj (hj.imp id fun h=>by omega);refine⟨m',_,_,f1,f2,A8 lr4 (p:=(· < S'.length)) (fun l hl=>f4 l (by have:=hl;omega) (by have:=hl;omega)) hw rx hl (f4 (S'.length+1) (by omega) (by omega)) f3,os',none,none,none,none,rfl,by rw[rn],by rw[rn];exact q1,by rw[rn];exact q2,fun j hj=>?_⟩;rcases Nat.lt_or_ge j i with z|z
   ·exact s3 j z
   ·rw[show j=i by omega];exact⟨os,s1,s2⟩
  ·refine⟨_,_,_,_,_,rfl,er,.inr ⟨_,rfl,fun m' v H' e4 sr4 hv=>dint e4 sr4 ⟨_,Q3 ..⟩ (.inr ⟨i,(Q5.mp he).1,rfl,fun j hj=>?_,by rw[rn];exact q⟩) hv⟩⟩;rcases Nat.lt_or_ge j i with z|z
   ·exact s3 j z
   ·rw[show j=i by omega];exact⟨os,s1,s2⟩
 ·obtain⟨os,r5,r6,r7,r8,rfl,rfl,s1,s2,s3⟩:=hJ;refine⟨m4,_,_,.rt .non,_,_,sr4,lr4,rfl,fun m5 v H5 e5 sr5 hv=>?_⟩;have:=hv.of_non;subst this;rw[Q6]at s1 s2 s3;refine dnon (e4.trans e5) sr5 ⟨_,by unfold crs;exact Q3 ..⟩ (.inl ⟨rfl,fun i=>?_⟩);by_cases hi:i<evs.length
  ·exact s3 i hi
  ·rw[ZU (by omega),<-List.take_length (l:=evs)];exact⟨os,s1,s2⟩
theorem HG{vs:List V}{Q:VK}{E:XK}(h:vM K Bv vs H Q E):vs.length=3:=by
 obtain⟨m0,us,S0,u,S',il,sr,hf,post⟩:=h;obtain⟨evs,x,n,w,wu,l,hp,_⟩:=HF hf;rw[il.length,hp.us];rfl
end
end OQ
namespace OL
open PySem PySem.Spec PyProof.Rows L2 OG OP OQ
def top(i:Nat):Stmt:=PySem.Challenge.pw_oneglance_k24_whole_all_and_done_ones.main.body.getD i (.Pass ⟨0,0,0,0⟩)
abbrev jK:Stmt:=top 5
abbrev fZ:Stmt:=iZ (top 7) 0
abbrev eR:Stmt:=iZ (top 7) 2
abbrev fg:Stmt:=iZ (top 7) 3
abbrev dj:Stmt:=iZ (top 7) 4
abbrev iR:Stmt:=top 8
abbrev f6:Stmt:=iZ (top 10) 0
abbrev cP:Stmt:=iZ (top 10) 1
abbrev d9:Stmt:=iZ (top 10) 2
abbrev jM:Stmt:=top 11
abbrev jN:Stmt:=top 12
abbrev qz:Stmt:=top 13
abbrev vU:Stmt:=top 14
abbrev gP:Stmt:=top 15
abbrev jL:Stmt:=top 16
abbrev gQ:Stmt:=top 19
abbrev k8:Stmt:=top 20
abbrev ff:Stmt:=top 21
abbrev d8:Stmt:=top 22
abbrev vT:Stmt:=top 23
abbrev iQ:Stmt:=top 24
abbrev jO:Stmt:=top 26
abbrev iS:Stmt:=top 27
abbrev gR:Stmt:=top 28
abbrev gS:Stmt:=top 29
abbrev gT:Stmt:=top 30
abbrev fY:Stmt:=top 31
abbrev gU:Stmt:=top 32
abbrev jP:Stmt:=top 33
abbrev cN:Stmt:=top 34
abbrev Cs:Stmt:=top 35
section
variable{P:Program}{w:World}{K:Q1}{mg:Str->Option Value}{base:Heap}
theorem jZ:aP ["pen","many","at","cell","one","two","three","found"] ["pen","many"] (aw iS):=⟨rfl,rfl,rfl,by decide +kernel,rfl,by decide +kernel,by decide +kernel⟩
theorem qN{k:Nat}(d:Def K mg "_law_take" iS ["pen","many"])(B:Blt mg):dF P w K mg base "_law_take" (k+1) ["pen","many"] (fnU 8 2 (dP )):=
 d.pure jZ fun f cdv A outer s H E hr=>(by
  have hu:=dg hr;have nd:=jZ.nd;exact(av (cD (bz js sh (bJ hu (ae (wpv 0)) (aB ao) (fun _ _=>rfl) (fun _ _=>rfl)) (aB ao) (bq _)) (av (aU (i:=2) nd rfl (by trivial) (bJ hu (ae (wpv 0)) (aB ao) (fun _ _=>rfl) (fun _ _=>rfl)))
   (av (cw hu (ae (wpv 0)) (aB ao) (gG iV iU (ae (wpv 2)) (aB ao)))
   (av (aU (i:=3) nd rfl (by trivial) (aB ao))
   (av (cD (bz Df Kk (ae (wpv 2)) (cQ lI lF rfl B.len PySem.boot_len (ab (bJ hu (ae (wpv 0)) (aB ao) (fun _ _=>rfl) (fun _ _=>rfl)) ay)) (bq _)) (aA (aU (i:=3) nd rfl (by trivial) (bJ hu (bJ hu (ae (wpv 0)) (aB ao) (fun _ _=>rfl) (fun _ _=>rfl)) (ae (wpv 2)) (fun _ _=>rfl) (fun _ _=>rfl)))) (aA (cD (bz Dg Kn (cQ lI lF rfl B.len PySem.boot_len (ab (bJ hu (ae (wpv 0)) (aB ao) (fun _ _=>rfl) (fun _ _=>rfl)) ay)) (aB ao) (bq _)) (aA (aU (i:=3) nd rfl (by trivial) (gG iV iU (gG lG qC (bJ hu (bJ hu (ae (wpv 0)) (aB ao) (fun _ _=>rfl) (fun _ _=>rfl)) (gG lG qC (gG j8 o7 (ae (wpv 2)) (aB ao)) (cQ lI lF rfl B.len PySem.boot_len (ab (bJ hu (ae (wpv 0)) (aB ao) (fun _ _=>rfl) (fun _ _=>rfl)) ay))) (fun _ _=>rfl) (fun _ _=>rfl)) (aB ao)) (gG j8 o7 (aB ao) (ae (wpv 2)))))) bT)))
   (av (aU (i:=4) nd rfl (by trivial) (gG lG qC (gG j8 o7 (gG iV iU (gG iV iU (gG lG qC (ae (wpv 3)) (aB ao)) (gG j8 o7 (aB ao) (ae (wpv 2)))) (aB ao)) (aB ao)) (aB ao)))
   (av (aU (i:=5) nd rfl (by trivial) (gG lG qC (gG iV iU (gG iV iU (gG j8 o7 (ae (wpv 4)) (ae (wpv 4))) (gG j8 o7 (aB ao) (ae (wpv 2)))) (aB ao)) (aB ao)))
   (av (aU (i:=6) nd rfl (by trivial) (gG lG qC (gG iV iU (gG j8 o7 (ae (wpv 5)) (ae (wpv 5))) (ae (wpv 4))) (aB ao)))
   (av (cw hu (ae (wpv 0)) (aB ao) (gG iV iU (gG nT Dd (gG iV iU (gG j8 o7 (ae (wpv 5)) (aB ao)) (ae (wpv 6))) (aB ao)) (aB ao)))
   (aA (cD (bz Ko Ms (ae (wpv 3)) (gG A4 GI (aB ao) (aB ao)) (bq _)) (aA (cw hu (ae (wpv 0)) (aB ao) (gG nT Dd (ae (wpv 3)) (gG A4 GI (aB ao) (aB ao))))) bT)))))))))) bT)
   (av (aU (i:=7) nd rfl (by trivial) (gG lG qC (bJ hu (ae (wpv 0)) (aB ao) (fun _ _=>rfl) (fun _ _=>rfl)) (ae (wpv 1))))
   (av (cw hu (ae (wpv 0)) (aB ao) (gG nT Dd (bJ hu (ae (wpv 0)) (aB ao) (fun _ _=>rfl) (fun _ _=>rfl)) (ae (wpv 1))))
   (aA (a6 (ae (wpv 7))))))))
theorem jj:aP ["pen"] ["pen"] (aw gR):=⟨rfl,rfl,rfl,by decide +kernel,rfl,by decide +kernel,by decide +kernel⟩
theorem pE{k:Nat}{ak:Fn}(d:Def K mg "_law_world" gR ["pen"])(B:Blt mg)(aC:dF P w K mg base "_law_take" (k) ["pen","many"] ak):dF P w K mg base "_law_world" (k+1) ["pen"] (fnU 1 1 (dX ak)):=
 d.pure jj fun f cdv A outer s H E hr=>(by
  have hu:=dg hr;have nd:=jj.nd;exact(aA (a6 (fh (ab (gG iV iU (aB ao) (aT aC hr rfl (ab (ae (wpv 0)) (ab (aB ao) ay)))) (ab (bJ hu (iT (ab (aB ao) (ab (aB ao) (ab (aB ao) (ab (aB ao) (ab (gG iV iU (aB ao) (aT aC hr rfl (ab (ae (wpv 0)) (ab (aB ao) ay)))) ay)))))) (aT aC hr rfl (ab (ae (wpv 0)) (ab (aB ao) ay))) (fun _ _=>rfl) (fun _ _=>rfl)) ay))))))
theorem jk:aP ["pen","world"] ["pen","world"] (aw gS):=⟨rfl,rfl,rfl,by decide +kernel,rfl,by decide +kernel,by decide +kernel⟩
theorem pF{k:Nat}{ak:Fn}(d:Def K mg "_law_state" gS ["pen","world"])(B:Blt mg)(aC:dF P w K mg base "_law_take" (k) ["pen","many"] ak):dF P w K mg base "_law_state" (k+1) ["pen","world"] (fnU 2 2 (dY ak)):=
 d.pure jk fun f cdv A outer s H E hr=>(by
  have hu:=dg hr;have nd:=jk.nd;exact(aA (a6 (f7 dv lC rfl B.tuple OG.fV (ab (lA (Nc:=["box","pen","world"]) (tn:=["box"]) (capN:=["pen","world"]) (caps:=[0,1]) rfl (fK rfl B.range (ab (bJ hu (ae (wpv 1)) (aB ao) (fun _ _=>rfl) (fun _ _=>rfl)) ay)) (fun _ _ _=>(bQ (aK (i:=0) (show(["box","pen","world"]:List Str).Nodup by decide +kernel) rfl (by trivial)))) (fun _ _ _=>(aT aC hr rfl (ab (ae (wpv 1)) (ab (bJ hu (ae (wpv 2)) (aB ao) (fun _ _=>rfl) (fun _ _=>rfl)) ay)))) rfl rfl (by decide +kernel) (by decide +kernel) ⟨rfl,rfl,trivial⟩ rfl (.cons ⟨rfl,rfl,rfl,_,rfl⟩ (.cons ⟨rfl,rfl,rfl,_,rfl⟩ .nil)) rfl rfl) ay)))))
theorem jm:aP ["pen","many","left","found","k"] ["pen","many"] (aw gT):=⟨rfl,rfl,rfl,by decide +kernel,rfl,by decide +kernel,by decide +kernel⟩
theorem pG{k:Nat}{ak:Fn}(d:Def K mg "_law_names" gT ["pen","many"])(B:Blt mg)(aC:dF P w K mg base "_law_take" (k) ["pen","many"] ak):dF P w K mg base "_law_names" (k+1) ["pen","many"] (fnU 5 2 (dZ ak)):=
 d.pure jm fun f cdv A outer s H E hr=>(by
  have hu:=dg hr;have nd:=jm.nd;exact(av (aU (i:=2) nd rfl (by trivial) (lq rfl rfl B.list rfl B.range (ab (aB ao) ay) rfl rfl))
   (av (aU (i:=3) nd rfl (by trivial) (iT ay))
   (av (jq PassesOwn.never rfl (fK rfl B.range (ab (ae (wpv 1)) ay)) (bQ (aK (i:=4) nd rfl (by trivial))) (aA (dq (e9 (ae (wpv 3)) (ab (qA (ae (wpv 2)) (ab (aT aC hr rfl (ab (ae (wpv 0)) (ab (cQ lI lF rfl B.len PySem.boot_len (ab (ae (wpv 2)) ay)) ay))) ay)) ay)))))
   (aA (a6 (ae (wpv 3))))))))
theorem iK:aP ["state","puts"] ["state","puts"] (aw fY):=⟨rfl,rfl,rfl,by decide +kernel,rfl,by decide +kernel,by decide +kernel⟩
theorem n8{k:Nat}(d:Def K mg "_law_put_in" fY ["state","puts"])(B:Blt mg):dF P w K mg base "_law_put_in" (k+1) ["state","puts"] (fnU 2 2 (dz )):=
 d.pure iK fun f cdv A outer s H E hr=>(by
  have hu:=dg hr;have nd:=iK.nd;exact(aA (a6 (f7 dv lC rfl B.tuple OG.fV (ab (lA (Nc:=["box","number","puts"]) (tn:=["box","number"]) (capN:=["puts"]) (caps:=[1]) rfl (we rfl B.enumerate (ae (wpv 0))) (fun _ _ _=>(mZ rfl (cK (aK (i:=0) (show(["box","number","puts"]:List Str).Nodup by decide +kernel) rfl (by trivial)) (cK (aK (i:=1) (show(["box","number","puts"]:List Str).Nodup by decide +kernel) rfl (by trivial)) jQ)))) (fun _ _ _=>(wm hu (ae (wpv 2)) (ae (wpv 0)) (ae (wpv 1)) ⟨rfl,rfl,rfl,rfl⟩)) rfl rfl (by decide +kernel) (by decide +kernel) ⟨rfl,trivial⟩ rfl (.cons ⟨rfl,rfl,rfl,_,rfl⟩ .nil) rfl rfl) ay)))))
theorem jn:aP ["pen","world","a","seen","puts","now","way","box","number"] ["pen","world","a","seen","puts","now"] (aw gU):=⟨rfl,rfl,rfl,by decide +kernel,rfl,by decide +kernel,by decide +kernel⟩
theorem pH{k:Nat}{ak:Fn}(d:Def K mg "_law_event" gU ["pen","world","a","seen","puts","now"])(B:Blt mg)(aC:dF P w K mg base "_law_take" (k) ["pen","many"] ak):dF P w K mg base "_law_event" (k+1) ["pen","world","a","seen","puts","now"] (fnU 9 6 (cI ak)):=
 d.pure jn fun f cdv A outer s H E hr=>(by
  have hu:=dg hr;have nd:=jn.nd;exact(av (aU (i:=6) nd rfl (by trivial) (aT aC hr rfl (ab (ae (wpv 0)) (ab (aB ao) ay))))
   (av (aU (i:=7) nd rfl (by trivial) (aT aC hr rfl (ab (ae (wpv 0)) (ab (bJ hu (ae (wpv 1)) (aB ao) (fun _ _=>rfl) (fun _ _=>rfl)) ay))))
   (av (cD (bz Df Kk (ae (wpv 6)) (aB ao) (bq _)) (av (aU (i:=8) nd rfl (by trivial) (bJ hu (iT (ab (bJ hu (ae (wpv 3)) (ae (wpv 7)) (fun _ _=>rfl) (fun _ _=>rfl)) (ab (bJ hu (ae (wpv 3)) (ae (wpv 7)) (fun _ _=>rfl) (fun _ _=>rfl)) (ab (bJ hu (ae (wpv 5)) (ae (wpv 7)) (fun _ _=>rfl) (fun _ _=>rfl)) (ab (aT aC hr rfl (ab (ae (wpv 0)) (ab (bJ hu (ae (wpv 1)) (aB ao) (fun _ _=>rfl) (fun _ _=>rfl)) ay))) ay))))) (aT aC hr rfl (ab (ae (wpv 0)) (ab (aB ao) ay))) (fun _ _=>rfl) (fun _ _=>rfl)))
   (aA (a6 (fh (ab (dH bh) (ab (ae (wpv 2)) (ab (ae (wpv 7)) (ab (wm hu (ae (wpv 4)) (ae (wpv 7)) (ae (wpv 8)) ⟨rfl,rfl,rfl,rfl⟩) ay)))))))) bT)
   (av (cD (bz Df Kk (ae (wpv 6)) (aB ao) (bq _)) (aA (a6 (fh (ab (dH bh) (ab (ae (wpv 2)) (ab (ae (wpv 7)) (ab (aT aC hr rfl (ab (ae (wpv 0)) (ab (bJ hu (ae (wpv 1)) (aB ao) (fun _ _=>rfl) (fun _ _=>rfl)) ay))) ay))))))) bT)
   (aA (a6 (fh (ab (bJ hu (iT (ab (dH bh) (ab (dH bh) (ab (dH bh) (ab (dH bh) ay))))) (gG A3 GH (ae (wpv 6)) (aB ao)) (fun _ _=>rfl) (fun _ _=>rfl)) (ab (ae (wpv 2)) ay))))))))))
theorem k7:aP ["pen","world","state","most","size","names","log","now","going","k","at","a","seen","puts"] ["pen","world","state","most","size"] (aw jP):=⟨rfl,rfl,rfl,by decide +kernel,rfl,by decide +kernel,by decide +kernel⟩
theorem ux{k:Nat}{aH ak bO bE:Fn}(d:Def K mg "_law_log" jP ["pen","world","state","most","size"])(B:Blt mg)(dc:dF P w K mg base "_law_names" (k) ["pen","many"] aH)(aC:dF P w K mg base "_law_take" (k) ["pen","many"] ak)(iq:dF P w K mg base "_law_event" (k) ["pen","world","a","seen","puts","now"] bO)(gB:dF P w K mg base "_law_put_in" (k) ["state","puts"] bE):dF P w K mg base "_law_log" (k+1) ["pen","world","state","most","size"] (fnU 14 5 (fT aH ak bO bE)):=
 d.pure k7 fun f cdv A outer s H E hr=>(by
  have hu:=dg hr;have nd:=k7.nd;exact(av (aU (i:=5) nd rfl (by trivial) (aT dc hr rfl (ab (ae (wpv 0)) (ab (aT aC hr rfl (ab (ae (wpv 0)) (ab (gG iV iU (ae (wpv 3)) (aB ao)) ay))) ay))))
   (av (aU (i:=6) nd rfl (by trivial) (iT ay))
   (av (aU (i:=7) nd rfl (by trivial) (ae (wpv 2)))
   (av (aU (i:=8) nd rfl (by trivial) (iT ay))
   (av (jq PassesOwn.never rfl (fK rfl B.range (ab (aT aC hr rfl (ab (ae (wpv 0)) (ab (gG iV iU (ae (wpv 4)) (aB ao)) ay))) ay)) (bQ (aK (i:=9) nd rfl (by trivial))) (aA (cD (Cv (ub (bz (wD hr.units) zQ (ae (wpv 5)) (iT ay) (bq _)) (m6 (Cv (Mq (bz (GO hr.units) zQ (ae (wpv 8)) (iT ay) (bq _)) (J8 (bz js sh (aT aC hr rfl (ab (ae (wpv 0)) (ab (aB ao) ay))) (aB ao) (bq _)))))))) (av (dq (e9 (ae (wpv 8)) (ab (fh (ab (FY (ae (wpv 5))) (ab (ae (wpv 7)) (ab jr ay)))) ay)))
   (aA (dq (e9 (ae (wpv 6)) (ab (fh (ab (dH bh) (ab (bJ hu (bJ hu (ae (wpv 8)) (ua (aB ao)) (fun _ _=>rfl) (fun _ _=>rfl)) (aB ao) (fun _ _=>rfl) (fun _ _=>rfl)) ay))) ay))))) (aA (cD (bz (wD hr.units) zQ (ae (wpv 8)) (iT ay) (bq _)) (av (aU (i:=10) nd rfl (by trivial) (aT aC hr rfl (ab (ae (wpv 0)) (ab (cQ lI lF rfl B.len PySem.boot_len (ab (ae (wpv 8)) ay)) ay))))
   (av (AX (bJ hu (ae (wpv 8)) (ae (wpv 10)) (fun _ _=>rfl) (fun _ _=>rfl)) (mZ rfl (cK (aK (i:=11) nd rfl (by trivial)) (cK (aK (i:=12) nd rfl (by trivial)) (cK (aK (i:=13) nd rfl (by trivial)) jQ)))))
   (av (dq (e9 (ae (wpv 6)) (ab (aT iq hr rfl (ab (ae (wpv 0)) (ab (ae (wpv 1)) (ab (ae (wpv 11)) (ab (ae (wpv 12)) (ab (ae (wpv 13)) (ab (ae (wpv 7)) ay))))))) ay)))
   (av (cD (bz js sh (bJ hu (bJ hu (ae (wpv 6)) (ua (aB ao)) (fun _ _=>rfl) (fun _ _=>rfl)) (aB ao) (fun _ _=>rfl) (fun _ _=>rfl)) (dH bh) (bq _)) (aA (cw hu (ae (wpv 13)) (bJ hu (bJ hu (ae (wpv 6)) (ua (aB ao)) (fun _ _=>rfl) (fun _ _=>rfl)) (aB ao) (fun _ _=>rfl) (fun _ _=>rfl)) (bJ hu (bJ hu (ae (wpv 6)) (ua (aB ao)) (fun _ _=>rfl) (fun _ _=>rfl)) (aB ao) (fun _ _=>rfl) (fun _ _=>rfl)))) (aA (cD (bz js sh (bJ hu (bJ hu (ae (wpv 6)) (ua (aB ao)) (fun _ _=>rfl) (fun _ _=>rfl)) (aB ao) (fun _ _=>rfl) (fun _ _=>rfl)) (dH bh) (bq _)) (aA (aU (i:=7) nd rfl (by trivial) (aT gB hr rfl (ab (ae (wpv 7)) (ab (ae (wpv 13)) ay))))) bT)))
   (aA (cD (FX hu (bJ hu (bJ hu (ae (wpv 6)) (ua (aB ao)) (fun _ _=>rfl) (fun _ _=>rfl)) (aB ao) (fun _ _=>rfl) (fun _ _=>rfl)) (fh (ab (dH bh) (ab (dH bh) ay))) (by with_unfolding_all rfl)) (aA (dq (qA (ae (wpv 8)) (ab (ae (wpv 10)) ay)))) bT)))))) bT)))))
   (aA (a6 (ae (wpv 6))))))))))
theorem eQ:aP ["self","a","box","number"] ["self","a","box","number"] (aw dj):=⟨rfl,rfl,rfl,by decide +kernel,rfl,by decide +kernel,by decide +kernel⟩
theorem jy{k:Nat}{ah:Cl}(d:MtD K ah.C "note_look" "Course.note_look" dj ["self","a","box","number"])(B:Blt mg)(TCourse:TC K ah ["ends","looks","needs","puts","before"]):oJ P w K mg base ah "note_look" (k+1) ["self","a","box","number"] (fnU 4 4 (bA ah)):=
 d.pure eQ fun f cdv A outer s H E hr=>(by
  have hu:=dg hr;have nd:=eQ.nd;exact(aA (cD (rY hu (ae (wpv 2)) (bJ hu (dI TCourse.cl (TCourse.na 3 rfl) (TCourse.ix rfl) (ae (wpv 0))) (ae (wpv 1)) (fun _ _=>rfl) (fun _ _=>rfl)) (by with_unfolding_all rfl)) (av (dq (e9 (bJ hu (dI TCourse.cl (TCourse.na 1 rfl) (TCourse.ix rfl) (ae (wpv 0))) (ae (wpv 1)) (fun _ _=>rfl) (fun _ _=>rfl)) (ab (fh (ab (ae (wpv 2)) (ab (ae (wpv 3)) ay))) ay)))
   (aA (v8 hu (bJ hu (dI TCourse.cl (TCourse.na 2 rfl) (TCourse.ix rfl) (ae (wpv 0))) (ae (wpv 1)) (fun _ _=>rfl) (fun _ _=>rfl)) (ab (ae (wpv 2)) (ab (ae (wpv 3)) ay)) (j7 bW)))) bT)))
theorem gM:aP ["self","a"] ["self","a"] (aw fg):=⟨rfl,rfl,rfl,by decide +kernel,rfl,by decide +kernel,by decide +kernel⟩
theorem mK{k:Nat}{ah:Cl}(d:MtD K ah.C "enter" "Course.enter" fg ["self","a"])(B:Blt mg)(TCourse:TC K ah ["ends","looks","needs","puts","before"]):oJ P w K mg base ah "enter" (k+1) ["self","a"] (fnU 2 2 (cU ah)):=
 d.pure gM fun f cdv A outer s H E hr=>(by
  have hu:=dg hr;have nd:=gM.nd;exact(av (cw hu (dI TCourse.cl (TCourse.na 4 rfl) (TCourse.ix rfl) (ae (wpv 0))) (ae (wpv 1)) (wo (Nc:=["one","self"]) (tn:=["one"]) (capN:=["self"]) (caps:=[0]) rfl (dI TCourse.cl (TCourse.na 0 rfl) (TCourse.ix rfl) (ae (wpv 0))) (fun _ _ _=>(bQ (aK (i:=0) (show(["one","self"]:List Str).Nodup by decide +kernel) rfl (by trivial)))) (fun _ _ _=>(bz o9 A2 (bJ hu (dI TCourse.cl (TCourse.na 0 rfl) (TCourse.ix rfl) (ae (wpv 1))) (ae (wpv 0)) (fun _ _=>rfl) (fun _ _=>rfl)) (dH bh) (bq _))) (fun _ _ _=>(ae (wpv 0))) rfl rfl (by decide +kernel) (by decide +kernel) ⟨rfl,trivial⟩ rfl (.cons ⟨rfl,rfl,rfl,_,rfl⟩ .nil) rfl rfl))
   (av (cw hu (dI TCourse.cl (TCourse.na 0 rfl) (TCourse.ix rfl) (ae (wpv 0))) (ae (wpv 1)) (dH bh))
   (av (cw hu (dI TCourse.cl (TCourse.na 1 rfl) (TCourse.ix rfl) (ae (wpv 0))) (ae (wpv 1)) (iT ay))
   (av (cw hu (dI TCourse.cl (TCourse.na 2 rfl) (TCourse.ix rfl) (ae (wpv 0))) (ae (wpv 1)) Cz)
   (aA (cw hu (dI TCourse.cl (TCourse.na 3 rfl) (TCourse.ix rfl) (ae (wpv 0))) (ae (wpv 1)) jr)))))))
theorem gD:aP ["self","event","a"] ["self","event"] (aw eR):=⟨rfl,rfl,rfl,by decide +kernel,rfl,by decide +kernel,by decide +kernel⟩
theorem lU{k:Nat}{bS ba:Fn}{ah:Cl}(d:MtD K ah.C "follow" "Course.follow" eR ["self","event"])(B:Blt mg)(TCourse:TC K ah ["ends","looks","needs","puts","before"])(M_Course_enter:oJ P w K mg base ah "enter" (k) ["self","a"] bS)(M_Course_note_look:oJ P w K mg base ah "note_look" (k) ["self","a","box","number"] ba):oJ P w K mg base ah "follow" (k+1) ["self","event"] (fnU 3 2 (bc bS ba ah)):=
 d.pure gD fun f cdv A outer s H E hr=>(by
  have hu:=dg hr;have nd:=gD.nd;exact(av (aU (i:=2) nd rfl (by trivial) (bJ hu (ae (wpv 1)) (aB ao) (fun _ _=>rfl) (fun _ _=>rfl)))
   (aA (cD (bz js sh (bJ hu (ae (wpv 1)) (aB ao) (fun _ _=>rfl) (fun _ _=>rfl)) (dH bh) (bq _)) (aA (dq (j6 TCourse.cl M_Course_enter hr (TCourse.nm (by decide +kernel)) (ae (wpv 0)) (ab (ae (wpv 2)) ay)))) (aA (cD (bz js sh (bJ hu (ae (wpv 1)) (aB ao) (fun _ _=>rfl) (fun _ _=>rfl)) (dH bh) (bq _)) (aA (dq (j6 TCourse.cl M_Course_note_look hr (TCourse.nm (by decide +kernel)) (ae (wpv 0)) (ab (ae (wpv 2)) (ab (bJ hu (ae (wpv 1)) (aB ao) (fun _ _=>rfl) (fun _ _=>rfl)) (ab (bJ hu (ae (wpv 1)) (aB ao) (fun _ _=>rfl) (fun _ _=>rfl)) ay)))))) (aA (cD (bz js sh (bJ hu (ae (wpv 1)) (aB ao) (fun _ _=>rfl) (fun _ _=>rfl)) (dH bh) (bq _)) (aA (cw hu (bJ hu (dI TCourse.cl (TCourse.na 3 rfl) (TCourse.ix rfl) (ae (wpv 0))) (ae (wpv 2)) (fun _ _=>rfl) (fun _ _=>rfl)) (bJ hu (ae (wpv 1)) (aB ao) (fun _ _=>rfl) (fun _ _=>rfl)) (bJ hu (ae (wpv 1)) (aB ao) (fun _ _=>rfl) (fun _ _=>rfl)))) (aA (cw hu (dI TCourse.cl (TCourse.na 0 rfl) (TCourse.ix rfl) (ae (wpv 0))) (ae (wpv 2)) (bJ hu (ae (wpv 1)) (aB ao) (fun _ _=>rfl) (fun _ _=>rfl))))))))))))
theorem iL:aP ["self"] ["self"] (aw fZ):=⟨rfl,rfl,rfl,by decide +kernel,rfl,by decide +kernel,by decide +kernel⟩
theorem n9{k:Nat}{ah:Cl}(d:MkD K mg ah.C "Course" "Course.__init__" fZ ["self"])(B:Blt mg)(TCourse:TC K ah ["ends","looks","needs","puts","before"]):CMk P w K mg base ah "Course" (k+1) ["self"] (fnU 1 1 (dA ah)):=
 d.pure TCourse iL fun f cdv A outer s H E hr=>(by
  have hu:=dg hr;have nd:=iL.nd;exact(av (gW TCourse.cl (TCourse.na 0 rfl) (TCourse.ix rfl) (ae (wpv 0)) jr)
   (av (gW TCourse.cl (TCourse.na 1 rfl) (TCourse.ix rfl) (ae (wpv 0)) jr)
   (av (gW TCourse.cl (TCourse.na 2 rfl) (TCourse.ix rfl) (ae (wpv 0)) jr)
   (av (gW TCourse.cl (TCourse.na 3 rfl) (TCourse.ix rfl) (ae (wpv 0)) jr)
   (aA (gW TCourse.cl (TCourse.na 4 rfl) (TCourse.ix rfl) (ae (wpv 0)) jr)))))))
theorem jY:aP ["log","course","event"] ["log"] (aw iR):=⟨rfl,rfl,rfl,by decide +kernel,rfl,by decide +kernel,by decide +kernel⟩
theorem qM{k:Nat}{aV bw:Fn}{ah:Cl}(d:Def K mg "course_of" iR ["log"])(B:Blt mg)(TCourse:TC K ah ["ends","looks","needs","puts","before"])(M_Course_follow:oJ P w K mg base ah "follow" (k+1) ["self","event"] aV)(M_Course:CMk P w K mg base ah "Course" k ["self"] bw):dF P w K mg base "course_of" (k+1+1) ["log"] (fnU 3 1 (eU aV bw ah)):=
 d.pure jY fun f cdv A outer s H E hr=>(by
  have hu:=dg hr;have nd:=jY.nd;exact(av (aU (i:=1) nd rfl (by trivial) (wj M_Course hr rfl))
   (av (jq PassesOwn.never rfl (e8 (ae (wpv 0))) (bQ (aK (i:=2) nd rfl (by trivial))) (aA (dq (j6 TCourse.cl M_Course_follow hr (TCourse.nm (by decide +kernel)) (ae (wpv 1)) (ab (ae (wpv 2)) ay)))))
   (aA (a6 (ae (wpv 1)))))))
theorem kT:aP ["thing"] ["thing"] (aw jK):=⟨rfl,rfl,rfl,by decide +kernel,rfl,by decide +kernel,by decide +kernel⟩
theorem ur{k:Nat}(d:Def K mg "is_whole" jK ["thing"])(B:Blt mg):dF P w K mg base "is_whole" (k+1) ["thing"] (fnU 1 1 (fQ )):=
 d.pure kT fun f cdv A outer s H E hr=>(by
  have hu:=dg hr;have nd:=kT.nd;exact(aA (a6 (AZ (F5 (T:=.int) (by intro z;cases z) (ae (wpv 0)) (AE rfl B.int OG.tK) rfl B.isinstance) (Cw (AY (F5 (T:=.bool) (by intro z;cases z) (ae (wpv 0)) (AE rfl B.bool OG.yo) rfl B.isinstance)))))))
theorem kX:aP ["course","every","a"] ["course","every","a"] (aw jM):=⟨rfl,rfl,rfl,by decide +kernel,rfl,by decide +kernel,by decide +kernel⟩
theorem uv{k:Nat}{ah:Cl}(d:Def K mg "is_asked" jM ["course","every","a"])(B:Blt mg)(TCourse:TC K ah ["ends","looks","needs","puts","before"]):dF P w K mg base "is_asked" (k+1) ["course","every","a"] (fnU 3 3 (eF ah)):=
 d.pure kX fun f cdv A outer s H E hr=>(by
  have hu:=dg hr;have nd:=kX.nd;exact(aA (a6 (J7 (ae (wpv 1)) (Cw (J9 js sh (bJ hu (dI TCourse.cl (TCourse.na 0 rfl) (TCourse.ix rfl) (ae (wpv 0))) (ae (wpv 2)) (fun _ _=>rfl) (fun _ _=>rfl)) (dH bh) (bq _)))))))
theorem kY:aP ["course","every"] ["course","every"] (aw jN):=⟨rfl,rfl,rfl,by decide +kernel,rfl,by decide +kernel,by decide +kernel⟩
theorem uw{k:Nat}{a8:Fn}{ah:Cl}(d:Def K mg "asked_in" jN ["course","every"])(B:Blt mg)(TCourse:TC K ah ["ends","looks","needs","puts","before"])(eJ:dF P w K mg base "is_asked" (k) ["course","every","a"] a8):dF P w K mg base "asked_in" (k+1) ["course","every"] (fnU 2 2 (fS a8 ah)):=
 d.pure kY fun f cdv A outer s H E hr=>(by
  have hu:=dg hr;have nd:=kY.nd;exact(aA (a6 (nQ (Nc:=["a","course","every"]) (tn:=["a"]) (capN:=["course","every"]) (caps:=[0,1]) rfl (e8 (cQ (sj rfl) sg rfl B.sorted OG.i7 (ab (dI TCourse.cl (TCourse.na 0 rfl) (TCourse.ix rfl) (ae (wpv 0))) ay))) (fun _ _ _=>(bQ (aK (i:=0) (show(["a","course","every"]:List Str).Nodup by decide +kernel) rfl (by trivial)))) (fun _ _ _=>(j5 (aT eJ hr rfl (ab (ae (wpv 1)) (ab (ae (wpv 2)) (ab (ae (wpv 0)) ay)))))) (fun _ _ _=>(ae (wpv 0))) rfl rfl (by decide +kernel) (by decide +kernel) ⟨rfl,rfl,trivial⟩ rfl (.cons ⟨rfl,rfl,rfl,_,rfl⟩ (.cons ⟨rfl,rfl,rfl,_,rfl⟩ .nil)) rfl rfl))))
theorem rQ:aP ["log","every"] ["log","every"] (aw qz):=⟨rfl,rfl,rfl,by decide +kernel,rfl,by decide +kernel,by decide +kernel⟩
theorem DK{k:Nat}{a9 aF:Fn}(d:Def K mg "asked" qz ["log","every"])(B:Blt mg)(eK:dF P w K mg base "asked_in" (k) ["course","every"] a9)(b7:dF P w K mg base "course_of" (k) ["log"] aF):dF P w K mg base "asked" (k+1) ["log","every"] (fnU 2 2 (ml a9 aF)):=
 d.pure rQ fun f cdv A outer s H E hr=>(by
  have hu:=dg hr;have nd:=rQ.nd;exact(aA (a6 (aT eK hr rfl (ab (aT b7 hr rfl (ab (ae (wpv 0)) ay)) (ab (ae (wpv 1)) ay))))))
theorem vS:aP ["course","a","state","need"] ["course","a","state"] (aw vU):=⟨rfl,rfl,rfl,by decide +kernel,rfl,by decide +kernel,by decide +kernel⟩
theorem HA{k:Nat}{ah:Cl}(d:Def K mg "fits" vU ["course","a","state"])(B:Blt mg)(TCourse:TC K ah ["ends","looks","needs","puts","before"]):dF P w K mg base "fits" (k+1) ["course","a","state"] (fnU 4 3 (nz ah)):=
 d.pure vS fun f cdv A outer s H E hr=>(by
  have hu:=dg hr;have nd:=vS.nd;exact(av (Cu PassesOwn.never rfl (bJ hu (dI TCourse.cl (TCourse.na 2 rfl) (TCourse.ix rfl) (ae (wpv 0))) (ae (wpv 1)) (fun _ _=>rfl) (fun _ _=>rfl)) (bQ (aK (i:=3) nd rfl (by trivial))) (aA (cD (bz o9 A2 (bJ hu (ae (wpv 2)) (bJ hu (ae (wpv 3)) (aB ao) (fun _ _=>rfl) (fun _ _=>rfl)) (fun _ _=>rfl) (fun _ _=>rfl)) (bJ hu (ae (wpv 3)) (aB ao) (fun _ _=>rfl) (fun _ _=>rfl)) (bq _)) (aA (a6 (j7 bW))) bT)))
   (aA (a6 (j7 bW)))))
theorem jh:aP ["course","a","state"] ["course","a","state"] (aw gP):=⟨rfl,rfl,rfl,by decide +kernel,rfl,by decide +kernel,by decide +kernel⟩
theorem pC{k:Nat}{ah:Cl}(d:Def K mg "state_with" gP ["course","a","state"])(B:Blt mg)(TCourse:TC K ah ["ends","looks","needs","puts","before"]):dF P w K mg base "state_with" (k+1) ["course","a","state"] (fnU 3 3 (cZ ah)):=
 d.pure jh fun f cdv A outer s H E hr=>(by
  have hu:=dg hr;have nd:=jh.nd;exact(av (cD (bz o9 A2 (bJ hu (dI TCourse.cl (TCourse.na 0 rfl) (TCourse.ix rfl) (ae (wpv 0))) (ae (wpv 1)) (fun _ _=>rfl) (fun _ _=>rfl)) (dH bh) (bq _)) (aA (a6 (ae (wpv 2)))) bT)
   (aA (a6 (f7 dv lC rfl B.tuple OG.fV (ab (lA (Nc:=["box","number","a","course"]) (tn:=["box","number"]) (capN:=["a","course"]) (caps:=[1,0]) rfl (we rfl B.enumerate (ae (wpv 2))) (fun _ _ _=>(mZ rfl (cK (aK (i:=0) (show(["box","number","a","course"]:List Str).Nodup by decide +kernel) rfl (by trivial)) (cK (aK (i:=1) (show(["box","number","a","course"]:List Str).Nodup by decide +kernel) rfl (by trivial)) jQ)))) (fun _ _ _=>(wm hu (bJ hu (dI TCourse.cl (TCourse.na 3 rfl) (TCourse.ix rfl) (ae (wpv 3))) (ae (wpv 2)) (fun _ _=>rfl) (fun _ _=>rfl)) (ae (wpv 0)) (ae (wpv 1)) ⟨rfl,rfl,rfl,rfl⟩)) rfl rfl (by decide +kernel) (by decide +kernel) ⟨rfl,rfl,trivial⟩ rfl (.cons ⟨rfl,rfl,rfl,_,rfl⟩ (.cons ⟨rfl,rfl,rfl,_,rfl⟩ .nil)) rfl rfl) ay))))))
theorem iM:aP ["self","course","every","a"] ["self","course","every"] (aw f6):=⟨rfl,rfl,rfl,by decide +kernel,rfl,by decide +kernel,by decide +kernel⟩
theorem oe{k:Nat}{a9 a8:Fn}{ar ah:Cl}(d:MkD K mg ar.C "Asking" "Asking.__init__" f6 ["self","course","every"])(B:Blt mg)(TAsking:TC K ar ["course","ones","needed"])(TCourse:TC K ah ["ends","looks","needs","puts","before"])(eK:dF P w K mg base "asked_in" (k) ["course","every"] a9)(eJ:dF P w K mg base "is_asked" (k) ["course","every","a"] a8):CMk P w K mg base ar "Asking" (k+1) ["self","course","every"] (fnU 4 3 (dB a9 a8 ar ah)):=
 d.pure TAsking iM fun f cdv A outer s H E hr=>(by
  have hu:=dg hr;have nd:=iM.nd;exact(av (gW TAsking.cl (TAsking.na 0 rfl) (TAsking.ix rfl) (ae (wpv 0)) (ae (wpv 1)))
   (av (gW TAsking.cl (TAsking.na 1 rfl) (TAsking.ix rfl) (ae (wpv 0)) (aT eK hr rfl (ab (ae (wpv 1)) (ab (ae (wpv 2)) ay))))
   (av (gW TAsking.cl (TAsking.na 2 rfl) (TAsking.ix rfl) (ae (wpv 0)) jr)
   (aA (jq PassesOwn.never rfl (e8 (dI TAsking.cl (TAsking.na 1 rfl) (TAsking.ix rfl) (ae (wpv 0)))) (bQ (aK (i:=3) nd rfl (by trivial))) (aA (cw hu (dI TAsking.cl (TAsking.na 2 rfl) (TAsking.ix rfl) (ae (wpv 0))) (ae (wpv 3)) (nQ (Nc:=["one","course","every"]) (tn:=["one"]) (capN:=["course","every"]) (caps:=[1,2]) rfl (e8 (bJ hu (dI TCourse.cl (TCourse.na 4 rfl) (TCourse.ix rfl) (ae (wpv 1))) (ae (wpv 3)) (fun _ _=>rfl) (fun _ _=>rfl))) (fun _ _ _=>(bQ (aK (i:=0) (show(["one","course","every"]:List Str).Nodup by decide +kernel) rfl (by trivial)))) (fun _ _ _=>(j5 (aT eJ hr rfl (ab (ae (wpv 1)) (ab (ae (wpv 2)) (ab (ae (wpv 0)) ay)))))) (fun _ _ _=>(ae (wpv 0))) rfl rfl (by decide +kernel) (by decide +kernel) ⟨rfl,rfl,trivial⟩ rfl (.cons ⟨rfl,rfl,rfl,_,rfl⟩ (.cons ⟨rfl,rfl,rfl,_,rfl⟩ .nil)) rfl rfl)))))))))
theorem dU:aP ["self","a","gone","state"] ["self","a","gone","state"] (aw cP):=⟨rfl,rfl,rfl,by decide +kernel,rfl,by decide +kernel,by decide +kernel⟩
theorem iH{k:Nat}{lW:Fn}{ar:Cl}(d:MtD K ar.C "may_be_next" "Asking.may_be_next" cP ["self","a","gone","state"])(B:Blt mg)(TAsking:TC K ar ["course","ones","needed"])(yH:dF P w K mg base "fits" (k) ["course","a","state"] lW):oJ P w K mg base ar "may_be_next" (k+1) ["self","a","gone","state"] (fnU 4 4 (aX lW ar)):=
 d.pure dU fun f cdv A outer s H E hr=>(by
  have hu:=dg hr;have nd:=dU.nd;exact(aA (a6 (AZ (cQ (tH rfl) GJ rfl B.all OG.tL (ab (lA (Nc:=["one","gone"]) (tn:=["one"]) (capN:=["gone"]) (caps:=[2]) rfl (e8 (bJ hu (dI TAsking.cl (TAsking.na 2 rfl) (TAsking.ix rfl) (ae (wpv 0))) (ae (wpv 1)) (fun _ _=>rfl) (fun _ _=>rfl))) (fun _ _ _=>(bQ (aK (i:=0) (show(["one","gone"]:List Str).Nodup by decide +kernel) rfl (by trivial)))) (fun _ _ _=>(Mr hu (ae (wpv 0)) (ae (wpv 1)) (by with_unfolding_all rfl))) rfl rfl (by decide +kernel) (by decide +kernel) ⟨rfl,trivial⟩ rfl (.cons ⟨rfl,rfl,rfl,_,rfl⟩ .nil) rfl rfl) ay)) (Cw (aT yH hr rfl (ab (dI TAsking.cl (TAsking.na 0 rfl) (TAsking.ix rfl) (ae (wpv 0))) (ab (ae (wpv 1)) (ab (ae (wpv 3)) ay)))))))))
theorem fJ:aP ["self","order","state","gone","reached","a"] ["self","order","state"] (aw d9):=⟨rfl,rfl,rfl,by decide +kernel,rfl,by decide +kernel,by decide +kernel⟩
theorem ko{k:Nat}{aQ ax:Fn}{ar:Cl}(d:MtD K ar.C "is_good" "Asking.is_good" d9 ["self","order","state"])(B:Blt mg)(TAsking:TC K ar ["course","ones","needed"])(c7:dF P w K mg base "state_with" (k) ["course","a","state"] aQ)(M_Asking_may_be_next:oJ P w K mg base ar "may_be_next" (k) ["self","a","gone","state"] ax):oJ P w K mg base ar "is_good" (k+1) ["self","order","state"] (fnU 6 3 (bC aQ ax ar)):=
 d.pure fJ fun f cdv A outer s H E hr=>(by
  have hu:=dg hr;have nd:=fJ.nd;exact(av (cD (bz (wD hr.units) zQ (cQ (sj rfl) sg rfl B.sorted OG.i7 (ab (ae (wpv 1)) ay)) (dI TAsking.cl (TAsking.na 1 rfl) (TAsking.ix rfl) (ae (wpv 0))) (bq _)) (aA (a6 (j7 bW))) bT)
   (av (aU (i:=3) nd rfl (by trivial) jr)
   (av (aU (i:=4) nd rfl (by trivial) (ae (wpv 2)))
   (av (jq PassesOwn.never rfl (e8 (ae (wpv 1))) (bQ (aK (i:=5) nd rfl (by trivial))) (av (cD (o6 (j5 (j6 TAsking.cl M_Asking_may_be_next hr (TAsking.nm (by decide +kernel)) (ae (wpv 0)) (ab (ae (wpv 5)) (ab (ae (wpv 3)) (ab (ae (wpv 4)) ay)))))) (aA (a6 (j7 bW))) bT)
   (av (cw hu (ae (wpv 3)) (ae (wpv 5)) (j7 bW))
   (aA (aU (i:=4) nd rfl (by trivial) (aT c7 hr rfl (ab (dI TAsking.cl (TAsking.na 0 rfl) (TAsking.ix rfl) (ae (wpv 0))) (ab (ae (wpv 5)) (ab (ae (wpv 4)) ay)))))))))
   (aA (a6 (j7 bW))))))))
theorem kW:aP ["world","state","log","every","order"] ["world","state","log","every","order"] (aw jL):=⟨rfl,rfl,rfl,by decide +kernel,rfl,by decide +kernel,by decide +kernel⟩
theorem uu{k:Nat}{dM aF aZ aI:Fn}{ar:Cl}(d:Def K mg "is_order" jL ["world","state","log","every","order"])(B:Blt mg)(TAsking:TC K ar ["course","ones","needed"])(jV:dF P w K mg base "is_whole" (k+1) ["thing"] dM)(b7:dF P w K mg base "course_of" (k+1) ["log"] aF)(M_Asking_is_good:oJ P w K mg base ar "is_good" (k+1) ["self","order","state"] aZ)(M_Asking:CMk P w K mg base ar "Asking" k ["self","course","every"] aI):dF P w K mg base "is_order" (k+1+1) ["world","state","log","every","order"] (fnU 5 5 (fR dM aF aZ aI ar)):=
 d.pure kW fun f cdv A outer s H E hr=>(by
  have hu:=dg hr;have nd:=kW.nd;exact(av (cD (o6 (j5 (cQ (tH rfl) GJ rfl B.all OG.tL (ab (lA (Nc:=["a"]) (tn:=["a"]) (capN:=[]) (caps:=[]) rfl (e8 (ae (wpv 4))) (fun _ _ _=>(bQ (aK (i:=0) (show(["a"]:List Str).Nodup by decide +kernel) rfl (by trivial)))) (fun _ _ _=>(aT jV hr rfl (ab (ae (wpv 0)) ay))) rfl rfl (by decide +kernel) (by decide +kernel) trivial rfl .nil rfl rfl) ay)))) (aA (a6 (j7 bW))) bT)
   (aA (a6 (j6 TAsking.cl M_Asking_is_good hr (TAsking.nm (by decide +kernel)) (wk M_Asking hr rfl (ab (aT b7 hr rfl (ab (ae (wpv 2)) ay)) (ab (ae (wpv 3)) ay))) (ab (ae (wpv 4)) (ab (ae (wpv 1)) ay)))))))
theorem ji:aP ["log","every","asking","many"] ["log","every"] (aw gQ):=⟨rfl,rfl,rfl,by decide +kernel,rfl,by decide +kernel,by decide +kernel⟩
theorem pD{k:Nat}{aF aI:Fn}{ar:Cl}(d:Def K mg "asking_few" gQ ["log","every"])(B:Blt mg)(C_MOST_ASKED:∃t,mg "MOST_ASKED"=some (.int (8) t))(TAsking:TC K ar ["course","ones","needed"])(b7:dF P w K mg base "course_of" (k+1) ["log"] aF)(M_Asking:CMk P w K mg base ar "Asking" k ["self","course","every"] aI):dF P w K mg base "asking_few" (k+1+1) ["log","every"] (fnU 4 2 (dW aF aI ar)):=
 d.pure ji fun f cdv A outer s H E hr=>(by
  have hu:=dg hr;have nd:=ji.nd;exact(av (aU (i:=2) nd rfl (by trivial) (wk M_Asking hr rfl (ab (aT b7 hr rfl (ab (ae (wpv 0)) ay)) (ab (ae (wpv 1)) ay))))
   (av (aU (i:=3) nd rfl (by trivial) (cQ lI lF rfl B.len PySem.boot_len (ab (dI TAsking.cl (TAsking.na 1 rfl) (TAsking.ix rfl) (ae (wpv 2))) ay)))
   (av (cD (bz Dg Kn (ae (wpv 3)) (aB (yY rfl C_MOST_ASKED)) (bq _)) (aA zp) bT)
   (aA (a6 (ae (wpv 2))))))))
theorem mX:aP ["asking","place","gone","state"] ["asking","place"] (aw k8):=⟨rfl,rfl,rfl,by decide +kernel,rfl,by decide +kernel,by decide +kernel⟩
theorem xB{k:Nat}{bR ax:Fn}{ar:Cl}(d:Def K mg "ways_on" k8 ["asking","place"])(B:Blt mg)(TAsking:TC K ar ["course","ones","needed"])(fC:dF P w K mg base "place_behind" (k) ["asking","place","a"] bR)(M_Asking_may_be_next:oJ P w K mg base ar "may_be_next" (k) ["self","a","gone","state"] ax):dF P w K mg base "ways_on" (k+1) ["asking","place"] (fnU 4 2 (g9 bR ax ar)):=
 d.pure mX fun f cdv A outer s H E hr=>(by
  have hu:=dg hr;have nd:=mX.nd;exact(av (aU (i:=2) nd rfl (by trivial) (bJ hu (ae (wpv 1)) (aB ao) (fun _ _=>rfl) (fun _ _=>rfl)))
   (av (aU (i:=3) nd rfl (by trivial) (bJ hu (ae (wpv 1)) (aB ao) (fun _ _=>rfl) (fun _ _=>rfl)))
   (aA (a6 (nQ (Nc:=["a","asking","place","gone","state"]) (tn:=["a"]) (capN:=["asking","place","gone","state"]) (caps:=[0,1,2,3]) rfl (e8 (dI TAsking.cl (TAsking.na 1 rfl) (TAsking.ix rfl) (ae (wpv 0)))) (fun _ _ _=>(bQ (aK (i:=0) (show(["a","asking","place","gone","state"]:List Str).Nodup by decide +kernel) rfl (by trivial)))) (fun _ _ _=>(Cv (ub (rY hu (ae (wpv 0)) (ae (wpv 3)) (by with_unfolding_all rfl)) (m6 (j5 (j6 TAsking.cl M_Asking_may_be_next hr (TAsking.nm (by decide +kernel)) (ae (wpv 1)) (ab (ae (wpv 0)) (ab (ae (wpv 3)) (ab (ae (wpv 4)) ay))))))))) (fun _ _ _=>(fh (ab (ae (wpv 0)) (ab (aT fC hr rfl (ab (ae (wpv 1)) (ab (ae (wpv 2)) (ab (ae (wpv 0)) ay)))) ay)))) rfl rfl (by decide +kernel) (by decide +kernel) ⟨rfl,rfl,rfl,rfl,trivial⟩ rfl (.cons ⟨rfl,rfl,rfl,_,rfl⟩ (.cons ⟨rfl,rfl,rfl,_,rfl⟩ (.cons ⟨rfl,rfl,rfl,_,rfl⟩ (.cons ⟨rfl,rfl,rfl,_,rfl⟩ .nil)))) rfl rfl))))))
theorem gK:aP ["asking","place","a"] ["asking","place","a"] (aw ff):=⟨rfl,rfl,rfl,by decide +kernel,rfl,by decide +kernel,by decide +kernel⟩
theorem mJ{k:Nat}{aQ:Fn}{ar:Cl}(d:Def K mg "place_behind" ff ["asking","place","a"])(B:Blt mg)(TAsking:TC K ar ["course","ones","needed"])(c7:dF P w K mg base "state_with" (k) ["course","a","state"] aQ):dF P w K mg base "place_behind" (k+1) ["asking","place","a"] (fnU 3 3 (cT aQ ar)):=
 d.pure gK fun f cdv A outer s H E hr=>(by
  have hu:=dg hr;have nd:=gK.nd;exact(aA (a6 (fh (ab (f7 dv lC rfl B.tuple OG.fV (ab (cQ wI wB rfl B.sorted OG.i7 (ab (gG iV iU (bJ hu (ae (wpv 1)) (aB ao) (fun _ _=>rfl) (fun _ _=>rfl)) (fh (ab (ae (wpv 2)) ay))) ay)) ay)) (ab (aT c7 hr rfl (ab (dI TAsking.cl (TAsking.na 0 rfl) (TAsking.ix rfl) (ae (wpv 0))) (ab (ae (wpv 2)) (ab (bJ hu (ae (wpv 1)) (aB ao) (fun _ _=>rfl) (fun _ _=>rfl)) ay)))) ay))))))
theorem fH:aP ["asking","state","orders","left","place","a","reached"] ["asking","state"] (aw d8):=⟨rfl,rfl,rfl,by decide +kernel,rfl,by decide +kernel,by decide +kernel⟩
theorem kn{k:Nat}{cH:Fn}{ar:Cl}{fuel:Nat}(d:Def K mg "order_or_table" d8 ["asking","state"])(B:Blt mg)(TAsking:TC K ar ["course","ones","needed"])(mE:dF P w K mg base "ways_on" (k) ["asking","place"] cH):dF P w K mg base "order_or_table" (k+1) ["asking","state"] (fnU 7 2 (b8 cH ar fuel)):=
 d.pure fH fun f cdv A outer s H E hr=>(by
  have hu:=dg hr;have nd:=fH.nd;exact(av (aU (i:=2) nd rfl (by trivial) (CB (pB hr) (fh (ab (fh ay) (ab (ae (wpv 1)) ay))) (iT ay)))
   (av (aU (i:=3) nd rfl (by trivial) (iT (ab (fh (ab (fh ay) (ab (ae (wpv 1)) ay))) ay)))
   (av (zo fuel PassesOwn.never (bz Dg Kn (cQ lI lF rfl B.len PySem.boot_len (ab (ae (wpv 3)) ay)) (aB ao) (bq _)) (av (aU (i:=4) nd rfl (by trivial) (FY (ae (wpv 3))))
   (av (cD (bz js sh (cQ lI lF rfl B.len PySem.boot_len (ab (bJ hu (ae (wpv 4)) (aB ao) (fun _ _=>rfl) (fun _ _=>rfl)) ay)) (cQ lI lF rfl B.len PySem.boot_len (ab (dI TAsking.cl (TAsking.na 1 rfl) (TAsking.ix rfl) (ae (wpv 0))) ay)) (bq _)) (aA (a6 (fh (ab (dH bh) (ab (FZ (pB hr) (ae (wpv 2)) (ae (wpv 4)) (fun _ _=>rfl)) ay))))) bT)
   (aA (jq PassesOwn.never rfl (e8 (aT mE hr rfl (ab (ae (wpv 0)) (ab (ae (wpv 4)) ay)))) (mZ rfl (cK (aK (i:=5) nd rfl (by trivial)) (cK (aK (i:=6) nd rfl (by trivial)) jQ))) (aA (cD (wg (pB hr) (ae (wpv 6)) (ae (wpv 2)) (by with_unfolding_all rfl)) (av (wa (pB hr) (ae (wpv 2)) (ae (wpv 6)) (gG iV iU (FZ (pB hr) (ae (wpv 2)) (ae (wpv 4)) (fun _ _=>rfl)) (iT (ab (ae (wpv 5)) ay))))
   (aA (dq (e9 (ae (wpv 3)) (ab (ae (wpv 6)) ay))))) bT)))))))
   (aA (a6 (fh (ab (dH bh) (ab (f7 (Dk rfl) C9 rfl B.list OG.mr (ab (ae (wpv 2)) ay)) ay)))))))))
theorem vR:aP ["world","state","log","every"] ["world","state","log","every"] (aw vT):=⟨rfl,rfl,rfl,by decide +kernel,rfl,by decide +kernel,by decide +kernel⟩
theorem Hz{k:Nat}{aY bX:Fn}(d:Def K mg "good" vT ["world","state","log","every"])(B:Blt mg)(bK:dF P w K mg base "order_or_table" (k) ["asking","state"] aY)(c9:dF P w K mg base "asking_few" (k) ["log","every"] bX):dF P w K mg base "good" (k+1) ["world","state","log","every"] (fnU 4 4 (p7 aY bX)):=
 d.pure vR fun f cdv A outer s H E hr=>(by
  have hu:=dg hr;have nd:=vR.nd;exact(aA (a6 (aT bK hr rfl (ab (aT c9 hr rfl (ab (ae (wpv 2)) (ab (ae (wpv 3)) ay))) (ab (ae (wpv 1)) ay))))))
theorem jX:aP ["world","state","log","course","order","many","event","asking","told"] ["world","state","log"] (aw iQ):=⟨rfl,rfl,rfl,by decide +kernel,rfl,by decide +kernel,by decide +kernel⟩
theorem qL{k:Nat}{ah ar:Cl}(d:Def K mg "first_bad" iQ ["world","state","log"])(B:Blt mg)(TCourse:TC K ah ["ends","looks","needs","puts","before"])(TAsking:TC K ar ["course","ones","needed"])(c9:dF P w K mg base "asking_few" (k+1) ["log","every"] (kg ah ar))(bK:dF P w K mg base "order_or_table" (k+1) ["asking","state"] (uT ah ar))(M_Course_follow:oJ P w K mg base ah "follow" (k+1) ["self","event"] (gy ah))(M_Asking_is_good:oJ P w K mg base ar "is_good" (k+1) ["self","order","state"] (nD ah ar))(M_Course:CMk P w K mg base ah "Course" k ["self"] (fB ah))(M_Asking:CMk P w K mg base ar "Asking" k ["self","course","every"] (ie ah ar)):dF P w K mg base "first_bad" (k+1+1) ["world","state","log"] Bv:=
 d.has jX (fun vs H Q E h=>HG h) fun f cdv A outer s H vs Q E hr h=>⟨_,(by
  have hu:=dg hr;have nd:=jX.nd;exact(fD (dq (aT c9 hr rfl (ab (ae (wpv 2)) (ab (j7 bW) ay))))
   (fD (aU (i:=3) nd rfl (by trivial) (wj M_Course hr rfl))
   (fD (aU (i:=4) nd rfl (by trivial) (iT ay))
   (fD (qp PassesOwn.never rfl (y3 rfl B.enumerate (dR (ae (wpv 2)) iP rfl)) (mZ rfl (cK (aK (i:=5) nd rfl (by trivial)) (cK (aK (i:=6) nd rfl (by trivial)) jQ))) (av (dq (j6 TCourse.cl M_Course_follow hr (TCourse.nm (by decide +kernel)) (ae (wpv 3)) (ab (ae (wpv 6)) ay)))
   (av (aU (i:=7) nd rfl (by trivial) (wk M_Asking hr rfl (ab (ae (wpv 3)) (ab (j7 bW) ay))))
   (aA (cD (o6 (j5 (j6 TAsking.cl M_Asking_is_good hr (TAsking.nm (by decide +kernel)) (ae (wpv 7)) (ab (ae (wpv 4)) (ab (ae (wpv 1)) ay))))) (av (aU (i:=8) nd rfl (by trivial) (aT bK hr rfl (ab (ae (wpv 7)) (ab (ae (wpv 1)) ay))))
   (av (cD (bz js sh (bJ hu (ae (wpv 8)) (aB ao) (fun _ _=>rfl) (fun _ _=>rfl)) (dH bh) (bq _)) (aA (a6 (ae (wpv 5)))) bT)
   (aA (aU (i:=4) nd rfl (by trivial) (bJ hu (ae (wpv 8)) (aB ao) (fun _ _=>rfl) (fun _ _=>rfl)))))) bT)))))
   (aA (a6 (zq nH)))))))),HE rfl (congrArg List.length TCourse.ns) (congrArg List.length TAsking.ns) h⟩
theorem dS:aP ["log","names","boxes","found","event"] ["log","names","boxes"] (aw cN):=⟨rfl,rfl,rfl,by decide +kernel,rfl,by decide +kernel,by decide +kernel⟩
theorem iG{k:Nat}(d:Def K mg "_law_put_otherwise" cN ["log","names","boxes"])(B:Blt mg):dF P w K mg base "_law_put_otherwise" (k+1) ["log","names","boxes"] (fnU 5 3 (bD )):=
 d.pure dS fun f cdv A outer s H E hr=>(by
  have hu:=dg hr;have nd:=dS.nd;exact(av (aU (i:=3) nd rfl (by trivial) (iT ay))
   (av (jq PassesOwn.never rfl (e8 (ae (wpv 0))) (bQ (aK (i:=4) nd rfl (by trivial))) (aA (cD (bz js sh (cQ lI lF rfl B.len PySem.boot_len (ab (ae (wpv 4)) ay)) (aB ao) (bq _)) (aA (dq (e9 (ae (wpv 3)) (ab (fh (ab (bJ hu (ae (wpv 4)) (aB ao) (fun _ _=>rfl) (fun _ _=>rfl)) (ab (bJ hu (ae (wpv 1)) (bJ hu (ae (wpv 4)) (aB ao) (fun _ _=>rfl) (fun _ _=>rfl)) (fun _ _=>rfl) (fun _ _=>rfl)) ay))) ay)))) (aA (dq (e9 (ae (wpv 3)) (ab (fh (ab (bJ hu (ae (wpv 4)) (aB ao) (fun _ _=>rfl) (fun _ _=>rfl)) (ab (bJ hu (ae (wpv 1)) (bJ hu (ae (wpv 4)) (aB ao) (fun _ _=>rfl) (fun _ _=>rfl)) (fun _ _=>rfl) (fun _ _=>rfl)) (ab (bJ hu (ae (wpv 2)) (bJ hu (ae (wpv 4)) (aB ao) (fun _ _=>rfl) (fun _ _=>rfl)) (fun _ _=>rfl) (fun _ _=>rfl)) (ab (bJ hu (ae (wpv 4)) (aB ao) (fun _ _=>rfl) (fun _ _=>rfl)) ay))))) ay)))))))
   (aA (a6 (ae (wpv 3)))))))
theorem AR:aP ["script","pen","world","state","left","boxes","moved","names","turn","log","other","told","done","fewer","every","word","some","first"] ["script"] (aw Cs):=⟨rfl,rfl,rfl,by decide +kernel,rfl,by decide +kernel,by decide +kernel⟩
def oC(bM bN ak aH cM aM gF gm cg bZ:Fn):CS:=
 (bB (Ex (cOp fIx (ag 11) (cCB IF (af (yj (ag 14)) aD))) (gTp [15,16]))
  (bB (eB (aL (cOp fNe (cOp fIx (cCB gF (af (ag 2) (af (ag 6) (af (ag 10) (af (ag 14) aD))))) (cC (.int 0))) (ag 15))) (eV (cC (.bl false))) b6)
  (eB (aL (cOp fEq (ag 15) (cC (.str "good")))) (bB (cY 16 (dQ (iTp (ag 16)) (gNm 0) (cOp fIx (ag 1) (ag 0)) 1 [7]))
  (eB (Br (aL (cCB cg (af (ag 2) (af (ag 6) (af (ag 10) (af (ag 14) (af (ag 16) aD)))))))) (eV (cC (.bl false))) b6)) b6)))
def rk(bM bN ak aH cM aM gF gm cg bZ:Fn):CS:=
 (bB (cY 9 (cCB cM (af (ag 1) (af (ag 2) (af (ag 3) (af (cC (.int 5)) (af (cC (.int 24)) aD)))))))
  (bB (cY 10 (cCB aM (af (ag 9) (af (ag 7) (af (ag 5) aD)))))
  (bB (cY 11 (dQ (iTp (hU (af (cC (.bl true)) (af (cC (.bl false)) aD)))) (gNm 0) (cCB gF (af (ag 1) (af (ag 2) (af (ag 3) (af (ag 0) aD))))) 1 [2,3,9]))
  (bB (cY 12 (cCB gm (af (ag 9) (af (cC (.bl false)) aD))))
  (bB (eB (uO (aL (cOp fEq (cOp fIx (cOp fIx (ag 11) (cC (.int 0))) (cC (.int 0))) (cC (.str "good")))) (aL (cOp fNe (cOp fIx (cOp fIx (ag 11) (cC (.int 1))) (cC (.int 0))) (cC (.str "good"))))) (eV (cC (.bl false))) b6)
  (bB (eB (aL (cOp fEq (cOp fIx (cOp fIx (ag 11) (cC (.int 0))) (cC (.int 0))) (cC (.str "good")))) (bB (cY 13 (dC (iTp (cOp fIx (cOp fIx (ag 11) (cC (.int 0))) (cC (.int 1)))) (gNm 0) (aL (cOp (fIn false) (ag 0) (ag 1))) (ag 0) 1 [12]))
  (eB (Br (aL (cCB cg (af (ag 2) (af (ag 3) (af (ag 9) (af (cC (.bl false)) (af (ag 13) aD)))))))) (eV (cC (.bl false))) b6)) b6)
  (bB (nA (iTp (hU (af (cC (.bl true)) (af (cC (.bl false)) aD)))) (gNm 14) (oC bM bN ak aH cM aM gF gm cg bZ))
  (bB (cY 17 (cCB bZ (af (ag 2) (af (ag 3) (af (ag 9) aD)))))
  (bB (eB (uO (aL (cOp HI (ag 17) (cC .non))) (aL (cOp fNe (cOp fIx (cOp fIx (ag 11) (cC (.int 0))) (cC (.int 0))) (cC (.str "good"))))) (eV (cC (.bl false))) b6)
  (bB (eB (uO (aL (cOp qQ (ag 17) (cC .non))) (aL (cOp fNe (cOp fIx (cCB gF (af (ag 2) (af (ag 3) (af (cSl (ag 9) none (some (ag 17))) (af (cC (.bl true)) aD))))) (cC (.int 0))) (cC (.str "none"))))) (eV (cC (.bl false))) b6)
  (eB (uO (aL (cOp qQ (ag 17) (cC .non))) (aL (cOp fNe (cOp fIx (cCB gF (af (ag 2) (af (ag 3) (af (cSl (ag 9) none (some (cOp HH (ag 17) (cC (.int 1))))) (af (cC (.bl true)) aD))))) (cC (.int 0))) (cC (.str "good"))))) (eV (cC (.bl false))) b6)))))))))))
def uM(bM bN ak aH cM aM gF gm cg bZ:Fn):CS:=
 (bB (cY 2 (cCB bM (af (ag 1) aD)))
  (bB (cY 3 (cCB bN (af (ag 1) (af (ag 2) aD))))
  (bB (cY 4 (fU (af (cOp fIx (ag 2) (cC (.int 0))) aD)))
  (bB (cY 5 (dQ (cX (af (cOp fIx (ag 2) (cC (.int 0))) aD)) (gNm 0) (cBM fO (ag 1) (af (cCB ak (af (ag 2) (af (cCB l5 (af (ag 1) aD)) aD))) aD)) 1 [4,1]))
  (bB (cY 6 (cCB g7 (af (dQ (cX (af (cOp fIx (ag 2) (cC (.int 0))) aD)) (gNm 0) (cOp fIx (ag 1) (cBM l6 (ag 2) (af (ag 0) aD))) 1 [3,5]) aD)))
  (bB (cY 7 (cCB aH (af (ag 1) (af (cC (.int 200)) aD))))
  (bB (nA (cX (af (cC (.int 2)) aD)) (gNm 8) (rk bM bN ak aH cM aM gF gm cg bZ))
  (eV (cC (.bl true))))))))))
theorem KW{k:Nat}{bM bN ak aH cM aM gF gm cg bZ:Fn}{fa:Addr}{fd:FuncData}(F:Fun K "law" "law" Cs fa fd)(B:Blt mg)(uV:Has P w K mg base "_law_pen" k ["script"] (AO K))(ig:dF P w K mg base "_law_world" k ["pen"] bM)(ik:dF P w K mg base "_law_state" k ["pen","world"] bN)(aC:dF P w K mg base "_law_take" k ["pen","many"] ak)(dc:dF P w K mg base "_law_names" k ["pen","many"] aH)(jW:dF P w K mg base "_law_log" k ["pen","world","state","most","size"] cM)(cS:dF P w K mg base "_law_put_otherwise" k ["log","names","boxes"] aM)(nE:dF P w K mg base "good" k ["world","state","log","every"] gF)(rB:dF P w K mg base "asked" k ["log","every"] gm)(iF:dF P w K mg base "is_order" k ["world","state","log","every","order"] cg)(jb:dF P w K mg base "first_bad" k ["world","state","log"] bZ)
  (ok:∀(ns:List Int) (a c:Int),0<=a->0<=c->∃ρ' S',uM bM bN ak aH cM aM gF gm cg bZ [none,some (.ref 1),none,none,none,none,none,none,none,none,none,none,none,none,none,none,none,none] [.lst (ns.map U.int),.lst [.ref 0,.int a,.int c]]=some (.rt (.bl true),ρ',S')):kh P w K mg base CX0 (k+1) fa fd ["script"] (zh K):=by
 refine Fun.okW F AR (fun vs H Q E h=>(by obtain⟨a,ns,rfl,_⟩:=h;rfl)) fun cdv A outer s H vs Q E hr h=>?_;obtain⟨a,ns,rfl,hS,ed,q⟩:=h;have hu:=dg hr;have nd:=AR.nd;refine⟨_,fD (u:=tS K (uM bM bN ak aH cM aM gF gm cg bZ)) (va (i:=1) nd rfl (by trivial) (AF uV hr rfl (dR (wpv 0) iP))) (av (aU (i:=2) nd rfl (by trivial) (aT ig hr rfl (ab (ae (wpv 1)) ay)))
   (av (aU (i:=3) nd rfl (by trivial) (aT ik hr rfl (ab (ae (wpv 1)) (ab (ae (wpv 2)) ay))))
   (av (aU (i:=4) nd rfl (by trivial) (lq rfl rfl B.list rfl B.range (ab (bJ hu (ae (wpv 2)) (aB ao) (fun _ _=>rfl) (fun _ _=>rfl)) ay) rfl rfl))
   (av (aU (i:=5) nd rfl (by trivial) (lA (Nc:=["box","left","pen"]) (tn:=["box"]) (capN:=["left","pen"]) (caps:=[4,1]) rfl (fK rfl B.range (ab (bJ hu (ae (wpv 2)) (aB ao) (fun _ _=>rfl) (fun _ _=>rfl)) ay)) (fun _ _ _=>(bQ (aK (i:=0) (show(["box","left","pen"]:List Str).Nodup by decide +kernel) rfl (by trivial)))) (fun _ _ _=>(qA (ae (wpv 1)) (ab (aT aC hr rfl (ab (ae (wpv 2)) (ab (cQ lI lF rfl B.len PySem.boot_len (ab (ae (wpv 1)) ay)) ay))) ay))) rfl rfl (by decide +kernel) (by decide +kernel) ⟨rfl,rfl,trivial⟩ rfl (.cons ⟨rfl,rfl,rfl,_,rfl⟩ (.cons ⟨rfl,rfl,rfl,_,rfl⟩ .nil)) rfl rfl))
   (av (aU (i:=6) nd rfl (by trivial) (f7 dv lC rfl B.tuple OG.fV (ab (lA (Nc:=["box","state","boxes"]) (tn:=["box"]) (capN:=["state","boxes"]) (caps:=[3,5]) rfl (fK rfl B.range (ab (bJ hu (ae (wpv 2)) (aB ao) (fun _ _=>rfl) (fun _ _=>rfl)) ay)) (fun _ _ _=>(bQ (aK (i:=0) (show(["box","state","boxes"]:List Str).Nodup by decide +kernel) rfl (by trivial)))) (fun _ _ _=>(bJ hu (ae (wpv 1)) (Cy (ae (wpv 2)) (ab (ae (wpv 0)) ay)) (fun _ _=>rfl) (fun _ _=>rfl))) rfl rfl (by decide +kernel) (by decide +kernel) ⟨rfl,rfl,trivial⟩ rfl (.cons ⟨rfl,rfl,rfl,_,rfl⟩ (.cons ⟨rfl,rfl,rfl,_,rfl⟩ .nil)) rfl rfl) ay)))
   (av (aU (i:=7) nd rfl (by trivial) (aT dc hr rfl (ab (ae (wpv 1)) (ab (aB ao) ay))))
   (av (jq PassesOwn.never rfl (fK rfl B.range (ab (aB ao) ay)) (bQ (aK (i:=8) nd rfl (by trivial))) (av (aU (i:=9) nd rfl (by trivial) (aT jW hr rfl (ab (ae (wpv 1)) (ab (ae (wpv 2)) (ab (ae (wpv 3)) (ab (aB ao) (ab (aB ao) ay)))))))
   (av (aU (i:=10) nd rfl (by trivial) (aT cS hr rfl (ab (ae (wpv 9)) (ab (ae (wpv 7)) (ab (ae (wpv 5)) ay)))))
   (av (mY (Nc:=["every","world","state","log"]) (tn:=["every"]) (capN:=["world","state","log"]) (caps:=[2,3,9]) rfl (e8 (fh (ab (j7 bW) (ab (j7 bW) ay)))) (fun _ _ _=>(bQ (aK (i:=0) (show(["every","world","state","log"]:List Str).Nodup by decide +kernel) rfl (by trivial)))) (fun _ _ _=>(aT nE hr rfl (ab (ae (wpv 1)) (ab (ae (wpv 2)) (ab (ae (wpv 3)) (ab (ae (wpv 0)) ay)))))) rfl rfl (by decide +kernel) (by decide +kernel) ⟨rfl,rfl,rfl,trivial⟩ rfl (.cons ⟨rfl,rfl,rfl,_,rfl⟩ (.cons ⟨rfl,rfl,rfl,_,rfl⟩ (.cons ⟨rfl,rfl,rfl,_,rfl⟩ .nil))) rfl rfl nd rfl rfl rfl)
   (av (aU (i:=12) nd rfl (by trivial) (aT rB hr rfl (ab (ae (wpv 9)) (ab (j7 bW) ay))))
   (av (cD (Cv (ub (bz js sh (bJ hu (bJ hu (ae (wpv 11)) (aB ao) (fun _ _=>rfl) (fun _ _=>rfl)) (aB ao) (fun _ _=>rfl) (fun _ _=>rfl)) (dH bh) (bq _)) (m6 (bz o9 A2 (bJ hu (bJ hu (ae (wpv 11)) (aB ao) (fun _ _=>rfl) (fun _ _=>rfl)) (aB ao) (fun _ _=>rfl) (fun _ _=>rfl)) (dH bh) (bq _))))) (aA (a6 (j7 bW))) bT)
   (av (cD (bz js sh (bJ hu (bJ hu (ae (wpv 11)) (aB ao) (fun _ _=>rfl) (fun _ _=>rfl)) (aB ao) (fun _ _=>rfl) (fun _ _=>rfl)) (dH bh) (bq _)) (av (o5 (Nc:=["a","done"]) (tn:=["a"]) (capN:=["done"]) (caps:=[12]) rfl (e8 (bJ hu (bJ hu (ae (wpv 11)) (aB ao) (fun _ _=>rfl) (fun _ _=>rfl)) (aB ao) (fun _ _=>rfl) (fun _ _=>rfl))) (fun _ _ _=>(bQ (aK (i:=0) (show(["a","done"]:List Str).Nodup by decide +kernel) rfl (by trivial)))) (fun _ _ _=>(FX hu (ae (wpv 0)) (ae (wpv 1)) (by with_unfolding_all rfl))) (fun _ _ _=>(ae (wpv 0))) rfl rfl (by decide +kernel) (by decide +kernel) ⟨rfl,trivial⟩ rfl (.cons ⟨rfl,rfl,rfl,_,rfl⟩ .nil) rfl rfl nd rfl rfl rfl)
   (aA (cD (o6 (j5 (aT iF hr rfl (ab (ae (wpv 2)) (ab (ae (wpv 3)) (ab (ae (wpv 9)) (ab (j7 bW) (ab (ae (wpv 13)) ay)))))))) (aA (a6 (j7 bW))) bT))) bT)
   (av (jq PassesOwn.never rfl (e8 (fh (ab (j7 bW) (ab (j7 bW) ay)))) (bQ (aK (i:=14) nd rfl (by trivial))) (av (AX (bJ hu (ae (wpv 11)) (f7 yh Km rfl B.int OG.tK (ab (AY (ae (wpv 14))) ay)) (fun _ _=>rfl) (fun _ _=>rfl)) (mZ rfl (cK (aK (i:=15) nd rfl (by trivial)) (cK (aK (i:=16) nd rfl (by trivial)) jQ))))
   (av (cD (bz o9 A2 (bJ hu (aT nE hr rfl (ab (ae (wpv 2)) (ab (ae (wpv 6)) (ab (ae (wpv 10)) (ab (ae (wpv 14)) ay))))) (aB ao) (fun _ _=>rfl) (fun _ _=>rfl)) (ae (wpv 15)) (bq _)) (aA (a6 (j7 bW))) bT)
   (aA (cD (bz js sh (ae (wpv 15)) (dH bh) (bq _)) (av (mY (Nc:=["a","names"]) (tn:=["a"]) (capN:=["names"]) (caps:=[7]) rfl (e8 (ae (wpv 16))) (fun _ _ _=>(bQ (aK (i:=0) (show(["a","names"]:List Str).Nodup by decide +kernel) rfl (by trivial)))) (fun _ _ _=>(bJ hu (ae (wpv 1)) (ae (wpv 0)) (fun _ _=>rfl) (fun _ _=>rfl))) rfl rfl (by decide +kernel) (by decide +kernel) ⟨rfl,trivial⟩ rfl (.cons ⟨rfl,rfl,rfl,_,rfl⟩ .nil) rfl rfl nd rfl rfl rfl)
   (aA (cD (o6 (j5 (aT iF hr rfl (ab (ae (wpv 2)) (ab (ae (wpv 6)) (ab (ae (wpv 10)) (ab (ae (wpv 14)) (ab (ae (wpv 16)) ay)))))))) (aA (a6 (j7 bW))) bT))) bT)))))
   (av (aU (i:=17) nd rfl (by trivial) (aT jb hr rfl (ab (ae (wpv 2)) (ab (ae (wpv 3)) (ab (ae (wpv 9)) ay)))))
   (av (cD (Cv (ub (bz GN Kl (ae (wpv 17)) (zq nH) (bq _)) (m6 (bz o9 A2 (bJ hu (bJ hu (ae (wpv 11)) (aB ao) (fun _ _=>rfl) (fun _ _=>rfl)) (aB ao) (fun _ _=>rfl) (fun _ _=>rfl)) (dH bh) (bq _))))) (aA (a6 (j7 bW))) bT)
   (av (cD (Cv (ub (bz wC A1 (ae (wpv 17)) (zq nH) (bq _)) (m6 (bz o9 A2 (bJ hu (aT nE hr rfl (ab (ae (wpv 2)) (ab (ae (wpv 3)) (ab (Lv (ae (wpv 9)) wc (wb (ae (wpv 17)))) (ab (j7 bW) ay))))) (aB ao) (fun _ _=>rfl) (fun _ _=>rfl)) (dH bh) (bq _))))) (aA (a6 (j7 bW))) bT)
   (aA (cD (Cv (ub (bz wC A1 (ae (wpv 17)) (zq nH) (bq _)) (m6 (bz o9 A2 (bJ hu (aT nE hr rfl (ab (ae (wpv 2)) (ab (ae (wpv 3)) (ab (Lv (ae (wpv 9)) wc (wb (gG A3 GH (ae (wpv 17)) (aB ao)))) (ab (j7 bW) ay))))) (aB ao) (fun _ _=>rfl) (fun _ _=>rfl)) (dH bh) (bq _))))) (aA (a6 (j7 bW))) bT)))))))))))))
   (aA (a6 (j7 bW)))))))))),?_⟩
 refine⟨_,rfl,a,ns,rfl,hS,fun p xs H1 s1 P1 n1=>?_⟩;exact Du P1 ok q
end
end OL
namespace OQ
open PySem PySem.Spec PyProof.Rows L2 OG OP
structure Bij(f g:Int->Int)(n:Int):Prop where
 l:∀a,g (f a)=a
 r:∀a,f (g a)=a
 b:∀a,0<=a->a<n->0<=f a/\f a<n
theorem Bij.inj{f g:Int->Int}{n:Int}(h:Bij f g n){a b:Int}:f a=f b↔a=b:=⟨fun e=>by rw[<-h.l a,e,h.l],fun e=>by rw[e]⟩
theorem Bij.mem{f g:Int->Int}{n:Int}(h:Bij f g n){a:Int}{l:List Int}:f a∈l.map f↔a∈l:=⟨fun z=>by
 obtain⟨b,hb,e⟩:=QF.mp z;rw[<-h.inj.mp e];exact hb,fun z=>List.mem_map_of_mem z⟩
def pR(f:Int->Int)(p:Int×Int):Int×Int:=(f p.1,p.2)
def evR(s b:Int->Int):Ev->Ev
 |.beg a=>.beg (s a)
 |.look a k x=>.look (s a) (b k) x
 |.put a k x=>.put (s a) (b k) x
 |.fin d a=>.fin d (s a)
def atR(s b:Int->Int)(t:Att):Att:=⟨t.en,t.lk.map (pR b),t.nd.map (pR b),t.ps.map (pR b),t.bf.map s⟩
def kR(s b:Int->Int)(p:Int×Att):Int×Att:=(s p.1,atR s b p.2)
def stR(s b:Int->Int)(st:St):St:=st.map (kR s b)
section
variable{s s' b b':Int->Int}{n w:Int}{st:St}{e:Ev}{a:Int}{t:Att}{x y g os:List Int}{every:Bool}
theorem jJ(hs:Bij s s' 200):aR (stR s b st) (s a)=(aR st a).map (atR s b):=by
 unfold aR stR;rw[List.find?_map];have:(fun kv:Int×Att=>decide (kv.1=s a)) ∘ kR s b=fun kv=>decide (kv.1=a):=funext fun p=>by
  simp only[Function.comp,kR,hs.inj]
 rw[this,Option.map_map,Option.map_map];rfl
theorem nM(hb:Bij b b' n)(ps:List (Int×Int))(k:Int):aR (ps.map (pR b)) (b k)=aR ps k:=by
 unfold aR;rw[List.find?_map];have:(fun kv:Int×Int=>decide (kv.1=b k)) ∘ pR b=fun kv=>decide (kv.1=k):=funext fun p=>by
  simp only[Function.comp,pR,hb.inj]
 rw[this,Option.map_map];rfl
theorem CD(hb:Bij b b' n)(ps:List (Int×Int))(k v:Int):fj (ps.map (pR b)) (b k) v=(fj ps k v).map (pR b):=by
 unfold fj;have h1:((ps.map (pR b)).any fun kv=>decide (kv.1=b k))=ps.any fun kv=>decide (kv.1=k):=by
  rw[List.any_map];congr 1;exact funext fun p=>by simp only[Function.comp,pR,hb.inj]
 rw[h1];split
 ·rw[QM,QM];refine Qn fun p _=>?_;simp only[Function.comp,pR,hb.inj];split<;>rfl
 ·rw[QK];rfl
theorem GK(hb:Bij b b' n){p q:Int×Int}:pR b p=pR b q↔p=q:=⟨fun h=>by
 obtain⟨p1,p2⟩:=p;obtain⟨q1,q2⟩:=q;simp only[pR,Prod.mk.injEq,hb.inj]at h;rw[h.1,h.2],fun h=>by rw[h]⟩
theorem Eb(hb:Bij b b' n)(nd:List (Int×Int))(q:Int×Int):uQ (nd.map (pR b)) (pR b q)=(uQ nd q).map (pR b):=by
 have h1:pR b q∈nd.map (pR b)↔q∈nd:=⟨fun z=>by
  obtain⟨p,hp,e⟩:=QF.mp z;rw[<-(GK hb).mp e];exact hp,fun z=>List.mem_map_of_mem z⟩
 unfold uQ;by_cases h:q∈nd
 ·rw[if_pos h,if_pos (h1.mpr h)]
 ·rw[if_neg h,if_neg (fun z=>h (h1.mp z)),QK];rfl
theorem HK(hb:Bij b b' n):(atR s b t).ev (evR s b e)=atR s b (t.ev e):=by
 cases e with
 |beg a=>rfl
 |look a k x=>
  simp only[evR,Att.ev];rw[show(atR s b t).ps=t.ps.map (pR b)from rfl,nM hb];split
  ·rfl
  ·simp only[atR,QK,QJ,Ql];rw[show(b k,x)=pR b (k,x)from rfl,Eb hb]
 |put a k x=>
  simp only[evR,Att.ev,atR];rw[CD hb]
 |fin d a=>rfl
theorem vK(hs:Bij s s' 200)(hb:Bij b b' n):stp (stR s b st) (evR s b e)=stR s b (stp st e):=by
 have upd:∀a:Int,rM (stR s b st) (s a) (fun t=>t.ev (evR s b e))=stR s b (rM st a fun t=>t.ev e):=fun a=>by
  unfold rM stR;rw[QM,QM];refine Qn fun p _=>?_;simp only[Function.comp,kR,hs.inj];split
  ·rw[HK hb]
  ·rfl
 cases e with
 |beg a=>
  show stR s b st++[(s a,my (stR s b st))]=stR s b (st++[(a,my st)]);unfold stR;rw[QK,List.map_singleton];congr 3;unfold my;rw[List.filter_map,QM];simp only[kR,atR,Ql,QM];rfl
 |look a k x=>exact upd a
 |put a k x=>exact upd a
 |fin d a=>exact upd a
theorem vV(hs:Bij s s' 200)(hb:Bij b b' n):∀(es:List Ev) (st:St),bo (stR s b st) (es.map (evR s b))=stR s b (bo st es)
 |[],st=>rfl
 |e::es,st=>by
  show bo (stp (stR s b st) (evR s b e)) (es.map (evR s b))=_;rw[vK hs hb,vV hs hb es];rfl
theorem sI:aE (stR s b st)=(aE st).map s:=by
 unfold aE stR;rw[QM,QM];rfl
theorem GR(hs:Bij s s' 200)(hb:Bij b b' n)(h:tQ n w st e):tQ n w (stR s b st) (evR s b e):=by
 cases e with
 |beg a=>exact⟨(hs.b a h.1 h.2.1).1,(hs.b a h.1 h.2.1).2,by rw[sI,hs.mem];exact h.2.2⟩
 |look a k x=>
  obtain⟨⟨h1,h2,h3⟩,t,h4,h5,h6⟩:=h;exact⟨⟨(hb.b k h1 h2).1,(hb.b k h1 h2).2,h3⟩,atR s b t,by rw[jJ hs,h4];rfl,h5,fun y hy=>h6 y (by rw[<-hy];exact(nM hb _ _).symm)⟩
 |put a k x=>
  obtain⟨⟨h1,h2,h3⟩,t,h4,h5⟩:=h;exact⟨⟨(hb.b k h1 h2).1,(hb.b k h1 h2).2,h3⟩,atR s b t,by rw[jJ hs,h4];rfl,h5⟩
 |fin d a=>
  obtain⟨t,h4,h5⟩:=h;exact⟨atR s b t,by rw[jJ hs,h4];rfl,h5⟩
theorem wV(hs:Bij s s' 200)(hb:Bij b b' n):∀(es:List Ev) (st:St),mG n w st es->mG n w (stR s b st) (es.map (evR s b))
 |[],st,_=>trivial
 |e::es,st,h=>⟨GR hs hb h.1,by
  have:=wV hs hb es _ h.2;rw[<-vK hs hb]at this;exact this⟩
theorem wW(hs:Bij s s' 200)(hb:Bij b b' n){N:Nat}{evs:List Ev}(lg:ja n w N evs):ja n w N (evs.map (evR s b))/\bo [] (evs.map (evR s b))=stR s b (bo [] evs):=by
 have h:=vV hs hb evs [];have h1:bo [] (evs.map (evR s b))=stR s b (bo [] evs):=h;refine⟨sF (wV hs hb evs [] lg.lo) ?_,h1⟩;rw[h1];unfold stR;rw[Q6];exact lg.cnt
theorem Bo(hs:Bij s s' 200):yM (stR s b st) (s a)=yM st a:=by
 unfold yM;rw[jJ hs];cases aR st a<;>rfl
theorem yz(hs:Bij s s' 200):jF (stR s b st) every (s a)=jF st every a:=by unfold jF;rw[Bo hs]
theorem zV(hs:Bij s s' 200):cL (stR s b st) every (atR s b t)=(cL st every t).map s:=by
 unfold cL;rw[show(atR s b t).bf=t.bf.map s from rfl,List.filter_map];congr 2;exact funext fun a=>yz hs
theorem nV(hs:Bij s s' 200):(aS (stR s b st) every).Perm ((aS st every).map s):=by
 unfold aS;refine((aN _).filter _).trans ?_;rw[sI,List.filter_map];refine List.Perm.map _ ?_;have:jF (stR s b st) every ∘ s=jF st every:=funext fun a=>yz hs;rw[this];exact((aN _).filter _).symm
theorem gX:aW os=aS st every↔os.Perm (aS st every):=⟨fun h=>by rw[<-h];exact(aN os).symm,fun h=>(iC h.symm lH).symm⟩
structure Mv(b:Int->Int)(n:Int)(x y:List Int):Prop where
 lx:x.length=n.toNat
 ly:y.length=n.toNat
 at_:∀k,0<=k->k<n->y.getD (b k).toNat 0=x.getD k.toNat 0
theorem yt{first:List Int}{ps:List (Int×Int)}{i:Nat}(h:i<first.length):(beh first ps 0).getD i 0=(aR ps (i:Int)).getD (first.getD i 0):=by
 rw[Qm,beh,QC,List.getElem?_zipIdx,Q4 h,Qm,Q4 h];simp
theorem Mv.chg(hs:Bij s s' 200)(hb:Bij b b' n)(h:Mv b n x y):Mv b n (chg st a x) (chg (stR s b st) (s a) y):=by
 refine⟨by rw[oz];exact h.lx,by rw[oz];exact h.ly,fun k h0 h1=>?_⟩;unfold OQ.chg;rw[Bo hs];split
 ·have ps:En (stR s b st) (s a)=(En st a).map (pR b):=by
   unfold En;rw[jJ hs];cases aR st a<;>rfl
  obtain⟨b0,b1⟩:=hb.b k h0 h1;have e1:(((b k).toNat:Nat):Int)=b k:=by omega
  have e2:((k.toNat:Nat):Int)=k:=by omega
  rw[yt (by rw[h.ly];omega),yt (by rw[h.lx];omega),ps,e1,e2,nM hb,h.at_ k h0 h1]
 ·exact h.at_ k h0 h1
theorem kH(hs:Bij s s' 200)(hb:Bij b b' n)(hbd:∀a t,aR st a=some t->∀p∈t.nd,0<=p.1/\p.1<n):∀(os g x y:List Int),Mv b n x y->dh (stR s b st) every (g.map s) y (os.map s)=dh st every g x os
 |[],g,x,y,h=>rfl
 |a::os,g,x,y,h=>by
  rw[QJ,eE,eE,<-QJ,kH hs hb hbd os (a::g) _ _ (h.chg hs hb)];congr 1;unfold qh;rw[jJ hs];cases hv:aR st a with
  |none=>rfl
  |some t=>
   simp only[Option.map_some];rw[zV hs,List.all_map,show(atR s b t).nd=t.nd.map (pR b)from rfl,List.all_map];have h1:(fun c=>decide (c∈g.map s)) ∘ s=fun c=>decide (c∈g):=funext fun c=>by simp only[Function.comp,hs.mem]
   rw[h1];congr 1;have:∀l:List (Int×Int),(∀p∈l,0<=p.1/\p.1<n)->l.all (sU y ∘ pR b)=l.all (sU x):=fun l=>by
    induction l with
    |nil=>intro _;rfl
    |cons p r ih=>
     intro hl;rw[ZV,ZV,ih fun q hq=>hl q (by simp[hq])];congr 1;obtain⟨z0,z1⟩:=hl p (by simp);show decide (y.getD (b p.1).toNat 0=p.2)=decide (x.getD p.1.toNat 0=p.2);rw[h.at_ _ z0 z1]
   exact this _ (hbd a t hv)
theorem DI(hs:Bij s s' 200)(hb:Bij b b' n)(hbd:∀a t,aR st a=some t->∀p∈t.nd,0<=p.1/\p.1<n)(h:Mv b n x y):n6 (stR s b st) every y↔n6 st every x:=by
 constructor
 ·rintro⟨os,h1,h2⟩;have p:=(gX.mp h1).trans (nV hs);have e:os=(os.map s').map s:=by
   rw[QM];conv=>lhs;rw[<-List.map_id os]
   exact Qn fun a _=>(hs.r a).symm
  refine⟨os.map s',gX.mpr ?_,?_⟩
  ·have:=p.map s';rw[QM]at this;have i:s' ∘ s=id:=funext fun a=>hs.l a;rw[i,List.map_id]at this;exact this
  ·rw[e]at h2;rw[<-kH hs hb hbd _ [] x y h];exact h2
 ·rintro⟨os,h1,h2⟩;exact⟨os.map s,gX.mpr (((gX.mp h1).map s).trans (nV hs).symm),by
   have:=kH (every:=every) hs hb hbd os [] x y h;rw[h2]at this;exact this⟩
theorem De(hs:Bij s s' 200)(hb:Bij b b' n)(hbd:∀a t,aR st a=some t->∀p∈t.nd,0<=p.1/\p.1<n)(h:Mv b n x y)(h1:aW os=aS st every)(h2:dh st every [] x os=true):aW (os.map s)=aS (stR s b st) every/\dh (stR s b st) every [] y (os.map s)=true:=
 ⟨gX.mpr (((gX.mp h1).map s).trans (nV hs).symm),by
  have:=kH (every:=every) hs hb hbd os [] x y h;rw[h2]at this;exact this⟩
end
section
variable{st:St}{n w:Int}{a:Int}{l os:List Int}{x:List Int}
theorem D9:jF st true a=true:=rfl
theorem lV:∀(os g g' x:List Int),(∀b,b∈g->jF st false b=true->b∈g')->dh st true g x os=true->dh st false g' x (os.filter (jF st false))=true
 |[],g,g',x,_,_=>rfl
 |a::os,g,g',x,hg,h=>by
  rw[eE,Qs]at h;obtain⟨h1,h2⟩:=h;cases ha:jF st false a with
  |true=>
   rw[List.filter_cons_of_pos ha,eE,Qs];refine⟨?_,lV os (a::g) (a::g') _ (fun b hb hk=>?_) h2⟩
   ·unfold qh at h1 ⊢;cases hv:aR st a with
    |none=>rw[hv]at h1;exact h1
    |some t=>
     rw[hv]at h1;dsimp only at h1 ⊢;rw[Qs]at h1 ⊢;refine⟨List.all_eq_true.mpr fun b hb=>?_,h1.2⟩;obtain⟨k1,k2⟩:=Z6.mp hb;exact decide_eq_true (hg b (of_decide_eq_true (List.all_eq_true.mp h1.1 b (Z6.mpr ⟨k1,rfl⟩))) k2)
   ·rcases QD.mp hb with rfl|z
    ·simp
    ·simp[hg b z hk]
  |false=>
   rw[List.filter_cons_of_neg (by rw[ha];exact QV)];have hc:chg st a x=x:=by
    unfold chg;have:¬yM st a=some true:=fun z=>by
     unfold jF at ha;rw[z]at ha;simp at ha
    rw[if_neg this]
   rw[hc]at h2;refine lV os (a::g) g' _ (fun b hb hk=>?_) h2;rcases QD.mp hb with rfl|z
   ·rw[ha]at hk;cases hk
   ·exact hg b z hk
theorem pf:(aS st true).filter (jF st false)=aS st false:=by
 unfold aS;rw[List.filter_filter];congr 1;exact funext fun a=>by rw[D9,Bool.and_true]
theorem sV(h1:aW os=aS st true)(h2:dh st true [] x os=true):os.filter (fun a=>decide (a∈aS st false))=os.filter (jF st false)/\aW (os.filter (jF st false))=aS st false/\dh st false [] x (os.filter (jF st false))=true:=by
 have p:=gX.mp h1;refine⟨List.filter_congr fun a ha=>?_,gX.mpr ?_,lV os [] [] x (fun b hb=>(by cases hb)) h2⟩
 ·have:a∈aS st true:=p.mem_iff.mp ha;rw[<-pf];cases hk:jF st false a with
  |true=>exact decide_eq_true (Z6.mpr ⟨this,hk⟩)
  |false=>exact decide_eq_false fun z=>by rw[(Z6.mp z).2]at hk;cases hk
 ·have:=p.filter (jF st false);rw[pf]at this;exact this
def nm(l:List Int)(n a:Int):Int:=if 0<=a/\a<n then l.getD a.toNat 0 else a
theorem DN(nd:l.Nodup)(hl:l.length=n.toNat)(hr:∀z∈l,0<=z/\z<n){v:Int}(h0:0<=v)(h1:v<n):v∈l:=by
 by_cases hv:v∈l
 ·exact hv
 ·have:=List.Nodup.length_le_of_subset (l₁:=v::l) (l₂:=(Qr n.toNat).map fun i:Nat=>(i:Int)) (ZX.mpr ⟨hv,nd⟩) fun z hz=>by
   have:0<=z/\z<n:=by
    rcases QD.mp hz with rfl|h
    ·exact⟨h0,h1⟩
    ·exact hr z h
   exact QF.mpr ⟨z.toNat,List.mem_range.mpr (by omega),by omega⟩
  simp only[QU,Q6,List.length_range]at this;omega
theorem so(nd:l.Nodup)(hl:l.length=n.toNat)(hr:∀z∈l,0<=z/\z<n):Bij (nm l n) (fun a=>if 0<=a/\a<n then(l.idxOf a:Int)else a) n:=by
 have at_:∀a,0<=a->a<n->∃h:a.toNat<l.length,nm l n a=l[a.toNat]:=fun a h0 h1=>by
  have h:a.toNat<l.length:=by omega
  refine⟨h,?_⟩;unfold nm;rw[if_pos ⟨h0,h1⟩,Qm,Q4 h];rfl
 have bd:∀a,0<=a->a<n->0<=nm l n a/\nm l n a<n:=fun a h0 h1=>by
  obtain⟨h,e⟩:=at_ a h0 h1;rw[e];exact hr _ (List.getElem_mem h)
 refine⟨fun a=>?_,fun a=>?_,bd⟩
 ·by_cases h:0<=a/\a<n
  ·rw[if_pos (bd a h.1 h.2)];obtain⟨h1,e⟩:=at_ a h.1 h.2;rw[e,nd.idxOf_getElem];omega
  ·have:nm l n a=a:=by unfold nm;rw[if_neg h]
   rw[this,if_neg h]
 ·by_cases h:0<=a/\a<n
  ·rw[if_pos h];have hm:=DN nd hl hr h.1 h.2;have hi:=List.idxOf_lt_length_of_mem hm;unfold nm;rw[if_pos (by omega),Qm,show((l.idxOf a:Int)).toNat=l.idxOf a by omega,Q4 hi,List.getElem_idxOf];rfl
  ·rw[if_neg h];unfold nm;rw[if_neg h]
def EvB(n:Int):Ev->Prop
 |.look a b _=>(0<=a/\a<200)/\0<=b/\b<n
 |.put a b _=>(0<=a/\a<200)/\0<=b/\b<n
 |.beg a=>0<=a/\a<200
 |.fin _ a=>0<=a/\a<200
theorem HM:∀(es:List Ev) (st:St),(∀a∈aE st,0<=a/\a<200)->mG n w st es->∀e∈es,EvB n e
 |[],st,_,_,e,he=>by cases he
 |f::es,st,hk,h,e,he=>by
  rcases QD.mp he with rfl|he
  ·cases e with
   |beg a=>exact⟨h.1.1,h.1.2.1⟩
   |look a k x=>obtain⟨⟨h1,h2,_⟩,t,h4,_⟩:=h.1;exact⟨hk a (qx h4),h1,h2⟩
   |put a k x=>obtain⟨⟨h1,h2,_⟩,t,h4,_⟩:=h.1;exact⟨hk a (qx h4),h1,h2⟩
   |fin d a=>obtain⟨t,h4,_⟩:=h.1;exact hk a (qx h4)
  ·refine HM es (stp st f) (fun a ha=>?_) h.2 e he;rw[iD]at ha;cases f with
   |beg b=>
    rcases Qg.mp ha with z|z
    ·exact hk a z
    ·rw[Qh.mp z];exact⟨h.1.1,h.1.2.1⟩
   |_=>exact hk a ha
end
def Aw:Fn:=fnU 5 3 bD
section
variable{n:Int}{S:Sto}{l ln lb:Nat}{names boxes:List Int}{evs:List Ev}
theorem qD{ns:List Int}{a m:Int}(hl:ns.length=m.toNat)(h0:0<=a)(h1:a<m):atI (ns.map U.int) a=some (.int (nm ns m a)):=by
 unfold nm;rw[if_pos ⟨h0,h1⟩];exact atF hl h0 h1
theorem GL(hl:S[l]?=some (.lst (evs.map Ev.u)))(hn:S[ln]?=some (.lst (names.map U.int)))(hb:S[lb]?=some (.lst (boxes.map U.int)))(nl:names.length=(200:Int).toNat)(bl:boxes.length=n.toNat)(bd:∀e∈evs,EvB n e)(he:evs.length<=900) :
  Aw [.ref l,.ref ln,.ref lb] S=some (.ref S.length,S++[.lst ((evs.map (evR (nm names 200) (nm boxes n))).map Ev.u)]):=by
 have go:Wp (Aw [.ref l,.ref ln,.ref lb] S) fun r=>r=(.ref S.length,S++[.lst ((evs.map (evR (nm names 200) (nm boxes n))).map Ev.u)]):=by
  unfold Aw;rw[iI];unfold bD;rwa[aJ];repeat with_reducible refine Wp.bind ?_
  refine Io (S1:=S++[.lst []]) (uq (l:=l) (us:=evs.map Ev.u) (by rwa[]) (aq hl)) (vx (f:=Ev.u) (fun rest ρ Z=>∃dn r4,evs=dn++rest/\ρ=[some (.ref l),some (.ref ln),some (.ref lb),some (.ref S.length),r4]/\Z=S++[.lst ((dn.map (evR (nm names 200) (nm boxes n))).map Ev.u)]) (fun ρ Z hI=>?_) (fun e rest ρ Z hI=>?_) evs _ _ ⟨[],none,rfl,rfl,rfl⟩)
  ·obtain⟨dn,r4,hd,rfl,rfl⟩:=hI;rw[QB]at hd;subst hd;refine⟨aq hl,?_⟩;rwa[aJ]
  ·obtain⟨dn,r4,hd,rfl,rfl⟩:=hI;have hb':=bd e (by rw[hd];simp);have ld:(dn.map (evR (nm names 200) (nm boxes n))).length<LIM:=by
    have:=congrArg List.length hd;simp only[Q7,QU]at this;rw[Q6];unfold LIM;omega
   refine⟨aq hl,?_⟩;obtain⟨ds,hds⟩:∃ds,ds=(dn.map (evR (nm names 200) (nm boxes n))).map Ev.u:=⟨_,rfl⟩;have lds:ds.length<LIM:=by rw[hds,Q6];exact ld
   have en:(S++[O.lst ds])[ln]?=some (.lst (names.map U.int)):=aq hn;have eb:(S++[O.lst ds])[lb]?=some (.lst (boxes.map U.int)):=aq hb;have es:(S++[O.lst ds])[S.length]?=some (.lst ds):=by rw[ga0];rfl
   have ss:∀o,(S++[O.lst ds]).set S.length o=S++[o]:=fun o=>by rw[gs0];rfl
   have ap:∀u,Hl S.length u (S++[O.lst ds]) (some (.lst ds))=some (.non,S++[.lst (ds++[u])]):=fun u=>by rw[kN lds,ss]
   have fin:∀u,u=(evR (nm names 200) (nm boxes n) e).u->∃dn' r4',evs=dn'++rest/\[some (U.ref l),some (.ref ln),some (.ref lb),some (.ref S.length),some e.u]=[some (.ref l),some (.ref ln),some (.ref lb),some (.ref S.length),r4']/\S++[O.lst (ds++[u])]=S++[.lst ((dn'.map (evR (nm names 200) (nm boxes n))).map Ev.u)]:=fun u hu=>⟨dn++[e],_,by rw[hd,Q3];rfl,rfl,by rw[QK,QK,<-hds,hu];rfl⟩;have d2:decide (((0+1+1:Nat):Int)=2)=true:=by decide
   have d4:decide (((0+1+1+1+1:Nat):Int)=2)=false:=by decide
   have x2:∀u v:U,(fIx (.tup [u,v]) (.int 0) (S++[O.lst ds])=some (u,S++[O.lst ds]))/\fIx (.tup [u,v]) (.int 1) (S++[O.lst ds])=some (v,S++[O.lst ds]):=fun u v=>⟨rfl,rfl⟩;have x4:∀u v w z:U,fIx (.tup [u,v,w,z]) (.int 0) (S++[O.lst ds])=some (u,S++[O.lst ds])/\fIx (.tup [u,v,w,z]) (.int 1) (S++[O.lst ds])=some (v,S++[O.lst ds])/\fIx (.tup [u,v,w,z]) (.int 2) (S++[O.lst ds])=some (w,S++[O.lst ds])/\fIx (.tup [u,v,w,z]) (.int 3) (S++[O.lst ds])=some (z,S++[O.lst ds]):=fun u v w z=>⟨rfl,rfl,rfl,rfl⟩;obtain⟨nu,hnu⟩:∃nu,nu=names.map U.int:=⟨_,rfl⟩;obtain⟨bu,hbu⟩:∃bu,bu=boxes.map U.int:=⟨_,rfl⟩;rw[<-hnu]at en;rw[<-hbu]at eb;rw[<-hds];unfold dJ;cases e with
   |beg a=>
    have e1:=qD nl hb'.1 hb'.2;rw[<-hnu]at e1;rwa[Ev.u,en,es,ap,e1,d2,(x2 _ _).1,(x2 _ _).2,aJ];exact .inl ⟨trivial,fin _ rfl⟩
   |look a k x=>
    have e1:=qD nl hb'.1.1 hb'.1.2;have e2:=qD bl hb'.2.1 hb'.2.2;rw[<-hnu]at e1;rw[<-hbu]at e2;rwa[Ev.u,en,eb,es,ap,e1,e2,d4,(x4 _ _ _ _).1,(x4 _ _ _ _).2.1,(x4 _ _ _ _).2.2.1,(x4 _ _ _ _).2.2.2,aJ];exact .inl ⟨trivial,fin _ rfl⟩
   |put a k x=>
    have e1:=qD nl hb'.1.1 hb'.1.2;have e2:=qD bl hb'.2.1 hb'.2.2;rw[<-hnu]at e1;rw[<-hbu]at e2;rwa[Ev.u,en,eb,es,ap,e1,e2,d4,(x4 _ _ _ _).1,(x4 _ _ _ _).2.1,(x4 _ _ _ _).2.2.1,(x4 _ _ _ _).2.2.2,aJ];exact .inl ⟨trivial,fin _ rfl⟩
   |fin d a=>
    have e1:=qD nl hb'.1 hb'.2;rw[<-hnu]at e1;rwa[Ev.u,en,es,ap,e1,d2,(x2 _ _).1,(x2 _ _).2,aJ];exact .inl ⟨trivial,fin _ rfl⟩
 obtain⟨r,e,rfl⟩:=go;exact e
end
section
variable{ci:CI}{ce:CE}{ρ:Rho}{S S1:Sto}{u1 u2:U}{caps:List Nat}{cs:Rho}{Q:U×Sto->Prop}
theorem JZ(hi:ci ρ S=some ([u1,u2],fun _=>True,S1))(hr:kB 1 caps ρ=none::cs)
  (h:Wp (ce (some u1::cs) (S1++[.lst []])) fun r1=>∃G1,r1.2=S1++[.lst []]++G1/\Wp (ce (some u2::cs) (S1++(.lst [r1.1]::G1))) fun r2=>∃G2,r2.2=S1++(.lst [r1.1]::G1)++G2/\Q (.ref S1.length,S1++(.lst [r1.1,r2.1]::(G1++G2)))):Wp (dQ ci (gNm 0) ce 1 caps ρ S) Q:=by
 obtain⟨⟨x1,Y1⟩,e1,G1,h1,⟨x2,Y2⟩,e2,G2,h2,q⟩:=h;dsimp only at h1 e2 h2 q;subst h1 h2;refine⟨_,?_,q⟩;unfold dQ;rw[hi,Q8,hr];dsimp only;have s1:(S1++[O.lst []]++G1).set S1.length (.lst ([]++[x1]))=S1++(.lst [x1]::G1):=by rw[Q3,gs0];rfl
 have s2:(S1++(O.lst [x1]::G1)++G2).set S1.length (.lst ([x1]++[x2]))=S1++(.lst [x1,x2]::(G1++G2)):=by rw[Q3,gs0];rfl
 rw[g8 (ys:=[]) trivial rfl e1 (by rw[Q3,ga0];rfl) (by unfold LIM;decide),s1,g8 (ys:=[x1]) trivial rfl e2 (by rw[Q3,ga0];rfl) (by unfold LIM;show 1<100000;decide),s2,kI trivial];rfl
theorem Eh{c1 c2:CS}{Q:Out×Rho×Sto->Prop}(h:Wp (c1 ρ S) fun r=>r.1=.nx/\Wp (c2 r.2.1 r.2.2) Q):Wp (bB c1 c2 ρ S) Q:=by
 obtain⟨⟨o,ρ1,S1⟩,e,rfl,r,e2,q⟩:=h;refine⟨r,?_,q⟩;unfold bB;rw[e];exact e2
end
section
variable{st:St}{every:Bool}{x:List Int}{Y X:Sto}{u:U}{l:Nat}{evs:List Ev}{S:Sto}{c cA:Cl}{n w:Int}{wu:U}{ρ:Rho}{ch:CE}
theorem Cp{f:Int}(hl:S[l]?=some (.lst (evs.map Ev.u)))(f0:0<=f)(f1:f<=evs.length)(hv:ag 9 ρ S=some (.ref l,S))(hc:ch ρ S=some (.int f,S)):cSl (ag 9) none (some ch) ρ S=some (.ref S.length,S++[.lst ((evs.take f.toNat).map Ev.u)]):=by
 have ecut:Ew (evs.map Ev.u) none (some f)=(evs.take f.toNat).map Ev.u:=by
  have h0:HT.sIx (evs.map Ev.u).length 0 none=0:=rfl;have h1:HT.sIx (evs.map Ev.u).length (evs.map Ev.u).length (some f)=f.toNat:=by
   unfold HT.sIx;simp only[Q6];split<;>omega
  unfold Ew;rw[h0,h1,List.drop_zero,Nat.sub_zero,List.map_take]
 unfold cSl;rw[hv,Q8];have p0:uN none ρ S=some (none,S):=rfl;simp only[p0,Q8,Cq hc,fSl,hl,ecut]
def Td(st:St)(every:Bool)(x:List Int)(Y:Sto)(u:U):Prop:=∃j,(∃os,u=.tup [.str "good",.ref j]/\Y[j]?=some (.lst (os.map U.int))/\aW os=aS st every/\dh st every [] x os=true)\/(u=.tup [.str "none",.ref j]/\¬n6 st every x)
theorem Td.app(h:Td st every x Y u)(X:Sto):Td st every x (Y++X) u:=by
 obtain⟨j,⟨os,h1,h2,h3⟩|h⟩:=h
 ·exact⟨j,.inl ⟨os,h1,aq h2,h3⟩⟩
 ·exact⟨j,.inr h⟩
theorem Td.word(h:Td st every x Y u):∃j,(n6 st every x/\u=.tup [.str "good",.ref j])\/(¬n6 st every x/\u=.tup [.str "none",.ref j]):=by
 obtain⟨j,⟨os,h1,h2,h3⟩|h⟩:=h
 ·exact⟨j,.inl ⟨⟨os,h3⟩,h1⟩⟩
 ·exact⟨j,.inr ⟨h.2,h.1⟩⟩
theorem Ag(hns:c.ns.length=5)(hna:cA.ns.length=3)(hl:S[l]?=some (.lst (evs.map Ev.u)))(lg:ja n w 5 evs)(he:evs.length<=900)(hx:x.length=n.toNat)(hn:n<=100) :
  ∃u G,EA c cA [wu,.tup (x.map U.int),.ref l,.bl every] S=some (u,S++G)/\∀Z:Sto,(∀(i:Nat) (o:O),G[i]?=some o->Z[S.length+i]?=some o)->Td (bo [] evs) every x Z u:=by
 obtain⟨⟨u,Z⟩,e,⟨G,hG⟩,j,hj,o⟩:=KZ (wu:=wu) (every:=every) hns hna hl lg he hx hn;dsimp only at hG o;subst hG;obtain⟨q,rfl⟩:=Nat.exists_eq_add_of_le hj;refine⟨u,G,e,fun Z hZ=>⟨S.length+q,?_⟩⟩;rcases o with⟨os,h1,h2,h3⟩|⟨ps,h1,h2,h3⟩
 ·rw[ga]at h2;exact .inl ⟨os,h1,hZ _ _ h2,h3⟩
 ·exact .inr ⟨h1,fun⟨os,z1,z2⟩=>by rw[h3 os z1]at z2;cases z2⟩
end
end OQ
namespace OL
open PySem PySem.Spec PyProof.Rows L2 OG OP OQ
abbrev fL(c cA:Cl)(f:Fn->Fn->Fn->Fn->Fn->Fn->Fn->Fn->Fn->Fn->CS):CS:=f rp rq d7 ib Ed Aw (EA c cA) (oG c) (oE c cA) Bv
def rh(wu xu mu:U)(lb ln:Nat)(r4 r8 r9 r10 r11 r12 r13 r14 r15 r16 r17:Option U):Rho:=[none,some (.ref 1),some wu,some xu,r4,some (.ref lb),some mu,some (.ref ln),r8,r9,r10,r11,r12,r13,r14,r15,r16,r17]
section
variable{c cA:Cl}{n w:Int}{x y names boxes:List Int}{evs:List Ev}{lb ln l lo:Nat}{r4 r8 r10 r11 r12 r13 r14 r15 r16 r17:Option U}{S:Sto}{wu:U}
theorem Ba:∀(es:List Ev) (st:OQ.St),(∀a∈aE st,0<=a/\a<200)->mG n w st es->∀a∈aE (bo st es),0<=a/\a<200
 |[],st,hk,_=>hk
 | f::es,st,hk,h=>Ba es (stp st f) (fun a ha=>by
   rw[iD]at ha;cases f with
   |beg b=>
    rcases Qg.mp ha with z|z
    ·exact hk a z
    ·rw[Qh.mp z];exact⟨h.1.1,h.1.2.1⟩
   |_=>exact hk a ha) h.2
structure Tn(n w:Int)(x y names boxes:List Int)(evs:List Ev)(lb ln l lo:Nat)(S:Sto):Prop where
 lg:ja n w 5 evs
 he:evs.length<=24
 n1:n<=6
 gl:S[l]?=some (.lst (evs.map Ev.u))
 go:S[lo]?=some (.lst ((evs.map (evR (nm names 200) (nm boxes n))).map Ev.u))
 gn:S[ln]?=some (.lst (names.map U.int))
 nd:names.Nodup
 nl:names.length=(200:Int).toNat
 nr:∀z∈names,0<=z/\z<200
 bd:boxes.Nodup
 bl:boxes.length=n.toNat
 br:∀z∈boxes,0<=z/\z<n
 mv:Mv (nm boxes n) n x y
theorem Tn.app(h:Tn n w x y names boxes evs lb ln l lo S)(X:Sto):Tn n w x y names boxes evs lb ln l lo (S++X):=⟨h.lg,h.he,h.n1,aq h.gl,aq h.go,aq h.gn,h.nd,h.nl,h.nr,h.bd,h.bl,h.br,h.mv⟩
theorem Tn.hb(h:Tn n w x y names boxes evs lb ln l lo S):∀a t,aR (bo [] evs) a=some t->∀p∈t.nd,0<=p.1/\p.1<n:=fun a t hv p hp=>by
 have:=lN evs [] h.lg.lo Iy a t hv;exact this.1 p ((this.2 p).mp hp)
theorem Tn.oth(h:Tn n w x y names boxes evs lb ln l lo S):ja n w 5 (evs.map (evR (nm names 200) (nm boxes n)))/\bo [] (evs.map (evR (nm names 200) (nm boxes n)))=stR (nm names 200) (nm boxes n) (bo [] evs):=wW (so h.nd h.nl h.nr) (so h.bd h.bl h.br) h.lg
theorem Tn.olen(h:Tn n w x y names boxes evs lb ln l lo S){every:Bool}{os:List Int}(h1:aW os=aS (bo [] evs) every):os.length<=5:=by
 have:=(aN os).length_eq;rw[h1]at this;have:=f9 (st:=bo [] evs) (every:=every);have:=h.lg.cnt;omega
theorem Tn.omem(h:Tn n w x y names boxes evs lb ln l lo S){every:Bool}{os:List Int}(h1:aW os=aS (bo [] evs) every){a:Int}(ha:a∈os):0<=a/\a<200:=by
 have:a∈aS (bo [] evs) every:=by rw[<-h1];exact(aN os).mem_iff.mpr ha
 exact Ba evs [] (fun a ha=>by cases ha) h.lg.lo a (kE this)
theorem Ck(hns:c.ns.length=5)(hna:cA.ns.length=3)(h:Tn n w x y names boxes evs lb ln l lo S){mu:U}{ce:CE}(hce:ce=cCB (EA c cA) (af (ag 1) (af (ag 2) (af (ag 3) (af (ag 0) aD))))) :
  Wp (dQ (iTp (hU (af (cC (.bl true)) (af (cC (.bl false)) aD)))) (gNm 0) ce 1 [2,3,9] (rh wu (.tup (x.map U.int)) mu lb ln r4 r8 (some (.ref l)) r10 r11 r12 r13 r14 r15 r16 r17) S) fun r=>∃t0 t1 G,r=(.ref S.length,S++(.lst [t0,t1]::G))/\Td (bo [] evs) true x r.2 t0/\Td (bo [] evs) false x r.2 t1:=by
 have hx:=h.mv.lx;have n1:=h.n1;have he:=h.he;obtain⟨u0,G0,e0,d0⟩:=Ag (c:=c) (cA:=cA) (wu:=wu) (every:=true) (x:=x) hns hna (h.app [.lst []]).gl h.lg (by omega) hx (by omega);obtain⟨u1,G1,e1,d1⟩:=Ag (c:=c) (cA:=cA) (wu:=wu) (every:=false) (x:=x) hns hna (S:=S++(.lst [u0]::G0)) (h.app _).gl h.lg (by omega) hx (by omega);refine JZ (S1:=S) (u1:=.bl true) (u2:=.bl false) (cs:=[some wu,some (.tup (x.map U.int)),some (.ref l)]) rfl rfl ?_;subst hce;generalize x.map U.int=xu at e0 e1 ⊢;rwa[e0,aJ];refine⟨G0,rfl,?_⟩;rwa[e1,aJ];refine⟨G1,rfl,u0,u1,_,rfl,?_,?_⟩
 ·refine d0 _ fun i o hi=>?_;rw[Q7,Qw,Nat.add_assoc,ga,Nat.add_comm 1 i,QN];exact aq hi
 ·refine d1 _ fun i o hi=>?_;rw[Q7,QU,Nat.add_assoc,ga,show G0.length+1+i=(G0.length+i)+1 by omega,QN,ga];exact hi
theorem DV(hns:c.ns.length=5)(hna:cA.ns.length=3)(h:Tn n w x y names boxes evs lb ln l lo S){every:Bool}{lt:Nat}{t0 t1:U}(gt:S[lt]?=some (.lst [t0,t1]))(d0:Td (bo [] evs) true x S t0)(d1:Td (bo [] evs) false x S t1) :
  Wp (fL c cA oC (rh wu (.tup (x.map U.int)) (.tup (y.map U.int)) lb ln r4 r8 (some (.ref l)) (some (.ref lo)) (some (.ref lt)) r12 r13 (some (.bl every)) r15 r16 r17) S) fun r=>r.1=.nx/\∃r15' r16' G,r.2=(rh wu (.tup (x.map U.int)) (.tup (y.map U.int)) lb ln r4 r8 (some (.ref l)) (some (.ref lo)) (some (.ref lt)) r12 r13 (some (.bl every)) r15' r16' r17,S++G):=by
 have hs:=so h.nd h.nl h.nr;have hb:=so h.bd h.bl h.br;have n1:=h.n1;have he:=h.he;obtain⟨lgo,ro⟩:=h.oth;obtain⟨u2,G2,e2,d2⟩:=Ag (c:=c) (cA:=cA) (wu:=wu) (every:=every) (x:=y) hns hna h.go lgo (by rw[Q6];omega) h.mv.ly (by omega);have d2:=d2 (S++G2) fun i o hi=>by rw[ga];exact hi
 rw[ro]at d2;obtain⟨t,dt,ix⟩:∃t,Td (bo [] evs) every x S t/\kIx (.int (if every then 0 else 1)) S (some (.lst [t0,t1]))=some (t,S):=by
  cases every
  ·exact⟨t1,d1,rfl⟩
  ·exact⟨t0,d0,rfl⟩
 have fi:IF [.bl (!every)] S=some (.int (if every then 0 else 1),S):=by cases every<;>rfl
 have hr:=DI (every:=every) hs hb h.hb h.mv;have dn:∀Z:Sto,fIx (.tup [.str "none",.ref 0]) (.int 0) Z=some (.str "none",Z):=fun Z=>rfl;unfold fL oC rh;obtain⟨xu,hxu⟩:∃xu,xu=x.map U.int:=⟨_,rfl⟩;obtain⟨yu,hyu⟩:∃yu,yu=y.map U.int:=⟨_,rfl⟩;rw[<-hyu]at e2;rw[<-hxu,<-hyu];obtain⟨j,⟨os,rfl,gj,s1,s2⟩|⟨rfl,hno⟩⟩:=dt
 ·obtain⟨j2,⟨hg2,rfl⟩|⟨hn2,rfl⟩⟩:=d2.word
  ·have x0:fIx (.tup [.str "good",.ref j2]) (.int 0) (S++G2)=some (.str "good",S++G2):=rfl;have b1:decide (("good":Str)="good")=true:=by decide
   have b2:decide (("good":Str)≠"good")=false:=by decide
   rwa[fi,gt,ix,e2,x0,b1,b2,aJ];repeat with_reducible refine Wp.bind ?_
   refine Ci (S1:=S++G2) (xs:=os) (f:=U.int) (v:=fun a=>.int (nm names 200 a)) (cs:=[some (.ref ln)]) (uq (l:=j) (us:=os.map U.int) (by rwa[]) (aq gj)) (fun G=>aq (aq gj)) (by have:=h.olen s1;omega) rfl (fun a ha G=>?_) (fun G=>?_)
   ·have e1:=qD h.nl (h.omem s1 ha).1 (h.omem s1 ha).2;have gn:(S++(G2++G))[ln]?=some (.lst (names.map U.int)):=aq h.gn;generalize names.map U.int=nu at e1 gn;rwa[gn,e1,aJ];exact⟨trivial,[],by rw[QB]⟩
   ·obtain⟨o1,o2⟩:=De hs hb h.hb h.mv s1 s2;have em:os.map (fun a=>U.int (nm names 200 a))=(os.map (nm names 200)).map U.int:=by rw[QM];rfl
    have go':(S++G2++(O.lst ((os.map (nm names 200)).map U.int)::G))[lo]?=some (.lst ((evs.map (evR (nm names 200) (nm boxes n))).map Ev.u)):=aq (aq h.go);obtain⟨G3,e3⟩:=si (c:=c) (cA:=cA) (x:=y) (every:=every) (wu:=wu) (lo:=(S++G2).length) (os:=os.map (nm names 200)) hns hna go' (by rw[ga0];rfl) lgo (by rw[Q6];omega) (by omega) (by omega) h.mv.ly (by have:=h.olen s1;rw[Q6];omega);rw[ro,decide_eq_true o1,o2,<-hyu]at e3;rw[em];obtain⟨Z,hZ⟩:∃Z,Z=S++G2++(O.lst ((os.map (nm names 200)).map U.int)::G):=⟨_,rfl⟩;rw[<-hZ]at e3 ⊢;have bt:(!(true&&true))=false:=rfl;rwa[e3,bt,aJ];exact⟨trivial,_,_,G2++(O.lst ((os.map (nm names 200)).map U.int)::(G++G3)),by rw[hZ];simp only[Q3,Qk];rfl⟩
  ·exact absurd (hr.mpr ⟨os,s1,s2⟩) hn2
 ·obtain⟨j2,⟨hg2,rfl⟩|⟨hn2,rfl⟩⟩:=d2.word
  ·exact absurd (hr.mp hg2) hno
  ·have x0:fIx (.tup [.str "none",.ref j2]) (.int 0) (S++G2)=some (.str "none",S++G2):=rfl;have b1:decide (("none":Str)="good")=false:=by decide
   have b2:decide (("none":Str)≠"none")=false:=by decide
   rwa[fi,gt,ix,e2,x0,b1,b2,aJ];exact⟨trivial,_,_,_,rfl⟩
theorem kO{i:Nat}{ce:CE}{c2:CS}{ρ:Rho}{Q:Out×Rho×Sto->Prop}(h:Wp (ce ρ S) fun r=>Wp (c2 (ρ.set i (some r.1)) r.2) Q):Wp (bB (cY i ce) c2 ρ S) Q:=by
 obtain⟨⟨u,S1⟩,e,r,e2,q⟩:=h;refine⟨r,?_,q⟩;unfold bB cY;rw[e];exact e2
theorem Hu{st:OQ.St}{mu:U}{lt:Nat}{t0 t1:U}(gt:S[lt]?=some (.lst [t0,t1]))(d0:Td st true x S t0)(d1:Td st false x S t1){ρ:Rho}(hρ:ρ[11]?=some (some (.ref lt))) :
  eB (uO (aL (cOp fEq (cOp fIx (cOp fIx (ag 11) (cC (.int 0))) (cC (.int 0))) (cC (.str "good")))) (aL (cOp fNe (cOp fIx (cOp fIx (ag 11) (cC (.int 1))) (cC (.int 0))) (cC (.str "good"))))) (eV (cC (.bl false))) b6 ρ S=some (.nx,ρ,S):=by
 have v:ag 11 ρ S=some (.ref lt,S):=by unfold ag;rw[hρ]
 have a0:kIx (.int 0) S (some (.lst [t0,t1]))=some (t0,S):=rfl;have a1:kIx (.int 1) S (some (.lst [t0,t1]))=some (t1,S):=rfl;have xg:∀j,fIx (.tup [.str "good",.ref j]) (.int 0) S=some (.str "good",S):=fun j=>rfl;have xn:∀j,fIx (.tup [.str "none",.ref j]) (.int 0) S=some (.str "none",S):=fun j=>rfl;have b1:decide (("good":Str)="good")=true:=by decide
 have b2:decide (("good":Str)≠"good")=false:=by decide
 have b3:decide (("none":Str)="good")=false:=by decide
 obtain⟨j0,⟨h0,rfl⟩|⟨h0,rfl⟩⟩:=d0.word
 ·obtain⟨j1,⟨h1,rfl⟩|⟨h1,rfl⟩⟩:=d1.word
  ·rwa[v,gt,a0,a1,xg,b1,b2]
  ·obtain⟨os,z1,z2⟩:=h0;exact absurd ⟨_,(sV z1 z2).2⟩ h1
 ·rwa[v,gt,a0,xn,b3]
theorem fl{b:Int}{l:List Int}:g6 (.int b)=true/\(l.map U.int).all g6=true:=⟨rfl,DQ l⟩
theorem Ht(hns:c.ns.length=5)(hna:cA.ns.length=3)(h:Tn n w x y names boxes evs lb ln l lo S){mu:U}{lt ld:Nat}{t0 t1:U}(gt:S[lt]?=some (.lst [t0,t1]))(d0:Td (bo [] evs) true x S t0)(gd:S[ld]?=some (.lst ((aS (bo [] evs) false).map U.int))) :
  Wp (eB (aL (cOp fEq (cOp fIx (cOp fIx (ag 11) (cC (.int 0))) (cC (.int 0))) (cC (.str "good")))) (bB (cY 13 (dC (iTp (cOp fIx (cOp fIx (ag 11) (cC (.int 0))) (cC (.int 1)))) (gNm 0) (aL (cOp (fIn false) (ag 0) (ag 1))) (ag 0) 1 [12]))
  (eB (Br (aL (cCB (oE c cA) (af (ag 2) (af (ag 3) (af (ag 9) (af (cC (.bl false)) (af (ag 13) aD)))))))) (eV (cC (.bl false))) b6)) b6 (rh wu (.tup (x.map U.int)) mu lb ln r4 r8 (some (.ref l)) r10 (some (.ref lt)) (some (.ref ld)) r13 r14 r15 r16 r17) S) fun r=>∃r13' G,r=(.nx,rh wu (.tup (x.map U.int)) mu lb ln r4 r8 (some (.ref l)) r10 (some (.ref lt)) (some (.ref ld)) r13' r14 r15 r16 r17,S++G):=by
 have n1:=h.n1;have he:=h.he;have a0:kIx (.int 0) S (some (.lst [t0,t1]))=some (t0,S):=rfl;have b1:decide (("good":Str)="good")=true:=by decide
 have b3:decide (("none":Str)="good")=false:=by decide
 unfold rh;obtain⟨xu,hxu⟩:∃xu,xu=x.map U.int:=⟨_,rfl⟩;rw[<-hxu];obtain⟨j,⟨os,rfl,gj,s1,s2⟩|⟨rfl,hno⟩⟩:=d0
 ·have x0:fIx (.tup [.str "good",.ref j]) (.int 0) S=some (.str "good",S):=rfl;have x1:fIx (.tup [.str "good",.ref j]) (.int 1) S=some (.ref j,S):=rfl;rwa[gt,a0,x0,b1,aJ];repeat with_reducible refine Wp.bind ?_
  refine vy (S1:=S) (xs:=os) (f:=U.int) (p:=fun a=>decide (a∈aS (bo [] evs) false)) (v:=U.int) (cs:=[some (.ref ld)]) (uq (l:=j) (us:=os.map U.int) (by rwa[gt,a0,x1]) gj) (fun G=>aq gj) (by have:=h.olen s1;omega) rfl (fun a ha G=>?_) (fun G=>?_)
  ·have gd':(S++G)[ld]?=some (.lst ((aS (bo [] evs) false).map U.int)):=aq gd;rwa[gd',Jx fl,inI,aJ];exact⟨rfl,[],by rw[QB],fun _=>⟨trivial,[],by simp only[QB]⟩⟩
  ·obtain⟨f1,f2,f3⟩:=sV s1 s2;rw[f1];obtain⟨G3,e3⟩:=si (c:=c) (cA:=cA) (S:=S++(O.lst ((os.filter (jF (bo [] evs) false)).map U.int)::G)) (x:=x) (every:=false) (wu:=wu) (lo:=S.length) (os:=os.filter (jF (bo [] evs) false)) hns hna (aq h.gl) (by rw[ga0];rfl) h.lg (by omega) (by omega) (by omega) h.mv.lx (by have:=h.olen s1;have:=List.length_filter_le (jF (bo [] evs) false) os;omega);rw[decide_eq_true f2,f3,<-hxu]at e3;obtain⟨Z,hZ⟩:∃Z,Z=S++(O.lst ((os.filter (jF (bo [] evs) false)).map U.int)::G):=⟨_,rfl⟩;rw[<-hZ]at e3 ⊢;have bt:(!(true&&true))=false:=rfl;rwa[e3,bt,aJ];exact⟨_,O.lst ((os.filter (jF (bo [] evs) false)).map U.int)::(G++G3),by rw[hZ];simp only[Q3,Qk];rfl⟩
 ·have x0:fIx (.tup [.str "none",.ref j]) (.int 0) S=some (.str "none",S):=rfl;rwa[gt,a0,x0,b3,aJ];exact⟨_,[],by rw[QB]⟩
theorem Aj(hns:c.ns.length=5)(hna:cA.ns.length=3)(h:Tn n w x y names boxes evs lb ln l lo S){lt:Nat}{t0 t1:U}(gt:S[lt]?=some (.lst [t0,t1]))(d0:Td (bo [] evs) true x S t0)(d1:Td (bo [] evs) false x S t1) :
  Wp (nA (iTp (hU (af (cC (.bl true)) (af (cC (.bl false)) aD)))) (gNm 14) (fL c cA oC) (rh wu (.tup (x.map U.int)) (.tup (y.map U.int)) lb ln r4 r8 (some (.ref l)) (some (.ref lo)) (some (.ref lt)) r12 r13 r14 r15 r16 r17) S) fun r=>∃r14' r15' r16' G,r=(.nx,rh wu (.tup (x.map U.int)) (.tup (y.map U.int)) lb ln r4 r8 (some (.ref l)) (some (.ref lo)) (some (.ref lt)) r12 r13 r14' r15' r16' r17,S++G):=by
 refine Io (us:=[true,false].map U.bl) (ok:=fun _=>True) (S1:=S) rfl (vx (f:=U.bl) (fun rest ρ Z=>∃r14 r15 r16 G,ρ=rh wu (.tup (x.map U.int)) (.tup (y.map U.int)) lb ln r4 r8 (some (.ref l)) (some (.ref lo)) (some (.ref lt)) r12 r13 r14 r15 r16 r17/\Z=S++G) (fun ρ Z hI=>?_) (fun e rest ρ Z hI=>?_) [true,false] _ _ ⟨r14,r15,r16,[],rfl,by rw[QB]⟩)
 ·obtain⟨r14,r15,r16,G,rfl,rfl⟩:=hI;exact⟨trivial,_,_,_,_,rfl⟩
 ·obtain⟨r14,r15,r16,G,rfl,rfl⟩:=hI;refine⟨trivial,.of (r:=(rh wu (.tup (x.map U.int)) (.tup (y.map U.int)) lb ln r4 r8 (some (.ref l)) (some (.ref lo)) (some (.ref lt)) r12 r13 (some (.bl e)) r15 r16 r17,S++G)) rfl ?_⟩;refine Wp.mono (DV hns hna (h.app G) (aq gt) (d0.app G) (d1.app G)) fun r hr=>?_;obtain⟨q,r15',r16',G',hr⟩:=hr;exact .inl ⟨q,_,_,_,G++G',by rw[hr],by rw[hr,Q3]⟩
theorem Hs{st:OQ.St}{lt:Nat}{t0 t1 u:U}(gt:S[lt]?=some (.lst [t0,t1]))(d0:Td st true x S t0)(hu:u=.non->n6 st true x){ρ:Rho}(hρ:ρ[11]?=some (some (.ref lt)))(h7:ρ[17]?=some (some u)) :
  eB (uO (aL (cOp HI (ag 17) (cC .non))) (aL (cOp fNe (cOp fIx (cOp fIx (ag 11) (cC (.int 0))) (cC (.int 0))) (cC (.str "good"))))) (eV (cC (.bl false))) b6 ρ S=some (.nx,ρ,S):=by
 have v:ag 11 ρ S=some (.ref lt,S):=by unfold ag;rw[hρ]
 have v7:ag 17 ρ S=some (u,S):=by unfold ag;rw[h7]
 have a0:kIx (.int 0) S (some (.lst [t0,t1]))=some (t0,S):=rfl;have xg:∀j,fIx (.tup [.str "good",.ref j]) (.int 0) S=some (.str "good",S):=fun j=>rfl;have b2:decide (("good":Str)≠"good")=false:=by decide
 have hi:HI u .non S=some (.bl (xl u),S):=rfl;cases hb:xl u with
 |false=>
  rw[hb]at hi;rwa[v7,hi]
 |true=>
  have:u=.non:=by cases u<;>first|rfl|cases hb
  obtain⟨j0,⟨h0,rfl⟩|⟨h0,rfl⟩⟩:=d0.word
  ·rw[hb]at hi;rwa[v7,hi,v,gt,a0,xg,b2]
  ·exact absurd (hu this) h0
theorem xw(hns:c.ns.length=5)(hna:cA.ns.length=3)(h:Tn n w x y names boxes evs lb ln l lo S){mu u:U}{ch:CE}{wd:Str}(hw:(wd="good"/\∀i:Nat,u=.int (i:Int)->∃k,k<=evs.length/\(∀ρ Z,ρ[17]?=some (some u)->ch ρ Z=some (.int ((k:Nat):Int),Z))/\n6 (bo [] (evs.take k)) true x)\/(wd="none"/\∀i:Nat,u=.int (i:Int)->∃k,k<=evs.length/\(∀ρ Z,ρ[17]?=some (some u)->ch ρ Z=some (.int ((k:Nat):Int),Z))/\¬n6 (bo [] (evs.take k)) true x))(hu:u=.non\/∃i:Nat,u=.int (i:Int)) :
  Wp (eB (uO (aL (cOp qQ (ag 17) (cC .non))) (aL (cOp fNe (cOp fIx (cCB (EA c cA) (af (ag 2) (af (ag 3) (af (cSl (ag 9) none (some ch)) (af (cC (.bl true)) aD))))) (cC (.int 0))) (cC (.str wd))))) (eV (cC (.bl false))) b6 (rh wu (.tup (x.map U.int)) mu lb ln r4 r8 (some (.ref l)) r10 r11 r12 r13 r14 r15 r16 (some u)) S) fun r=>∃G,r=(.nx,rh wu (.tup (x.map U.int)) mu lb ln r4 r8 (some (.ref l)) r10 r11 r12 r13 r14 r15 r16 (some u),S++G):=by
 have n1:=h.n1;have he:=h.he;rcases hu with rfl|⟨i,rfl⟩
 ·have hi:qQ .non .non S=some (.bl false,S):=rfl;unfold rh;generalize x.map U.int=xu;rwa[hi,aJ];exact⟨[],by rw[QB]⟩
 ·have hi:qQ (.int (i:Int)) .non S=some (.bl true,S):=rfl;obtain⟨k,hk,hc,hg⟩:∃k,k<=evs.length/\(∀ρ Z,ρ[17]?=some (some (U.int (i:Int)))->ch ρ Z=some (.int ((k:Nat):Int),Z))/\((wd="good"/\n6 (bo [] (evs.take k)) true x)\/(wd="none"/\¬n6 (bo [] (evs.take k)) true x)):=by
   rcases hw with⟨e,f⟩|⟨e,f⟩
   ·obtain⟨k,a,b,d⟩:=f i rfl;exact⟨k,a,b,.inl ⟨e,d⟩⟩
   ·obtain⟨k,a,b,d⟩:=f i rfl;exact⟨k,a,b,.inr ⟨e,d⟩⟩
  have sl:=Cp (ρ:=rh wu (.tup (x.map U.int)) mu lb ln r4 r8 (some (.ref l)) r10 r11 r12 r13 r14 r15 r16 (some (.int (i:Int)))) h.gl (f:=((k:Nat):Int)) (by omega) (by omega) rfl (hc _ S rfl);rw[ZF]at sl;obtain⟨u2,G2,e2,d2⟩:=Ag (c:=c) (cA:=cA) (wu:=wu) (every:=true) (x:=x) (S:=S++[.lst ((evs.take k).map Ev.u)]) (l:=S.length) (evs:=evs.take k) hns hna (by rw[ga0];rfl) (h.lg.take k) (by rw[List.length_take];omega) h.mv.lx (by omega);have d2:=d2 (S++[.lst ((evs.take k).map Ev.u)]++G2) fun i o hi=>by rw[ga];exact hi
  unfold rh at sl ⊢;obtain⟨eu,heu⟩:∃eu,eu=(evs.take k).map Ev.u:=⟨_,rfl⟩;rw[<-heu]at sl e2;generalize x.map U.int=xu at sl e2 ⊢;generalize cSl (ag 9) none (some ch)=cs at sl ⊢;obtain⟨j2,⟨hg2,rfl⟩|⟨hn2,rfl⟩⟩:=d2.word
  ·have x0:∀Z:Sto,fIx (.tup [.str "good",.ref j2]) (.int 0) Z=some (.str "good",Z):=fun Z=>rfl;rcases hg with⟨rfl,_⟩|⟨_,hn⟩
   ·have b2:decide (("good":Str)≠"good")=false:=by decide
    obtain⟨Z,hZ⟩:∃Z,Z=S++[O.lst eu]:=⟨_,rfl⟩;rw[<-hZ]at sl e2;rwa[hi,sl,e2,x0,b2,aJ];exact⟨[O.lst eu]++G2,by rw[hZ,Q3]⟩
   ·exact absurd hg2 hn
  ·have x0:∀Z:Sto,fIx (.tup [.str "none",.ref j2]) (.int 0) Z=some (.str "none",Z):=fun Z=>rfl;rcases hg with⟨_,hn⟩|⟨rfl,_⟩
   ·exact absurd hn hn2
   ·have b2:decide (("none":Str)≠"none")=false:=by decide
    obtain⟨Z,hZ⟩:∃Z,Z=S++[O.lst eu]:=⟨_,rfl⟩;rw[<-hZ]at sl e2;rwa[hi,sl,e2,x0,b2,aJ];exact⟨[O.lst eu]++G2,by rw[hZ,Q3]⟩
end
section
variable{c cA:Cl}{n w:Int}{x y names boxes:List Int}{r4 r8 r9 r10 r11 r12 r13 r14 r15 r16 r17:Option U}
theorem Cj(hns:c.ns.length=5)(hna:cA.ns.length=3)(ns:List Int)(T:Sto){tb tn:Nat}{a c1:Int}(ha:0<=a)(hc:0<=c1)(n0:1<=n)(n1:n<=6)(w0:2<=w)(w1:w<=1000)(hs:x.length=n.toNat)(bs:∀z∈x,0<=z/\z<w)
  (gb:T[tb]?=some (.lst (boxes.map U.int))) (gn:T[tn]?=some (.lst (names.map U.int))) (nd:names.Nodup) (nl:names.length=(200:Int).toNat) (nr:∀z∈names,0<=z/\z<200) (bd:boxes.Nodup) (bl:boxes.length=n.toNat) (br:∀z∈boxes,0<=z/\z<n) (mv:Mv (nm boxes n) n x y) :
  Wp (fL c cA rk (rh (.tup [.int n,.int w]) (.tup (x.map U.int)) (.tup (y.map U.int)) (tb+1+1) (tn+1+1) r4 r8 r9 r10 r11 r12 r13 r14 r15 r16 r17) (scr ns::pen a c1::T)) fun r=>r.1=.nx/\∃r9' r10' r11' r12' r13' r14' r15' r16' r17' a' c1' G,r.2=(rh (.tup [.int n,.int w]) (.tup (x.map U.int)) (.tup (y.map U.int)) (tb+1+1) (tn+1+1) r4 r8 r9' r10' r11' r12' r13' r14' r15' r16' r17',scr ns::pen a' c1'::(T++G))/\0<=a'/\0<=c1':=by
 obtain⟨evs,a1,c2,G,k,e1,g1,lg,le,ha1,hc1⟩:=GZ ns T (most:=5) (size:=24) (state:=x) ha hc n0 n1 w0 w1 hs bs (by omega) (by omega) (by omega) (by omega);have le':evs.length<=24:=le;unfold fL rk;refine kO (.of (r:=(.ref (T.length+k+1+1),scr ns::pen a1 c2::(T++G))) ?_ ?_)
 ·unfold rh;generalize x.map U.int=xu at e1 ⊢;rwa[e1]
 have gl:(scr ns::pen a1 c2::(T++G))[T.length+k+1+1]?=some (.lst (evs.map Ev.u)):=by
  rw[QN,QN,ga];exact g1
 have gb1:(scr ns::pen a1 c2::(T++G))[tb+1+1]?=some (.lst (boxes.map U.int)):=aq gb;have gn1:(scr ns::pen a1 c2::(T++G))[tn+1+1]?=some (.lst (names.map U.int)):=aq gn;have e2:=GL gl gn1 gb1 nl bl (HM evs [] (fun a ha=>by cases ha) lg.lo) (by omega);obtain⟨S1,h1⟩:∃S1,S1=scr ns::pen a1 c2::(T++G):=⟨_,rfl⟩;have pre:∀X,S1++X=scr ns::pen a1 c2::(T++(G++X)):=fun X=>by rw[h1,Qk,Qk,Q3]
 rw[<-h1]at gl gb1 gn1 e2;rw[<-h1];refine kO (.of (r:=(.ref S1.length,S1++[.lst ((evs.map (evR (nm names 200) (nm boxes n))).map Ev.u)])) ?_ ?_)
 ·unfold rh;generalize x.map U.int=xu;generalize (evs.map (evR (nm names 200) (nm boxes n))).map Ev.u=ou at e2 ⊢;rwa[e2,List.set]
 obtain⟨S2,h2⟩:∃S2,S2=S1++[O.lst ((evs.map (evR (nm names 200) (nm boxes n))).map Ev.u)]:=⟨_,rfl⟩;have tn2:Tn n w x y names boxes evs (tb+1+1) (tn+1+1) (T.length+k+1+1) S1.length S2:=⟨lg,le',n1,by rw[h2];exact aq gl,by rw[h2,ga0];rfl,by rw[h2];exact aq gn1,nd,nl,nr,bd,bl,br,mv⟩;rw[<-h2];refine kO (Wp.mono (Ck (c:=c) (cA:=cA) hns hna tn2 rfl) fun r hr=>?_);obtain⟨t0,t1,G3,rfl,d0,d1⟩:=hr;obtain⟨S3,h3⟩:∃S3,S3=S2++(O.lst [t0,t1]::G3):=⟨_,rfl⟩;have gt:S3[S2.length]?=some (.lst [t0,t1]):=by rw[h3,ga0];rfl
 have tn3:=tn2.app (O.lst [t0,t1]::G3);dsimp only at d0 d1 ⊢;rw[<-h3]at d0 d1 tn3 ⊢;obtain⟨G4,k4,e4,g4⟩:=yy (c:=c) (every:=false) hns tn3.gl lg (by omega) (by omega);refine kO (.of (r:=(.ref (S3.length+k4),S3++G4)) ?_ ?_)
 ·unfold rh;generalize x.map U.int=xu;rwa[e4,List.set]
 have gd:(S3++G4)[S3.length+k4]?=some (.lst ((aS (bo [] evs) false).map U.int)):=by rw[ga];exact g4
 refine Eh (.of (Hu (mu:=.non) (aq gt) (d0.app G4) (d1.app G4) rfl) ⟨rfl,?_⟩);refine Eh (Wp.mono (Ht hns hna (tn3.app G4) (aq gt) (d0.app G4) gd) fun r hr=>?_);obtain⟨r13',G5,rfl⟩:=hr;refine⟨rfl,?_⟩;refine Eh (Wp.mono (Aj hns hna ((tn3.app G4).app G5) (aq (aq gt)) ((d0.app G4).app G5) ((d1.app G4).app G5)) fun r hr=>?_);obtain⟨r14',r15',r16',G6,rfl⟩:=hr;refine⟨rfl,?_⟩;have tn6:=((tn3.app G4).app G5).app G6;have d6:=((d0.app G4).app G5).app G6;have gt6:(S3++G4++G5++G6)[S2.length]?=some (.lst [t0,t1]):=aq (aq (aq gt));obtain⟨u,e7,fo⟩:=K2 (us:=[.tup [.int n,.int w],.tup (x.map U.int),.ref (T.length+k+1+1)]) (S:=S3++G4++G5++G6) ⟨rfl,tn6.gl,lg,by omega,hs,by omega⟩;refine kO (.of (r:=(u,S3++G4++G5++G6)) ?_ ?_)
 ·unfold rh;generalize x.map U.int=xu at e7 ⊢;generalize S3++G4++G5++G6=Z at e7 ⊢;rwa[e7,List.set]
 have hu:u=.non\/∃i:Nat,u=.int (i:Int):=by
  rcases fo with⟨rfl,_⟩|⟨i,_,rfl,_⟩
  ·exact .inl rfl
  ·exact .inr ⟨i+1,rfl⟩
 refine Eh (.of (Hs gt6 d6 (fun hu=>?_) rfl rfl) ⟨rfl,?_⟩)
 ·rcases fo with⟨_,h⟩|⟨i,_,z,_⟩
  ·have:=h evs.length;rw[List.take_length]at this;exact this
  ·have hu':u=.non:=hu;rw[hu']at z;cases z
 refine Eh (Wp.mono (xw (wd:="none") (ch:=ag 17) hns hna tn6 (.inr ⟨rfl,fun i hi=>?_⟩) hu) fun r hr=>?_)
 ·rcases fo with⟨rfl,h⟩|⟨i',hl,rfl,h,h'⟩
  ·cases hi
  ·exact⟨i'+1,hl,fun ρ Z hρ=>by unfold ag;rw[hρ],h'⟩
 obtain⟨G8,rfl⟩:=hr;refine⟨rfl,?_⟩;refine Wp.mono (xw (wd:="good") (ch:=cOp HH (ag 17) (cC (.int 1))) hns hna (tn6.app G8) (.inl ⟨rfl,fun i hi=>?_⟩) hu) fun r hr=>?_
 ·rcases fo with⟨rfl,h⟩|⟨i',hl,rfl,h,h'⟩
  ·cases hi
  ·refine⟨i',by omega,fun ρ Z hρ=>?_,h i' (QX _)⟩;have v7:ag 17 ρ Z=some (.int ((i'+1:Nat):Int),Z):=by unfold ag;rw[hρ]
   have es:((i'+1:Nat):Int)-1=(i':Int):=by omega
   rwa[v7,es]
 obtain⟨G9,rfl⟩:=hr;obtain⟨Gz,hz⟩:∃Gz,S3++G4++G5++G6++G8++G9=scr ns::pen a1 c2::(T++Gz):=⟨_,by
  rw[h3,h2];simp only[Q3];exact pre _⟩
 rw[hz];exact⟨rfl,_,_,_,_,_,_,_,_,_,a1,c2,Gz,rfl,ha1,hc1⟩
end
theorem Gi{Y:Sto}{l:Nat}{ls:List Int}{k:Int}(h:Y[l]?=some (.lst (ls.map U.int)))(k0:0<=k)(k1:k<(ls.length:Int))(hl:ls.length<=900):fO (.ref l) [.int k] Y=some (.int (ls.getD k.toNat 0),Y.set l (.lst ((ls.eraseIdx k.toNat).map U.int))):=by
 have hk:k.toNat<ls.length:=by omega
 have hc:0<=k/\k<((ls.map U.int).length:Int)/\(ls.map U.int).length<=LIM:=by rw[Q6];exact⟨k0,k1,by unfold LIM;omega⟩
 have he:(ls.map U.int).eraseIdx k.toNat=(ls.eraseIdx k.toNat).map U.int:=(jv _ _ _).symm;simp only[fO,h];rw[if_pos hc,QC,Q4 hk,he,Qm,Q4 hk];rfl
theorem sW:∀{ls:List Int} {k:Nat},k<ls.length->(ls.getD k 0::ls.eraseIdx k).Perm ls
 |x::r,0,_=>List.Perm.refl _
 |x::r,k+1,h=>by
  have ih:=sW (ls:=r) (k:=k) (by rw[QU]at h;omega);exact(List.Perm.swap x (r.getD k 0) (r.eraseIdx k)).trans (ih.cons x)
theorem yn(ns:List Int)(T:Sto):∀(us:List U) (r:Option U) (ys ls:List Int) {a c:Int},0<=a->0<=c->us.length=ls.length->ys.length+ls.length<=900->
  ∃(zs:List Int) (a' c':Int),gH (fun _=>True) (gNm 0) (cBM fO (ag 1) (af (cCB d7 (af (ag 2) (af (cCB l5 (af (ag 1) aD)) aD))) aD)) (T.length+1+1+1) us [r,some (.ref (T.length+1+1)),some (.ref 1)] (scr ns::pen a c::(T++[.lst (ls.map U.int),.lst (ys.map U.int)]))
   = some (scr ns::pen a' c'::(T++[.lst [],.lst (zs.map U.int)]))/\zs.Perm (ys++ls)/\0<=a'/\0<=c'
 |[],r,ys,ls,a,c,ha,hc,hl,_=>by
  have:ls=[]:=List.eq_nil_of_length_eq_zero hl.symm;subst this;exact⟨ys,a,c,kI trivial,by rw[QB],ha,hc⟩
 |u::us,r,ys,ls,a,c,ha,hc,hl,hy=>by
  rw[QU]at hl;obtain⟨k,a1,c1,h1,p1,q1,ha1,hc1⟩:=cW ns (T++[.lst (ls.map U.int),.lst (ys.map U.int)]) (m:=(ls.length:Int)) ha hc (by omega) (l9 (by omega) (by omega));have hk:k.toNat<ls.length:=by omega
  obtain⟨zs,a2,c2,h2,pz,ha2,hc2⟩:=yn ns T us (some u) (ys++[ls.getD k.toNat 0]) (ls.eraseIdx k.toNat) ha1 hc1 (by rw[List.length_eraseIdx];split<;>omega) (by rw[Q7,Qw,List.length_eraseIdx];split<;>omega);refine⟨zs,a2,c2,?_,pz.trans ?_,ha2,hc2⟩
  ·have ll:((ls.map U.int).length:Int)=(ls.length:Int):=by rw[Q6]
   have gl:(scr ns::pen a1 c1::(T++[O.lst (ls.map U.int),.lst (ys.map U.int)]))[T.length+1+1]?=some (.lst (ls.map U.int)):=by
    simp only[QN];rw[ga0];rfl
   have hp:=Gi gl p1 q1 (by omega);have es:(scr ns::pen a1 c1::(T++[O.lst (ls.map U.int),.lst (ys.map U.int)])).set (T.length+1+1) (.lst ((ls.eraseIdx k.toNat).map U.int))=scr ns::pen a1 c1::(T++[.lst ((ls.eraseIdx k.toNat).map U.int),.lst (ys.map U.int)]):=by
    simp only[List.set_cons_succ];rw[gs0];rfl
   rw[es]at hp;refine(g8 (ρ0:=[some u,some (.ref (T.length+1+1)),some (.ref 1)]) (S0:=scr ns::pen a c::(T++[.lst (ls.map U.int),.lst (ys.map U.int)])) (S1:=scr ns::pen a1 c1::(T++[.lst ((ls.eraseIdx k.toNat).map U.int),.lst (ys.map U.int)])) (x:=.int (ls.getD k.toNat 0)) (ys:=ys.map U.int) trivial rfl ?_ ?_ (by unfold LIM;rw[Q6];omega)).trans ?_
   ·rwa[ll,h1,hp]
   ·simp only[QN];rw[ga];rfl
   ·rw[<-h2];congr 1;simp only[List.set_cons_succ];rw[gs,QK];rfl
  ·rw[Q3];exact List.Perm.append_left _ (sW hk)
section
variable{n:Int}{x zs:List Int}{lb:Nat}{S:Sto}{ρ:Rho}
theorem nS(p:zs.Perm ((Qr n.toNat).map fun i:Nat=>(i:Int))):zs.Nodup/\zs.length=n.toNat/\∀z∈zs,0<=z/\z<n:=by
 refine⟨p.nodup_iff.mpr (List.Pairwise.map _ (fun a b h e=>h (by omega)) List.nodup_range),by rw[p.length_eq];simp,fun z hz=>?_⟩;obtain⟨i,hi,rfl⟩:=QF.mp (p.mem_iff.mp hz);have:=List.mem_range.mp hi;omega
def mvd(x zs:List Int)(n:Int):List Int:=(Qr n.toNat).map fun i:Nat=>x.getD (zs.idxOf (i:Int)) 0
theorem GV(p:zs.Perm ((Qr n.toNat).map fun i:Nat=>(i:Int)))(hx:x.length=n.toNat):Mv (nm zs n) n x (mvd x zs n):=by
 obtain⟨nd,ln,br⟩:=nS p;refine⟨hx,by simp[mvd],fun k h0 h1=>?_⟩;have hk:k.toNat<zs.length:=by omega
 have e:nm zs n k=zs[k.toNat]:=by
  unfold nm;rw[if_pos ⟨h0,h1⟩,Qm,Q4 hk];rfl
 obtain⟨b0,b1⟩:=br _ (List.getElem_mem hk);have hr:(zs[k.toNat]).toNat<n.toNat:=by omega
 rw[e];unfold mvd;rw[Qm,QC,List.getElem?_range hr];show x.getD (zs.idxOf (((zs[k.toNat]).toNat:Nat):Int)) 0=_;rw[show(((zs[k.toNat]).toNat:Nat):Int)=zs[k.toNat]by omega,nd.idxOf_getElem]
theorem zY(p:zs.Perm ((Qr n.toNat).map fun i:Nat=>(i:Int)))(hx:x.length=n.toNat)(n1:n<=6)(gb:S[lb]?=some (.lst (zs.map U.int))){ci:CI}(hi:ci ρ S=some ((Qr n.toNat).map fun i:Nat=>U.int (i:Int),fun _=>True,S))(hr:kB 1 [3,5] ρ=[none,some (.tup (x.map U.int)),some (.ref lb)]) :
  Wp (cCB g7 (af (dQ ci (gNm 0) (cOp fIx (ag 1) (cBM l6 (ag 2) (af (ag 0) aD))) 1 [3,5]) aD) ρ S) fun r=>∃G,r=(.tup ((mvd x zs n).map U.int),S++G):=by
 obtain⟨nd,ln,br⟩:=nS p;refine Mj ?_;refine Ci (S1:=S) (xs:=Qr n.toNat) (f:=fun i:Nat=>U.int (i:Int)) (v:=fun i:Nat=>U.int (x.getD (zs.idxOf (i:Int)) 0)) (cs:=[some (.tup (x.map U.int)),some (.ref lb)]) hi (fun _=>trivial) (by rw[List.length_range];omega) hr (fun i hi G=>?_) (fun G=>?_)
 ·have hm:(i:Int)∈zs:=p.mem_iff.mpr (QF.mpr ⟨i,hi,rfl⟩);have gb':(S++G)[lb]?=some (.lst (zs.map U.int)):=aq gb;have ix:l6 (.ref lb) [.int (i:Int)] (S++G)=some (.int (zs.idxOf (i:Int):Nat),S++G):=by
   have hL:zs.length<=LIM:=by unfold LIM;omega
   simp only[l6,gb',gZ,Q8,hm,hL,and_self,if_true]
  have hl:=List.idxOf_lt_length_of_mem hm;have e1:=atF (first:=x) (b:=(zs.idxOf (i:Int):Nat)) hx (by omega) (by omega);rw[ZF]at e1;generalize x.map U.int=xu at e1 ⊢;rwa[gb',ix,e1,aJ];exact⟨trivial,[],by rw[QB]⟩
 ·have em:(mvd x zs n).map U.int=(Qr n.toNat).map fun i:Nat=>U.int (x.getD (zs.idxOf (i:Int)) 0):=by unfold mvd;rw[QM];rfl
  rw[em];generalize (Qr n.toNat).map (fun i:Nat=>U.int (x.getD (zs.idxOf (i:Int)) 0))=mu;have g0:(S++(O.lst mu::G))[S.length]?=some (.lst mu):=by rw[ga0];rfl
  rwa[g0,aJ];exact⟨_,rfl⟩
end
section
variable{c cA:Cl}
theorem G7(hns:c.ns.length=5)(hna:cA.ns.length=3)(ns:List Int)(a c1:Int)(ha:0<=a)(hc:0<=c1):∃ρ' S',(fL c cA uM) [none,some (.ref 1),none,none,none,none,none,none,none,none,none,none,none,none,none,none,none,none] [.lst (ns.map U.int),.lst [.ref 0,.int a,.int c1]]=some (.rt (.bl true),ρ',S'):=by
 have go:Wp ((fL c cA uM) [none,some (.ref 1),none,none,none,none,none,none,none,none,none,none,none,none,none,none,none,none] [.lst (ns.map U.int),.lst [.ref 0,.int a,.int c1]]) fun r=>r.1=.rt (.bl true):=by
  obtain⟨n,w,a1,c2,G,e1,n0,n1,w0,w1,ha1,hc1⟩:=y1 ns [] ha hc;rw[Qj]at e1;obtain⟨x,a2,c3,G2,e2,hs,bs,ha2,hc2⟩:=zg ns G ha1 hc1 n0 n1 w0 w1;obtain⟨T,hT⟩:∃T,T=G++G2:=⟨_,rfl⟩;rw[<-hT]at e2;show Wp (fL c cA uM _ [scr ns,pen a c1]) _;unfold fL uM;refine kO (.of (r:=(.tup [.int n,.int w],scr ns::pen a1 c2::G)) ?_ ?_)
  ·rwa[e1]
  refine kO (.of (r:=(.tup (x.map U.int),scr ns::pen a2 c3::T)) ?_ ?_)
  ·rwa[e2,List.set]
  have er:cq 0 n.toNat=((Qr n.toNat).map fun i:Nat=>(i:Int)).map U.int:=lh _;refine kO (.of (r:=(.ref (T.length+1+1),scr ns::pen a2 c3::(T++[.lst (((Qr n.toNat).map fun i:Nat=>(i:Int)).map U.int)]))) ?_ ?_)
  ·unfold fU;have v:af (cOp fIx (ag 2) (cC (.int 0))) aD (List.set (List.set [none,some (U.ref 1),none,none,none,none,none,none,none,none,none,none,none,none,none,none,none,none] 2 (some (.tup [.int n,.int w]))) 3 (some (.tup (x.map U.int)))) (scr ns::pen a2 c3::T)=some ([.int n],scr ns::pen a2 c3::T):=rfl;rw[v,Q8];dsimp only;rw[if_pos ⟨by omega,by omega⟩,er];rfl
  obtain⟨zs,a3,c4,h3,pz,ha3,hc3⟩:=yn ns T (cq 0 n.toNat) none [] ((Qr n.toNat).map fun i:Nat=>(i:Int)) ha2 hc2 (by simp[cq]) (by simp;omega);rw[Qj]at pz;obtain⟨nd,ln,br⟩:=nS pz;have hb:-(2^62)<=n/\n<2^62:=by omega
  refine kO (.of (r:=(.ref (T.length+1+1+1),scr ns::pen a3 c4::(T++[.lst [],.lst (zs.map U.int)]))) ?_ ?_)
  ·have hi:∀Z:Sto,cX (af (cOp fIx (ag 2) (cC (.int 0))) aD) [none,some (U.ref 1),some (.tup [.int n,.int w]),some (.tup (x.map U.int)),some (.ref (T.length+1+1)),none,none,none,none,none,none,none,none,none,none,none,none,none] Z=some (cq 0 n.toNat,fun _=>True,Z):=fun Z=>by
    have v:af (cOp fIx (ag 2) (cC (.int 0))) aD [none,some (U.ref 1),some (.tup [.int n,.int w]),some (.tup (x.map U.int)),some (.ref (T.length+1+1)),none,none,none,none,none,none,none,none,none,none,none,none,none] Z=some ([.int n],Z):=rfl;unfold cX;rw[v,Q8];simp only[hb,and_self,if_true]
   show dQ (cX (af (cOp fIx (ag 2) (cC (.int 0))) aD)) (gNm 0) _ 1 [4,1] [none,some (U.ref 1),some (.tup [.int n,.int w]),some (.tup (x.map U.int)),some (.ref (T.length+1+1)),none,none,none,none,none,none,none,none,none,none,none,none,none] _=_;unfold dQ;rw[hi,Q8];have hrho:kB 1 [4,1] [none,some (U.ref 1),some (.tup [.int n,.int w]),some (.tup (x.map U.int)),some (.ref (T.length+1+1)),none,none,none,none,none,none,none,none,none,none,none,none,none]=[none,some (.ref (T.length+1+1)),some (.ref 1)]:=rfl;have ed:(scr ns::pen a2 c3::(T++[O.lst (((Qr n.toNat).map fun i:Nat=>(i:Int)).map U.int)])).length=T.length+1+1+1:=by simp
   have KU:(scr ns::pen a2 c3::(T++[O.lst (((Qr n.toNat).map fun i:Nat=>(i:Int)).map U.int)]))++[O.lst []]=scr ns::pen a2 c3::(T++[.lst (((Qr n.toNat).map fun i:Nat=>(i:Int)).map U.int),.lst []]):=by simp
   dsimp only;rw[hrho,ed,KU];have h':gH (fun _=>True) (gNm 0) (cBM fO (ag 1) (af (cCB d7 (af (ag 2) (af (cCB l5 (af (ag 1) aD)) aD))) aD)) (T.length+1+1+1) (cq 0 n.toNat) [none,some (.ref (T.length+1+1)),some (.ref 1)] (scr ns::pen a2 c3::(T++[.lst (((Qr n.toNat).map fun i:Nat=>(i:Int)).map U.int),.lst []]))=_:=h3;rw[h',Q8]
  have gb:(T++[O.lst [],.lst (zs.map U.int)])[T.length+1]?=some (.lst (zs.map U.int)):=by rw[ga];rfl
  refine kO (Wp.mono (zY (x:=x) (n:=n) (zs:=zs) (lb:=T.length+1+1+1) pz hs n1 gb ?_ rfl) fun r hr=>?_)
  ·have v:∀Z:Sto,af (cOp fIx (ag 2) (cC (.int 0))) aD [none,some (U.ref 1),some (.tup [.int n,.int w]),some (.tup (x.map U.int)),some (.ref (T.length+1+1)),some (.ref (T.length+1+1+1)),none,none,none,none,none,none,none,none,none,none,none,none] Z=some ([.int n],Z):=fun Z=>rfl;rw[<-FW];show cX (af (cOp fIx (ag 2) (cC (.int 0))) aD) [none,some (U.ref 1),some (.tup [.int n,.int w]),some (.tup (x.map U.int)),some (.ref (T.length+1+1)),some (.ref (T.length+1+1+1)),none,none,none,none,none,none,none,none,none,none,none,none] _=_;unfold cX;rw[v,Q8];simp only[hb,and_self,if_true]
  obtain⟨G4,rfl⟩:=hr;obtain⟨T2,hT2⟩:∃T2,T2=T++[O.lst [],.lst (zs.map U.int)]++G4:=⟨_,rfl⟩;have gb2:T2[T.length+1]?=some (.lst (zs.map U.int)):=by rw[hT2];exact aq gb
  obtain⟨left,names,a5,c6,e5,nl,nnd,nr,ha5,hc5⟩:=sv ns T2 (m:=200) ha3 hc3 (by omega) (by omega);refine kO (.of (r:=(.ref (T2.length+1+1+1),scr ns::pen a5 c6::(T2++[.lst (left.map U.int),.lst (names.map U.int)]))) ?_ ?_)
  ·show cCB ib (af (ag 1) (af (cC (.int 200)) aD)) _ (scr ns::pen a3 c4::(T++[O.lst [],.lst (zs.map U.int)]++G4))=_;rw[<-hT2];rwa[e5,List.set]
  obtain⟨T3,hT3⟩:∃T3,T3=T2++[O.lst (left.map U.int),.lst (names.map U.int)]:=⟨_,rfl⟩;have gn3:T3[T2.length+1]?=some (.lst (names.map U.int)):=by rw[hT3,ga];rfl
  have gb3:T3[T.length+1]?=some (.lst (zs.map U.int)):=by rw[hT3];exact aq gb2
  rw[<-hT3];refine Eh (Io (us:=(Qr 2).map fun i:Nat=>U.int (i:Int)) (ok:=fun _=>True) (S1:=scr ns::pen a5 c6::T3) rfl (vx (f:=fun i:Nat=>U.int (i:Int)) (fun rest ρ Z=>∃r8 r9 r10 r11 r12 r13 r14 r15 r16 r17 a' c' G,ρ=rh (.tup [.int n,.int w]) (.tup (x.map U.int)) (.tup ((mvd x zs n).map U.int)) (T.length+1+1+1) (T2.length+1+1+1) (some (.ref (T.length+1+1))) r8 r9 r10 r11 r12 r13 r14 r15 r16 r17/\Z=scr ns::pen a' c'::(T3++G)/\0<=a'/\0<=c') (fun ρ Z hI=>?_) (fun e rest ρ Z hI=>?_) (Qr 2) _ _ ⟨none,none,none,none,none,none,none,none,none,none,a5,c6,[],rfl,by rw[QB],ha5,hc5⟩))
  ·refine⟨trivial,rfl,?_⟩;exact .of rfl rfl
  ·obtain⟨r8,r9,r10,r11,r12,r13,r14,r15,r16,r17,a',c',G,rfl,rfl,ha',hc'⟩:=hI;refine⟨trivial,.of (r:=(rh (.tup [.int n,.int w]) (.tup (x.map U.int)) (.tup ((mvd x zs n).map U.int)) (T.length+1+1+1) (T2.length+1+1+1) (some (.ref (T.length+1+1))) (some (.int (e:Int))) r9 r10 r11 r12 r13 r14 r15 r16 r17,scr ns::pen a' c'::(T3++G))) rfl ?_⟩;refine Wp.mono (Cj (c:=c) (cA:=cA) hns hna ns (T3++G) (tb:=T.length+1) (tn:=T2.length+1) ha' hc' n0 n1 w0 w1 hs bs (aq gb3) (aq gn3) nnd nl nr nd ln br (GV pz hs)) fun r hr=>?_;obtain⟨q,r9',r10',r11',r12',r13',r14',r15',r16',r17',a'',c'',G',hr,h1,h2⟩:=hr;exact .inl ⟨q,_,_,_,_,_,_,_,_,_,_,a'',c'',G++G',by rw[hr],by rw[hr,Q3],h1,h2⟩
 obtain⟨⟨o,ρ',S'⟩,e,rfl⟩:=go;exact⟨ρ',S',e⟩
end
section
variable{P:Program}{w:World}{K:Q1}{mg:Str->Option Value}{base:Heap}
theorem kZ:aP ["script"] ["script"] (aw jO):=⟨rfl,rfl,rfl,by decide +kernel,rfl,by decide +kernel,by decide +kernel⟩
theorem DJ{k:Nat}(B:Blt mg)(d:Def K mg "_law_pen" jO ["script"]):Has P w K mg base "_law_pen" (k+1) ["script"] (AO K):=by
 refine d.has kZ (fun vs H Q E h=>?_) (fun f cdv A outer s H vs Q E hr h=>?_)
 ·obtain⟨a,ns,rfl,_⟩:=h;rfl
 obtain⟨a,ns,rfl,hS,q⟩:=h;have nd:=kZ.nd;refine⟨_,(rE (vb (vh (dR (mS p5 rfl B.list OG.mr (dR (oP vP (wpv 0) rH (rG ao)) iP)) (dR ao (dR ao iP)))))),?_⟩;refine⟨_,rfl,_,rfl,a,_,rfl,hS,fun p hp=>⟨p,_,rfl,.inl (SqL.of aG),fun l hl=>⟨(by show 3<=sizeLine;decide),fun r hr'=>?_⟩⟩⟩;obtain⟨ms,em⟩:∃ms:List Int,yb (ns.map V.int) none (some 63)=ms.map V.int:=⟨_,Aq _ _ _⟩;rw[em]at hl hr' ⊢;refine q r l _ (((cV hp _).trans (cV hl _)).trans (cV hr' _)) ⟨ms,0,0,aG,?_,cf aG hr',by decide,by decide⟩ ?_
 ·rw[bj (cf aG hr')];exact aG
 ·exact(((cV hp _).trans (cV hl _))).free hr'
end
theorem HZ{l:PySem.W.OpenLaw}{w:World}{K:Q1}{h:Heap}{mg:Str->Option Value}{fa:Addr}(X:K.In h)(G:h.Ns mainGlobals mg)(hfa:mg "law"=some (.ref fa))
  {CCourse:Addr}
  {CAsking:Addr}
  {tk1:Tok}
  (ds:Il K [("_law_take",iS),("_law_world",gR),("_law_state",gS),("_law_names",gT),("_law_put_in",fY),("_law_event",gU),("_law_log",jP),("course_of",iR),("is_whole",jK),("is_asked",jM),("asked_in",jN),("asked",qz),("fits",vU),("state_with",gP),("is_order",jL),("asking_few",gQ),("place_behind",ff),("ways_on",k8),("order_or_table",d8),("good",vT),("first_bad",iQ),("_law_put_otherwise",cN),("_law_pen",jO),("law",Cs)])
  (cl_Course:EC K "Course" CCourse ["ends","looks","needs","puts","before"] [("__init__","Course.__init__",fZ),("note_look","Course.note_look",dj),("enter","Course.enter",fg),("follow","Course.follow",eR)])
  (cl_Asking:EC K "Asking" CAsking ["course","ones","needed"] [("__init__","Asking.__init__",f6),("may_be_next","Asking.may_be_next",cP),("is_good","Asking.is_good",d9)])
  (g1:PySem.W.nsIn K mainGlobals "MOST_ASKED"=some (some (.int (8) tk1)))
  (zs:IJ K LO) :
  ∃fd:FuncData,(∀(s:Shared) (v:Value),BindsTo s fd ⟨[v],[]⟩ [("script",v)])/\∀base:Heap,K.In base->base.Ns mainGlobals mg->kh l.prog w K mg base CX0 7 fa fd ["script"] (zh K):=by
 obtain⟨d__law_take,d__law_world,d__law_state,d__law_names,d__law_put_in,d__law_event,d__law_log,d_course_of,d_is_whole,d_is_asked,d_asked_in,d_asked,d_fits,d_state_with,d_is_order,d_asking_few,d_place_behind,d_ways_on,d_order_or_table,d_good,d_first_bad,d__law_put_otherwise,d__law_pen,d_law,-⟩:=ds;obtain⟨m_Course_init,m_Course_note_look,m_Course_enter,m_Course_follow,-⟩:=cl_Course.ms;have TCourse:=cl_Course.tc;obtain⟨m_Asking_init,m_Asking_may_be_next,m_Asking_is_good,-⟩:=cl_Asking.ms;have TAsking:=cl_Asking.tc;have C_MOST_ASKED:=My X G g1;have B:=zs.blt X G;refine Ha d_law X G hfa fun fd F_law base=>?_;have Gp:=DJ (P:=l.prog) (w:=w) (base:=base) (k:=0) B (d__law_pen.df X G);have aC:=qN (P:=l.prog) (w:=w) (base:=base) (k:=0) (d__law_take.df X G) B;have ig:=pE (P:=l.prog) (w:=w) (base:=base) (k:=1) (d__law_world.df X G) B aC;have ik:=pF (P:=l.prog) (w:=w) (base:=base) (k:=1) (d__law_state.df X G) B aC;have dc:=pG (P:=l.prog) (w:=w) (base:=base) (k:=1) (d__law_names.df X G) B aC;have gB:=n8 (P:=l.prog) (w:=w) (base:=base) (k:=0) (d__law_put_in.df X G) B;have iq:=pH (P:=l.prog) (w:=w) (base:=base) (k:=1) (d__law_event.df X G) B aC;have jW:=ux (P:=l.prog) (w:=w) (base:=base) (k:=2) (d__law_log.df X G) B dc (Has.mono aC (by decide)) iq (Has.mono gB (by decide));have M_Course_note_look:=jy (P:=l.prog) (w:=w) (base:=base) (k:=0) (m_Course_note_look.mt) B TCourse;have M_Course_enter:=mK (P:=l.prog) (w:=w) (base:=base) (k:=0) (m_Course_enter.mt) B TCourse;have M_Course_follow:=lU (P:=l.prog) (w:=w) (base:=base) (k:=1) (m_Course_follow.mt) B TCourse M_Course_enter M_Course_note_look;have M_Course_init:=n9 (P:=l.prog) (w:=w) (base:=base) (k:=0) (cl_Course.mkd m_Course_init X G) B TCourse;have b7:=qM (P:=l.prog) (w:=w) (base:=base) (k:=1) (d_course_of.df X G) B TCourse M_Course_follow M_Course_init;have jV:=ur (P:=l.prog) (w:=w) (base:=base) (k:=0) (d_is_whole.df X G) B;have eJ:=uv (P:=l.prog) (w:=w) (base:=base) (k:=0) (d_is_asked.df X G) B TCourse;have eK:=uw (P:=l.prog) (w:=w) (base:=base) (k:=1) (d_asked_in.df X G) B TCourse eJ;have rB:=DK (P:=l.prog) (w:=w) (base:=base) (k:=3) (d_asked.df X G) B (Has.mono eK (by decide)) b7;have yH:=HA (P:=l.prog) (w:=w) (base:=base) (k:=0) (d_fits.df X G) B TCourse;have c7:=pC (P:=l.prog) (w:=w) (base:=base) (k:=0) (d_state_with.df X G) B TCourse;have M_Asking_init:=oe (P:=l.prog) (w:=w) (base:=base) (k:=2) (cl_Asking.mkd m_Asking_init X G) B TAsking TCourse eK (Has.mono eJ (by decide));have M_Asking_may_be_next:=iH (P:=l.prog) (w:=w) (base:=base) (k:=1) (m_Asking_may_be_next.mt) B TAsking yH;have M_Asking_is_good:=ko (P:=l.prog) (w:=w) (base:=base) (k:=2) (m_Asking_is_good.mt) B TAsking (Has.mono c7 (by decide)) M_Asking_may_be_next;have iF:=uu (P:=l.prog) (w:=w) (base:=base) (k:=3) (d_is_order.df X G) B TAsking (Has.mono jV (by decide)) (Has.mono b7 (by decide)) (M_Asking_is_good.mono (by decide)) M_Asking_init;have c9:=pD (P:=l.prog) (w:=w) (base:=base) (k:=3) (d_asking_few.df X G) B C_MOST_ASKED TAsking (Has.mono b7 (by decide)) M_Asking_init;have fC:=mJ (P:=l.prog) (w:=w) (base:=base) (k:=1) (d_place_behind.df X G) B TAsking c7;have mE:=xB (P:=l.prog) (w:=w) (base:=base) (k:=2) (d_ways_on.df X G) B TAsking fC M_Asking_may_be_next;have bK:=kn (P:=l.prog) (w:=w) (base:=base) (k:=3) (fuel:=9000) (d_order_or_table.df X G) B TAsking mE;have nE:=Hz (P:=l.prog) (w:=w) (base:=base) (k:=5) (d_good.df X G) B (Has.mono bK (by decide)) c9;have jb:=qL (P:=l.prog) (w:=w) (base:=base) (k:=4) (d_first_bad.df X G) B TCourse TAsking c9 (Has.mono bK (by decide)) (M_Course_follow.mono (by decide)) (M_Asking_is_good.mono (by decide)) (M_Course_init.mono (by decide)) (M_Asking_init.mono (by decide));have cS:=iG (P:=l.prog) (w:=w) (base:=base) (k:=0) (d__law_put_otherwise.df X G) B;exact KW (P:=l.prog) (w:=w) (base:=base) (k:=6) F_law B (Has.mono Gp (by decide)) (Has.mono ig (by decide)) (Has.mono ik (by decide)) (Has.mono aC (by decide)) (Has.mono dc (by decide)) (Has.mono jW (by decide)) (Has.mono cS (by decide)) nE (Has.mono rB (by decide)) (Has.mono iF (by decide)) jb fun ns a c ha hc=>G7 (c:=⟨CCourse,_⟩) (cA:=⟨CAsking,_⟩) rfl rfl ns a c ha hc
theorem Mi{l:PySem.W.OpenLaw}{q:Program}{loose:List Str}{XP:(Str->Option Value)->Heap->Prop}{YP:World->Heap->Prop}{d:DefRec}{K:Params->Q1}(hn:l.most=some 63)(hdf:d.params.defaults=[])
  (hY:∀(w:World) (h:Heap),YP w h->(K w.params).In h)
  (F:∀(w:World) (mg:Str->Option Value) (fa:Addr) (h:Heap),(K w.params).In h->h.Ns mainGlobals mg->mg d.name=some (.ref fa)->
   ∃fd:FuncData,(∀(s:Shared) (u:Value),BindsTo s fd ⟨[u],[]⟩ [("script",u)])/\∀base:Heap,(K w.params).In base->base.Ns mainGlobals mg->kh l.prog w (K w.params) mg base CX0 7 fa fd ["script"] (zh (K w.params))) :
  PySem.W.WalkO q loose XP YP l.row.toRowW d [] (fun f vs=>PySem.call f vs):=
 L2.Cg (n:=63) (k:=7) (x:="script") (CX:=fun _=>CX0) (sp:=fun w=>zh (K w.params)) hn (by decide) hdf ⟨rfl,by decide,by decide,rfl⟩ hY F (fun _ _ a ns hl _ hS=>⟨a,ns,rfl,hS,hl,fun _=>rfl⟩) fun _ _ _ _ _ z=>z
end OL
namespace PySem.W.Fast
def tw3891760424364844796:=0
def tw5023277472514946555:=0
def tw3639255620541673478:=0
def tw15538166549001629182:=0
def tw5098511012946984963:=0
def tw10711466843786125953:=0
def tw2674220627301509300:=0
def tw8694467935494800999:=0
def tw6289719506090009308:=0
def tw2003640098371900275:=0
def tw6905258690166192789:=0
def tw12461706501535282300:=0
def tw15215610272308151809:=0
def tw17382137038962814210:=0
def tw7493987736713101177:=0
def tw15869161381712074782:=0
def tw18163492550003553877:=0
def tw5758911563594854270:=0
def tw8207046295968728391:=0
def tw10977111189965678751:=0
def tw8195419373820195592:=0
def tw7541293070876126151:=0
def tw193657825267008773:=0
def tw7450339469190540776:=0
def tw2828956676329358125:=0
def tw4031638021700533411:=0
def tw13883891719808354267:=0
def tw10187593271770546005:=0
def tw18162767776666950300:=0
def tw8456764766597798818:=0
def tw13796241287814382466:=0
def tw18047889304503365358:=0
def tw14457352543518264801:=0
def tw16413561599465099442:=0
def tw13708546669936007330:=0
def tw4569836498465593668:=0
def tw15354122604881006408:=0
def tw16602127954870994781:=0
def tw4518067161958798922:=0
def tw17248059940883950901:=0
def tw12773478168047760184:=0
def tw3952651187430830841:=0
def tw5154345105306632006:=0
def tw12484686667050965587:=0
def tw17427510251753859585:=0
def tw8941664534498575400:=0
def tw18152049421462456186:=0
def tw5146333038406967658:=0
def tw11774313461304307894:=0
def tw7806009481542486140:=0
def tw18132253468422809004:=0
def tw8928833412349101469:=0
def tw1260698597448847356:=0
def tw519683165730361345:=0
def tw8363929692970227082:=0
def tw14431006084102973692:=0
def tw13194124247737591557:=0
def tw3499519938323211209:=0
def tw18032761168271903751:=0
def tw7671508851465377765:=0
def tw13431164588655966074:=0
def tw3221171724603412572:=0
def tw16845377189733020666:=0
def tw3010125626351159800:=0
def tw12439489917551760225:=0
def tw3872269306474520323:=0
def tw18346975057573172534:=0
def tw10879354965364986536:=0
def tw12789876376998022021:=0
def tw6505297617765859732:=0
def tw10711266817662554247:=0
def tw13864755929267219205:=0
def tw9626945281332986205:=0
def tw6233140289547368999:=0
def tw14079308161372408565:=0
def tw1296945496750688882:=0
def tw6130291744974224204:=0
def tw9114767001639741245:=0
def tw16564259271007108489:=0
def tw10041929006447835804:=0
def tw5575671654173280610:=0
def tw16064963093517648049:=0
def tw1814561295070573847:=0
def tw13438005535012694766:=0
def tw14180344878706222252:=0
def tw12632505179495345185:=0
def tw2614382944626120708:=0
def tw6127195882025274201:=0
def tw5154058041224509928:=0
def tw1193235527200526930:=0
def tw1364705722825470041:=0
def tw12159079455444117001:=0
def tw13930720249928524967:=0
def tw1733732170018601383:=0
def tw13115148465642194729:=0
def tw9560392075467103149:=0
def tw4357488001521615380:=0
def tw222236199131589717:=0
def tw14545261120584159691:=0
def tw18280994146439658661:=0
def tw16496938562620422418:=0
def tw18254340987467351546:=0
def tw11555283786483840763:=0
def tw12263532297610663830:=0
def tw9968751118845579530:=0
def tw17957915683330384627:=0
def tw12191843415402461264:=0
def tw13528115250059168468:=0
def tw10267268709029266729:=0
def tw3198464751894384904:=0
def tw15507666940430703555:=0
def tw13547581149537798150:=0
def tw13805060944685746660:=0
def tw1568765166719820565:=0
def tw14483268843208778157:=0
def tw755389439889224927:=0
def tw5405352280838462127:=0
def tw35018185009883933:=0
def tw194939129131455133:=0
def tw14192006998002746041:=0
def tw3650063451525048996:=0
def tw13444808459571570709:=0
def tw14430896484205844154:=0
def tw1255156839218909:=0
def tw8866763676998319275:=0
def tw947615871091097185:=0
def tw4891303936490904853:=0
def tw5751140255162351653:=0
def tw11075728198796433326:=0
def tw15827452388089103937:=0
def tw17441494837688834154:=0
def tw11936806150525521167:=0
def tw13824150331027360123:=0
def tw578028751883899628:=0
def tw8641710168210327565:=0
def tw14036331211444632418:=0
def tw3715998905237651152:=0
def tw11963231919685884887:=0
def tw1225594420608957404:=0
def tw4525825545488079654:=0
def tw4009108736231544651:=0
def tw9858122729139733623:=0
def tw8165454187937993727:=0
def tw12281366884377823912:=0
def tw16675565363722235331:=0
def tw11906234593659296349:=0
def tw12178326148744959490:=0
def tw1867004985831275409:=0
def tw11772207917609616996:=0
def tw17733556460488674119:=0
def tw15855069113890456860:=0
def tw4243635505945137404:=0
def tw2209751050118488106:=0
def tw1724650458026648255:=0
def tw9619523699226189581:=0
def tw2731281737919983218:=0
def tw15382531998330298104:=0
def tw10268340819515402431:=0
end PySem.W.Fast
open PySem PySem.W PyProof.Rows
open OP in
set_option maxRecDepth 100000 in
set_option maxHeartbeats 0 in
theorem PySem.Challenge.cw_oneglance_k24_whole_all_and_done_ones_holds : PySem.Challenge.rw_oneglance_k24_whole_all_and_done_ones.Holds := by
 w_on; o_law; k_head; (case hw => w_witness2)
 k_fill
 refine OL.Mi (l := PySem.Challenge.rw_oneglance_k24_whole_all_and_done_ones) rfl rfl (fun w h Y => PySem.W.kIn_of Y) ?F;case F =>
  intro w mg fa h KX G hmg;refine' OL.HZ KX G hmg ?ds ?cl_Course ?cl_Asking ?g1 ?zs
  (case ds => (repeat (refine' ⟨Mw ?a ?l ?c ?k, ?_⟩; (case a => k_is); (case l => k_is); (case c => k_is); (case k => k_is))); exact trivial)
  (case cl_Course => (refine' ⟨?a, ?b, ?c, ?d, ?e, ?f, ?g, ?n, ?m⟩; (case a => k_is); (case b => k_is); (case c => k_is); (case d => k_is); (case e => k_is); (case f => k_is); (case g => k_is); (case n => (repeat (refine' ⟨?a, ?_⟩; (case a => k_is))); exact trivial); (case m => (repeat (refine' ⟨Lx ?a ?i ?l ?c ?k, ?_⟩; (case a => k_is); (case i => k_is); (case l => k_is); (case c => k_is); (case k => k_is))); exact trivial)))
  (case cl_Asking => (refine' ⟨?a, ?b, ?c, ?d, ?e, ?f, ?g, ?n, ?m⟩; (case a => k_is); (case b => k_is); (case c => k_is); (case d => k_is); (case e => k_is); (case f => k_is); (case g => k_is); (case n => (repeat (refine' ⟨?a, ?_⟩; (case a => k_is))); exact trivial); (case m => (repeat (refine' ⟨Lx ?a ?i ?l ?c ?k, ?_⟩; (case a => k_is); (case i => k_is); (case l => k_is); (case c => k_is); (case k => k_is))); exact trivial)))
  (case g1 => k_is)
  (case zs => (repeat (refine' ⟨?a, ?_⟩; (case a => k_is))); exact trivial)
